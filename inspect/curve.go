package inspect

import (
	"sort"

	"martensite/api"
)

// curve is asked for the place of a knot, and for its number there. It goes straight from each knot to the next one.
type curve func(knot int) (place, number int)

// at is the number of a curve at a place, which is from that of the first knot to that of the last one of so many.
func (c curve) at(place, knots int) api.Frac {
	next := 1 + sort.Search(knots-2, func(i int) bool {
		z, _ := c(i + 1)
		return z >= place
	})
	y, v := c(next - 1)
	z, w := c(next)
	return lowest(v*(z-y)+(w-v)*(place-y), z-y)
}

// fall is where a curve with so many knots falls below a limit; false if it never does.
func (c curve) fall(limit, knots int) (api.Frac, bool) {
	for i := range knots {
		z, w := c(i)
		if w >= limit {
			continue
		}
		if i == 0 {
			return lowest(z, 1), true
		}
		y, v := c(i - 1)
		return lowest(y*(v-w)+(v-limit)*(z-y), v-w), true
	}
	return api.Frac{}, false
}
