package heat

import "slices"

// ratio is num / den, which need not be in lowest terms; den is above 0.
type ratio struct{ num, den int }

// corner is a corner of a polyline.
type corner struct{ x, y int }

// polyline is straight lines between corners, whose x ascend.
type polyline []corner

// lineOf is the polyline through items.
func lineOf[T any](items []T, cornerOf func(T) corner) polyline {
	var l polyline
	for _, x := range items {
		l = append(l, cornerOf(x))
	}
	return l
}

// whole is a whole number as a ratio.
func whole(n int) ratio { return ratio{n, 1} }

// floor is a ratio rounded down.
func (r ratio) floor() int {
	n := r.num / r.den
	if r.num%r.den < 0 {
		n--
	}
	return n
}

// ceiling is a ratio rounded up.
func (r ratio) ceiling() int { return -ratio{-r.num, r.den}.floor() }

// less is whether a ratio is less than another one.
func (r ratio) less(s ratio) bool { return r.num*s.den < s.num*r.den }

// covers is whether a number lies from the first corner to the last one.
func (l polyline) covers(x int) bool {
	return len(l) > 0 && l[0].x <= x && x <= l[len(l)-1].x
}

// at is the exact height at x: before the first corner that of the first one, after the last corner that of the last one, without corners 0.
func (l polyline) at(x ratio) ratio {
	if len(l) == 0 {
		return whole(0)
	}
	next := slices.IndexFunc(l, func(c corner) bool { return c.x*x.den >= x.num })
	switch next {
	case -1:
		return whole(l[len(l)-1].y)
	case 0:
		return whole(l[0].y)
	}
	a, b := l[next-1], l[next]
	width := b.x - a.x
	return ratio{a.y*x.den*width + (x.num-a.x*x.den)*(b.y-a.y), x.den * width}
}

// turned is a polyline, whose y ascend, with x and y exchanged.
func (l polyline) turned() polyline {
	return lineOf(l, func(c corner) corner { return corner{c.y, c.x} })
}

// below is whether a polyline is below another one anywhere. Between their corners, and beside them, both are straight: it is enough to look at the corners.
func (l polyline) below(m polyline) bool {
	return slices.ContainsFunc(slices.Concat(l, m), func(c corner) bool {
		return l.at(whole(c.x)).less(m.at(whole(c.x)))
	})
}
