package shop

import (
	"sort"

	"martensite/api"
)

// floor is num / den, rounded down; den is above 0.
func floor(num, den int) int {
	n := num / den
	if num%den < 0 {
		n--
	}
	return n
}

// ceiling is num / den, rounded up; den is above 0.
func ceiling(num, den int) int { return -floor(-num, den) }

// readingsError is the error of the readings of a bath.
func readingsError(l []api.ShopBath) api.Errno {
	if e := countError(len(l), 2, api.MaxShopReadings); e != api.OK {
		return e
	}
	_, e := firstError(len(l), func(i int) api.Errno {
		return firstOf(
			rangeError(0, api.MaxShopTicks, l[i].Tick),
			limitsError(l[i].Value),
			errorIf(i > 0 && l[i].Tick <= l[i-1].Tick, api.ErrOrder))
	})
	return e
}

// BathAt is the value of a bath at a tick.
func BathAt(l []api.ShopBath, tick int) (api.Range, api.Errno) {
	if e := readingsError(l); e != api.OK {
		return api.Range{}, e
	}
	if e := rangeError(l[0].Tick, l[len(l)-1].Tick, tick); e != api.OK {
		return api.Range{}, e
	}
	next := 1 + sort.Search(len(l)-2, func(i int) bool { return l[i+1].Tick >= tick })
	a, b := l[next-1], l[next]
	width := b.Tick - a.Tick
	// This is the height of a line between both readings, times their distance.
	height := func(from, to int) int { return from*(b.Tick-tick) + to*(tick-a.Tick) }
	return api.Range{
		Lo: floor(height(a.Value.Lo, b.Value.Lo), width),
		Hi: ceiling(height(a.Value.Hi, b.Value.Hi), width),
	}, api.OK
}

// NextCheck is the tick at which a bath must be checked.
func NextCheck(l []api.ShopBath, limits api.Range) (int, api.Errno) {
	if e := firstOf(readingsError(l), limitsError(limits)); e != api.OK {
		return 0, e
	}
	a, b := l[len(l)-2], l[len(l)-1]
	if b.Value.Lo < limits.Lo || b.Value.Hi > limits.Hi {
		return 0, api.ErrBreak
	}
	check, isKnown := 0, false
	// A line leaves at the first tick at which it has come nearer to its limit than its room at the last reading.
	leave := func(room, nearer int) {
		if nearer <= 0 {
			return
		}
		tick := b.Tick + room*(b.Tick-a.Tick)/nearer + 1
		if !isKnown || tick < check {
			check, isKnown = tick, true
		}
	}
	leave(b.Value.Lo-limits.Lo, a.Value.Lo-b.Value.Lo)
	leave(limits.Hi-b.Value.Hi, b.Value.Hi-a.Value.Hi)
	return check, errorIf(!isKnown, api.ErrNone)
}
