package shop

import (
	"slices"

	"martensite/api"
)

// lotsError is the error of lots and a capacity.
func lotsError(l []api.ShopLot, capacity int) api.Errno {
	if len(l) > api.MaxShopLots {
		return api.ErrLarge
	}
	names := map[string]bool{}
	_, e := firstError(len(l), func(i int) api.Errno {
		x := l[i]
		e := firstOf(
			nameError(x.Name, x.Heat),
			errorIf(names[x.Name], api.ErrExists),
			rangeError(1, api.MaxShopParts, x.Parts))
		names[x.Name] = true
		return e
	})
	return firstOf(e, rangeError(1, api.MaxShopParts, capacity))
}

// byHeats are lots, heat by heat, in the order of the first lot of each.
func byHeats(l []api.ShopLot) [][]api.ShopLot {
	var groups [][]api.ShopLot
	group := map[string]int{}
	for _, x := range l {
		i, isKnown := group[x.Heat]
		if !isKnown {
			i = len(groups)
			group[x.Heat] = i
			groups = append(groups, nil)
		}
		groups[i] = append(groups[i], x)
	}
	return groups
}

// filled are the baskets of lots of one heat.
func filled(l []api.ShopLot, capacity int) []api.ShopBasket {
	var baskets []api.ShopBasket
	room := 0
	for _, x := range l {
		for left := x.Parts; left > 0; {
			if room == 0 {
				baskets = append(baskets, api.ShopBasket{})
				room = capacity
			}
			open := &baskets[len(baskets)-1]
			parts := min(left, room)
			open.Shares = append(open.Shares, api.ShopShare{Lot: x.Name, Parts: parts})
			left -= parts
			room -= parts
		}
	}
	return baskets
}

// store is lots by their names, and how many of their parts lie in baskets.
type store struct {
	lots   map[string]api.ShopLot
	packed map[string]int
}

// storeOf is the store of lots without an error, none of whose parts lie in baskets.
func storeOf(l []api.ShopLot) store {
	s := store{lots: map[string]api.ShopLot{}, packed: map[string]int{}}
	for _, x := range l {
		s.lots[x.Name] = x
	}
	return s
}

// take puts the shares of a basket into it, if it has no error.
func (s store) take(shares []api.ShopShare, capacity int) api.Errno {
	if len(shares) == 0 {
		return api.ErrShape
	}
	isInside := map[string]bool{}
	sum := 0
	_, e := firstError(len(shares), func(i int) api.Errno {
		x := shares[i]
		lot, isLot := s.lots[x.Lot]
		e := firstOf(
			errorIf(!isLot, api.ErrMissing),
			errorIf(isInside[x.Lot], api.ErrDouble),
			rangeError(1, api.MaxShopParts, x.Parts),
			errorIf(lot.Heat != s.lots[shares[0].Lot].Heat, api.ErrClash))
		if e == api.OK {
			isInside[x.Lot] = true
			s.packed[x.Lot] += x.Parts
			sum += x.Parts
		}
		return e
	})
	return firstOf(e, errorIf(sum > capacity, api.ErrFull))
}

// BasketsOf are the baskets of lots.
func BasketsOf(l []api.ShopLot, capacity int) ([]api.ShopBasket, api.Errno) {
	if e := lotsError(l, capacity); e != api.OK {
		return nil, e
	}
	var baskets []api.ShopBasket
	for _, lots := range byHeats(l) {
		baskets = append(baskets, filled(lots, capacity)...)
	}
	if len(baskets) > api.MaxShopBaskets {
		return nil, api.ErrFull
	}
	return baskets, api.OK
}

// CheckBaskets accepts baskets that are right, and returns their number.
func CheckBaskets(l []api.ShopLot, capacity int, baskets []api.ShopBasket) (int, api.Errno) {
	e := firstOf(
		lotsError(l, capacity),
		errorIf(len(baskets) > api.MaxShopBaskets, api.ErrLarge))
	if e != api.OK {
		return 0, e
	}
	s := storeOf(l)
	_, e = firstError(len(baskets), func(i int) api.Errno { return s.take(baskets[i].Shares, capacity) })
	if e != api.OK {
		return 0, e
	}
	isPartly := func(x api.ShopLot) bool { return s.packed[x.Name] != x.Parts }
	if slices.ContainsFunc(l, isPartly) {
		return 0, api.ErrProof
	}
	return len(baskets), api.OK
}
