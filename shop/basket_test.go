package shop_test

import (
	"math/rand"
	"slices"
	"strconv"
	"testing"

	"martensite/api"
	"martensite/shop"
)

// badLots are lots with an error.
type badLots struct {
	l []api.ShopLot
	e api.Errno
}

// allBadLots are lots with errors.
func allBadLots() []badLots {
	p, none := lot("p", "h", 5), lot("", "", 0)
	l := []badLots{
		{slices.Repeat(lots(none), 9), api.ErrLarge},
		{slices.Repeat(lots(p), 9), api.ErrLarge},
		{lots(p, none), api.ErrName},
		{lots(p, lot("p", "", 0)), api.ErrName},
		{lots(p, lot("p", "h", 0)), api.ErrExists},
		{lots(p, lot("p", "k", 3)), api.ErrExists},
		{lots(p, lot("q", "h", 1), lot("r", "h", 1), lot("q", "h", 1)), api.ErrExists},
		{lots(p, lot("q", "h", 0), none), api.ErrRange},
	}
	for _, name := range noNames() {
		l = append(l, badLots{lots(p, lot(name, "h", 1)), api.ErrName}, badLots{lots(p, lot("q", name, 1)), api.ErrName})
	}
	for _, parts := range append(extremes(), -1, 0, 1001) {
		l = append(l, badLots{lots(p, lot("q", "h", parts)), api.ErrRange})
	}
	return l
}

// badCapacities are not capacities.
func badCapacities() []int { return append(extremes(), -1, 0, 1001) }

// P9.2: the errors of lots and of a capacity
func TestErrorsOfLots(t *testing.T) {
	asked := func(l []api.ShopLot, capacity int, f api.Errno) {
		b, e := shop.BasketsOf(l, capacity)
		want(t, "BasketsOf", b, e, baskets(), f)
		for _, b := range [][]api.ShopBasket{nil, baskets(basket()), make([]api.ShopBasket, 61)} {
			n, e := shop.CheckBaskets(l, capacity, b)
			want(t, "CheckBaskets", n, e, 0, f)
		}
	}
	for _, x := range allBadLots() {
		asked(x.l, 6, x.e)
		asked(x.l, 0, x.e)
	}
	for _, capacity := range badCapacities() {
		asked(nil, capacity, api.ErrRange)
		asked(exampleLots(), capacity, api.ErrRange)
	}
}

// P9.2, example 4, edge cases of full baskets and of a heat in between
func TestBasketsOf(t *testing.T) {
	for _, x := range []struct {
		l        []api.ShopLot
		capacity int
		s        string
	}{
		{exampleLots(), 6, "px5 rx1;rx3;qx3"},
		{exampleLots(), 5, "px5;rx4;qx3"},
		{exampleLots(), 9, "px5 rx4;qx3"},
		{exampleLots(), 1000, "px5 rx4;qx3"},
		{exampleLots(), 2, "px2;px2;px1 rx1;rx2;rx1;qx2;qx1"},
		{lots(lot("q", "k", 3), lot("p", "h", 5), lot("r", "h", 4), lot("s", "k", 3)), 6, "qx3 sx3;px5 rx1;rx3"},
		{lots(lot("p", "h", 6)), 6, "px6"},
		{lots(lot("p", "h", 6), lot("q", "h", 1)), 6, "px6;qx1"},
		{lots(lot("p", "h", 12), lot("q", "h", 6)), 6, "px6;px6;qx6"},
		{lots(lot("p", "h", 1), lot("q", "H", 1)), 6, "px1;qx1"},
		{lots(lot("h", "p", 1), lot("p", "h", 1)), 6, "hx1;px1"},
		{lots(lot("p", "h", 1000), lot("q", "h", 1000)), 1000, "px1000;qx1000"},
		{nil, 6, ""},
		{lots(), 1, ""},
	} {
		b, e := shop.BasketsOf(x.l, x.capacity)
		want(t, "BasketsOf", shop.FormatBaskets(b), e, x.s, api.OK)
		n, e := shop.CheckBaskets(x.l, x.capacity, b)
		want(t, "CheckBaskets", n, e, len(b), api.OK)
	}
}

// P9.2: at most 60 baskets
func TestManyBaskets(t *testing.T) {
	for _, x := range []struct {
		l        []api.ShopLot
		capacity int
		count    int
		e        api.Errno
	}{
		{lots(lot("p", "h", 60)), 1, 60, api.OK},
		{lots(lot("p", "h", 61)), 1, 0, api.ErrFull},
		{lots(lot("p", "h", 120)), 2, 60, api.OK},
		{lots(lot("p", "h", 121)), 2, 0, api.ErrFull},
		{lots(lot("p", "h", 119), lot("q", "k", 1)), 2, 0, api.ErrFull},
		{lots(lot("p", "h", 119), lot("q", "h", 1)), 2, 60, api.OK},
		{lots(lot("p", "h", 1000), lot("q", "h", 1000), lot("r", "k", 1000)), 50, 60, api.OK},
		{lots(lot("p", "h", 1000), lot("q", "h", 1000), lot("r", "k", 1000)), 49, 0, api.ErrFull},
		{lots(lot("p", "h", 1000), lot("q", "k", 1000)), 1, 0, api.ErrFull},
	} {
		b, e := shop.BasketsOf(x.l, x.capacity)
		want(t, "BasketsOf", len(b), e, x.count, x.e)
	}
}

// partByPart are the baskets of lots, into which the parts are put one after the other.
func partByPart(l []api.ShopLot, capacity int) []api.ShopBasket {
	var all []api.ShopBasket
	done := map[string]bool{}
	for _, first := range l {
		if done[first.Heat] {
			continue
		}
		done[first.Heat] = true
		inside := capacity
		for _, x := range l {
			for range x.Parts {
				if x.Heat != first.Heat {
					continue
				}
				if inside == capacity {
					all = append(all, basket())
					inside = 0
				}
				inside++
				shares := &all[len(all)-1].Shares
				if n := len(*shares); n == 0 || (*shares)[n-1].Lot != x.Name {
					*shares = append(*shares, share(x.Name, 0))
				}
				(*shares)[len(*shares)-1].Parts++
			}
		}
	}
	return all
}

// leastBaskets is, for all heats, the sum of their parts divided by the capacity, rounded up.
func leastBaskets(l []api.ShopLot, capacity int) int {
	parts := map[string]int{}
	for _, x := range l {
		parts[x.Heat] += x.Parts
	}
	count := 0
	for _, n := range parts {
		count += ceilingOf(rational(n, capacity))
	}
	return count
}

// P9.2, P9.9: by the definition, and as few as can be
func TestBasketsByDefinition(t *testing.T) {
	random := rand.New(rand.NewSource(92))
	full := 0
	for i := range 3000 {
		most := ints(5, 30, api.MaxShopParts)[i%3]
		l, capacity := someLots(random, most), someNumber(random, 1, most)
		b, e := shop.BasketsOf(l, capacity)
		wanted, f := partByPart(l, capacity), api.OK
		if len(wanted) > api.MaxShopBaskets {
			wanted, f = nil, api.ErrFull
			full++
		}
		want(t, "BasketsOf", b, e, wanted, f)
		if e != api.OK {
			continue
		}
		n, e := shop.CheckBaskets(l, capacity, b)
		want(t, "CheckBaskets", n, e, leastBaskets(l, capacity), api.OK)
	}
	if full < 50 {
		t.Errorf("too few lots that are too large: %d", full)
	}
}

// someBaskets are right baskets of lots: a random lot gives some of its parts to a basket of its heat, or to a new one.
func someBaskets(random *rand.Rand, l []api.ShopLot, capacity int) []api.ShopBasket {
	var all []api.ShopBasket
	heats, sums := map[int]string{}, map[int]int{}
	for _, x := range l {
		for left := x.Parts; left > 0; {
			at := random.Intn(len(all) + 1)
			if at == len(all) {
				all = append(all, basket())
				heats[at] = x.Heat
			}
			isInside := slices.ContainsFunc(all[at].Shares, func(y api.ShopShare) bool { return y.Lot == x.Name })
			if isInside || heats[at] != x.Heat || sums[at] == capacity {
				continue
			}
			parts := someNumber(random, 1, min(left, capacity-sums[at]))
			all[at].Shares = append(all[at].Shares, share(x.Name, parts))
			sums[at] += parts
			left -= parts
		}
	}
	return all
}

// P9.9: no baskets that are right are fewer
func TestRightBaskets(t *testing.T) {
	random := rand.New(rand.NewSource(99))
	more := 0
	for range 2000 {
		l, capacity := someLots(random, 7), someNumber(random, 1, 9)
		all := someBaskets(random, l, capacity)
		if len(all) > api.MaxShopBaskets {
			continue
		}
		n, e := shop.CheckBaskets(l, capacity, all)
		want(t, "CheckBaskets", n, e, len(all), api.OK)
		b, e := shop.BasketsOf(l, capacity)
		if e != api.OK || len(b) > len(all) {
			t.Errorf("BasketsOf %v, %d: %v, %d, but right are %v", l, capacity, b, e, all)
		}
		if len(b) < len(all) {
			more++
		}
	}
	if more < 500 {
		t.Errorf("too few baskets that are more: %d", more)
	}
}

// P9.2: one part more or less in a share, or one share less
func TestWrongBaskets(t *testing.T) {
	random := rand.New(rand.NewSource(98))
	counts := map[api.Errno]int{}
	for range 2000 {
		l, capacity := someLots(random, 7), someNumber(random, 1, 9)
		all := someBaskets(random, l, capacity)
		if len(all) == 0 || len(all) > api.MaxShopBaskets {
			continue
		}
		shares := all[random.Intn(len(all))].Shares
		sum := 0
		for _, x := range shares {
			sum += x.Parts
		}
		step := 2*random.Intn(2) - 1
		x := &shares[random.Intn(len(shares))]
		x.Parts += step
		f := api.ErrProof
		if x.Parts == 0 {
			f = api.ErrRange
		} else if sum+step > capacity {
			f = api.ErrFull
		}
		n, e := shop.CheckBaskets(l, capacity, all)
		want(t, "CheckBaskets", n, e, 0, f)
		counts[e]++
	}
	for _, e := range []api.Errno{api.ErrProof, api.ErrRange, api.ErrFull} {
		if counts[e] < 100 {
			t.Errorf("too few errors %d: %d", e, counts[e])
		}
	}
}

// P9.2: each error of baskets, and their order
func TestErrorsOfBaskets(t *testing.T) {
	none, p, q, r := share("s", 0), share("p", 5), share("q", 3), share("r", 4)
	l := []struct {
		b []api.ShopBasket
		e api.Errno
	}{
		{make([]api.ShopBasket, 61), api.ErrLarge},
		{slices.Repeat(baskets(basket(p)), 61), api.ErrLarge},
		{slices.Repeat(baskets(basket(share("p", 1))), 60), api.ErrProof},
		{baskets(basket(), basket(none)), api.ErrShape},
		{baskets(basket(p), basket()), api.ErrShape},
		{baskets(basket(none), basket()), api.ErrMissing},
		{baskets(basket(p, share("P", 1))), api.ErrMissing},
		{baskets(basket(p, share("", 1))), api.ErrMissing},
		{baskets(basket(p, share("h", 1))), api.ErrMissing},
		{baskets(basket(share("p", 1), share("p", 0))), api.ErrDouble},
		{baskets(basket(share("p", 1), r, share("p", 1))), api.ErrDouble},
		{baskets(basket(share("p", 0), share("p", 1))), api.ErrRange},
		{baskets(basket(p, share("q", 0))), api.ErrRange},
		{baskets(basket(p, share("q", 1001))), api.ErrRange},
		{baskets(basket(p, q, none)), api.ErrClash},
		{baskets(basket(q, p)), api.ErrClash},
		{baskets(basket(p, r, q)), api.ErrClash},
		{baskets(basket(share("p", 5), share("r", 2)), basket()), api.ErrFull},
		{baskets(basket(share("p", 1000))), api.ErrFull},
		{baskets(basket(share("p", 7), none)), api.ErrMissing},
		{nil, api.ErrProof},
		{baskets(basket(p), basket(q)), api.ErrProof},
		{baskets(basket(p), basket(q), basket(share("r", 3))), api.ErrProof},
		{baskets(basket(p), basket(q), basket(share("r", 5))), api.ErrProof},
		{baskets(basket(p), basket(q), basket(r), basket(q)), api.ErrProof},
	}
	for _, parts := range append(extremes(), -1, 0, 1001) {
		for _, b := range [][]api.ShopBasket{baskets(basket(share("p", parts))), baskets(basket(p), basket(share("r", parts), q)), baskets(basket(p, share("r", parts)))} {
			n, e := shop.CheckBaskets(exampleLots(), 1000, b)
			want(t, "CheckBaskets", n, e, 0, api.ErrRange)
		}
	}
	for _, x := range l {
		n, e := shop.CheckBaskets(exampleLots(), 6, x.b)
		want(t, "CheckBaskets", n, e, 0, x.e)
	}
	for _, b := range [][]api.ShopBasket{
		baskets(basket(q), basket(r), basket(p)),
		baskets(basket(share("r", 3), share("p", 3)), basket(share("q", 1)), basket(share("p", 2), share("r", 1)), basket(share("q", 2))),
	} {
		n, e := shop.CheckBaskets(exampleLots(), 6, b)
		want(t, "CheckBaskets", n, e, len(b), api.OK)
	}
	n, e := shop.CheckBaskets(nil, 6, nil)
	want(t, "CheckBaskets", n, e, 0, api.OK)
	n, e = shop.CheckBaskets(nil, 6, baskets(basket(p)))
	want(t, "CheckBaskets", n, e, 0, api.ErrMissing)
}

// R3: no argument is modified, and baskets share no memory
func TestMemoryOfBaskets(t *testing.T) {
	l := exampleLots()
	b, _ := shop.BasketsOf(l, 2)
	wanted, _ := shop.BasketsOf(l, 2)
	shop.CheckBaskets(l, 2, b)
	want(t, "lots", l, api.OK, exampleLots(), api.OK)
	want(t, "baskets", b, api.OK, wanted, api.OK)
	for i := range b {
		_ = append(b[i].Shares, share("none", i))
		for j := range b[i].Shares {
			b[i].Shares[j].Lot = strconv.Itoa(i)
		}
	}
	for i, x := range b {
		for _, y := range x.Shares {
			want(t, "share", y.Lot, api.OK, strconv.Itoa(i), api.OK)
		}
	}
}
