package steel

import "martensite/api"

// rangesOf are the ranges of a box, in the order of the type; the first four are those of the shares.
func rangesOf(b *api.SteelBox) [7]*api.Range {
	return [7]*api.Range{&b.Parent, &b.Austenite, &b.Bainite, &b.Martensite, &b.Wait, &b.Grain, &b.Temper}
}

// shareRangesOf are the ranges of the shares of a box.
func shareRangesOf(b api.SteelBox) [4]api.Range {
	return [4]api.Range{b.Parent, b.Austenite, b.Bainite, b.Martensite}
}

// boxOf is the box of a state.
func boxOf(s api.SteelState) api.SteelBox {
	var b api.SteelBox
	numbers := numbersOf(&s)
	for i, r := range rangesOf(&b) {
		*r = api.Range{Lo: *numbers[i], Hi: *numbers[i]}
	}
	return b
}

// isEmpty is whether no shares in the ranges of a box add up to SteelWhole.
func isEmpty(b api.SteelBox) bool {
	lo, hi := 0, 0
	for _, r := range shareRangesOf(b) {
		lo += r.Lo
		hi += r.Hi
	}
	return lo > api.SteelWhole || hi < api.SteelWhole
}

// hullOf is the least box that contains all of at least one box.
func hullOf(boxes []api.SteelBox) api.SteelBox {
	hull := boxes[0]
	ends := rangesOf(&hull)
	for _, b := range boxes[1:] {
		for i, r := range rangesOf(&b) {
			*ends[i] = api.Range{Lo: min(ends[i].Lo, r.Lo), Hi: max(ends[i].Hi, r.Hi)}
		}
	}
	return hull
}

// boxAt is the box after the deeds at a place.
func (r rules) boxAt(b api.SteelBox, p place) api.SteelBox {
	for _, d := range r.deedsAt(p) {
		b = d.box(b)
	}
	return b
}

// boxRun is the box after all ranges of temperatures.
func (r rules) boxRun(b api.SteelBox, curve []api.Range) api.SteelBox {
	for _, kelvins := range curve {
		var boxes []api.SteelBox
		for p := range r.placesIn(kelvins) {
			boxes = append(boxes, r.boxAt(b, p))
		}
		b = hullOf(boxes)
	}
	return b
}

// filled are the shares in a box that is not empty of which what is left after all Lo goes to the kinds in this order, each up to its Hi.
func filled(b api.SteelBox, order ...int) [4]int {
	var shares [4]int
	ranges := shareRangesOf(b)
	left := api.SteelWhole
	for i, r := range ranges {
		shares[i] = r.Lo
		left -= r.Lo
	}
	for _, i := range order {
		n := min(left, ranges[i].Hi-ranges[i].Lo)
		shares[i] += n
		left -= n
	}
	return shares
}

// band is the band of a box. The hardness of the kinds ascends, also that of tempered martensite.
func (r rules) band(b api.SteelBox) api.Range {
	return api.Range{
		Lo: r.hardness(filled(b, 0, 1, 2, 3), b.Temper.Hi),
		Hi: r.hardness(filled(b, 3, 2, 1, 0), b.Temper.Lo),
	}
}

// BoxOf is the box of a state.
func BoxOf(s api.SteelState) (api.SteelBox, api.Errno) {
	if e := CheckState(s); e != api.OK {
		return api.SteelBox{}, e
	}
	return boxOf(s), api.OK
}

// CheckBox is the error of a box.
func CheckBox(b api.SteelBox) api.Errno {
	limits := limitsOf()
	for i, r := range rangesOf(&b) {
		if e := endsError(0, limits[i], *r); e != api.OK {
			return e
		}
	}
	return errorIf(isEmpty(b), api.ErrNone)
}

// BoxStep is the step of a box with a range of temperatures.
func BoxStep(r api.SteelRules, b api.SteelBox, kelvin api.Range) (api.SteelBox, api.Errno) {
	return BoxRun(r, b, []api.Range{kelvin})
}

// BoxRun is the box after all ranges of temperatures.
func BoxRun(r api.SteelRules, b api.SteelBox, curve []api.Range) (api.SteelBox, api.Errno) {
	e := firstOf(
		rulesError(r),
		CheckBox(b),
		curveError(curve, kelvinsError))
	if e != api.OK {
		return api.SteelBox{}, e
	}
	return rules{r}.boxRun(b, curve), api.OK
}

// BandOf is the band of a box.
func BandOf(r api.SteelRules, b api.SteelBox) (api.Range, api.Errno) {
	if e := firstOf(rulesError(r), CheckBox(b)); e != api.OK {
		return api.Range{}, e
	}
	return rules{r}.band(b), api.OK
}
