package steel

import "martensite/api"

// deed is what a knot does in a step: to a state of one steel, and to a box.
type deed struct {
	state func(api.SteelState, api.SteelPick) api.SteelState
	box   func(api.SteelBox) api.SteelBox
}

// deedsAt are the deeds at a place, in their order.
func (r rules) deedsAt(p place) []deed {
	if p.heat >= 0 {
		return []deed{heating(r.Heats[p.heat])}
	}
	var l []deed
	if p.cool >= 0 {
		l = append(l, cooling(r.Cools[p.cool]))
	}
	if p.cold >= 0 {
		l = append(l, chilling(r.Colds[p.cold]))
	}
	if p.temper >= 0 {
		l = append(l, tempering(r.Tempers[p.temper]))
	}
	return l
}

// picked is the number of a range that a steel with a part has.
func picked(r api.Range, part int) int { return r.Lo + (r.Hi-r.Lo)*part/api.SteelPart }

// grown is a grain after it grew, if there is austenite.
func grown(grain, growth, austenite int) int {
	if austenite == 0 {
		return grain
	}
	return min(api.MaxSteelGrain, grain+growth)
}

// waited is an incubation after it grew.
func waited(wait, n int) int { return min(api.SteelWhole, wait+n) }

// formed is a rate of bainite if the incubation is whole.
func formed(wait, rate int) int {
	if wait < api.SteelWhole {
		return 0
	}
	return rate
}

// frozen is how much austenite becomes martensite.
func frozen(austenite, martensite, share int) int {
	return max(0, (austenite+martensite)*share/api.SteelWhole-martensite)
}

// heating is what a knot of Heats does: all but austenite is parent steel again, of which some becomes austenite.
func heating(k api.SteelHeat) deed {
	return deed{
		state: func(s api.SteelState, p api.SteelPick) api.SteelState {
			parent := max(0, api.SteelWhole-s.Austenite-picked(k.Rate, p.Heat))
			austenite := api.SteelWhole - parent
			return api.SteelState{Parent: parent, Austenite: austenite, Grain: grown(s.Grain, k.Growth, austenite)}
		},
		box: func(b api.SteelBox) api.SteelBox {
			lo := b.Parent.Lo + b.Bainite.Lo + b.Martensite.Lo
			hi := min(api.SteelWhole, b.Parent.Hi+b.Bainite.Hi+b.Martensite.Hi)
			parent := api.Range{Lo: max(0, lo-k.Rate.Hi), Hi: max(0, hi-k.Rate.Lo)}
			austenite := api.Range{Lo: api.SteelWhole - parent.Hi, Hi: api.SteelWhole - parent.Lo}
			grain := api.Range{Lo: grown(b.Grain.Lo, k.Growth, austenite.Lo), Hi: grown(b.Grain.Hi, k.Growth, austenite.Hi)}
			return api.SteelBox{Parent: parent, Austenite: austenite, Grain: grain}
		},
	}
}

// cooling is what a knot of Cools does: the incubation passes, and then bainite forms.
func cooling(k api.SteelCool) deed {
	return deed{
		state: func(s api.SteelState, p api.SteelPick) api.SteelState {
			s.Wait = waited(s.Wait, picked(k.Wait, p.Cool))
			n := min(s.Austenite, formed(s.Wait, picked(k.Rate, p.Cool)))
			s.Austenite -= n
			s.Bainite += n
			return s
		},
		box: func(b api.SteelBox) api.SteelBox {
			b.Wait = api.Range{Lo: waited(b.Wait.Lo, k.Wait.Lo), Hi: waited(b.Wait.Hi, k.Wait.Hi)}
			lo, hi := formed(b.Wait.Lo, k.Rate.Lo), formed(b.Wait.Hi, k.Rate.Hi)
			b.Bainite.Lo += min(b.Austenite.Lo, lo)
			b.Bainite.Hi = min(api.SteelWhole, b.Bainite.Hi+min(b.Austenite.Hi, hi))
			b.Austenite = api.Range{Lo: max(0, b.Austenite.Lo-hi), Hi: max(0, b.Austenite.Hi-lo)}
			return b
		},
	}
}

// chilling is what a knot of Colds does: a share of austenite and martensite together is martensite.
func chilling(k api.SteelCold) deed {
	return deed{
		state: func(s api.SteelState, p api.SteelPick) api.SteelState {
			n := frozen(s.Austenite, s.Martensite, picked(k.Share, p.Cold))
			s.Austenite -= n
			s.Martensite += n
			return s
		},
		box: func(b api.SteelBox) api.SteelBox {
			a, m := b.Austenite, b.Martensite
			b.Martensite.Lo += frozen(a.Lo, m.Lo, k.Share.Lo)
			b.Martensite.Hi = min(api.SteelWhole, m.Hi+frozen(a.Hi, m.Hi, k.Share.Hi))
			b.Austenite.Lo -= frozen(a.Lo, m.Lo, k.Share.Hi)
			b.Austenite.Hi -= frozen(a.Hi, m.Hi, k.Share.Lo)
			return b
		},
	}
}

// tempering is what a knot of Tempers does.
func tempering(k api.SteelTemper) deed {
	tempered := func(temper int) int { return min(api.MaxSteelTemper, temper+k.Rate) }
	return deed{
		state: func(s api.SteelState, _ api.SteelPick) api.SteelState {
			s.Temper = tempered(s.Temper)
			return s
		},
		box: func(b api.SteelBox) api.SteelBox {
			b.Temper = api.Range{Lo: tempered(b.Temper.Lo), Hi: tempered(b.Temper.Hi)}
			return b
		},
	}
}
