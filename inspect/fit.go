package inspect

import "martensite/api"

// sums are the number of pairs, and the sums of their signals and values, of the squares of the signals, and of the products of both.
type sums struct{ count, signal, value, square, product int }

// sumsOf are the sums of pairs.
func sumsOf(l []api.InspectPair) sums {
	s := sums{count: len(l)}
	for _, x := range l {
		s.signal += x.Signal
		s.value += x.Value
		s.square += x.Signal * x.Signal
		s.product += x.Signal * x.Value
	}
	return s
}

// line is the best line; the signals are not all equal.
func (s sums) line() (slope, offset api.Frac) {
	den := s.count*s.square - s.signal*s.signal
	slope = lowest(s.count*s.product-s.signal*s.value, den)
	offset = lowest(s.square*s.value-s.signal*s.product, den)
	return slope, offset
}

// isLine is whether both equations of the best line hold. (Both sides are reduced before they are compared, as their products with both denominators may be too great for an int.)
func (s sums) isLine(slope, offset api.Frac) bool {
	without := func(sum, factor int) api.Frac {
		return lowest(sum*slope.Den-factor*slope.Num, slope.Den)
	}
	times := func(factor int) api.Frac { return lowest(factor*offset.Num, offset.Den) }
	return without(s.value, s.signal) == times(s.count) && without(s.product, s.square) == times(s.signal)
}

// windowOf is the range of the signals of pairs.
func windowOf(l []api.InspectPair) api.Range {
	r := api.Range{Lo: l[0].Signal, Hi: l[0].Signal}
	for _, x := range l {
		r = api.Range{Lo: min(r.Lo, x.Signal), Hi: max(r.Hi, x.Signal)}
	}
	return r
}

// fitOn is the fit of pairs whose best line this is. (The denominators of the best line are at most 10^6, so that no product is too great for an int.)
func fitOn(l []api.InspectPair, slope, offset api.Frac) api.InspectFit {
	most := 0
	for _, x := range l {
		off := (x.Value*slope.Den-x.Signal*slope.Num)*offset.Den - offset.Num*slope.Den
		most = max(most, off, -off)
	}
	return api.InspectFit{Slope: slope, Offset: offset, Window: windowOf(l), Off: lowest(most, slope.Den*offset.Den)}
}

// pairsError is the error of pairs.
func pairsError(l []api.InspectPair) api.Errno {
	if e := countError(len(l), 2, api.MaxInspectPairs); e != api.OK {
		return e
	}
	_, e := firstError(l, func(_ int, x api.InspectPair) api.Errno {
		return sizeError(api.MaxInspectPair, x.Signal, x.Value)
	})
	return e
}

// zeroError is ErrZero if all signals of pairs are equal.
func zeroError(l []api.InspectPair) api.Errno {
	r := windowOf(l)
	return errorIf(r.Lo == r.Hi, api.ErrZero)
}

// isFraction is whether a fraction is in lowest terms with Den above 0.
func isFraction(f api.Frac) bool { return f.Den > 0 && divisor(f.Num, f.Den) == 1 }

// fitError is the error of a fit.
func fitError(f api.InspectFit) api.Errno {
	return firstOf(
		errorIf(!isFraction(f.Slope) || !isFraction(f.Offset) || !isFraction(f.Off), api.ErrForm),
		sizeError(api.MaxPart, f.Slope.Num, f.Slope.Den, f.Offset.Num, f.Offset.Den, f.Off.Den),
		rangeError(0, api.MaxPart, f.Off.Num),
		sizeError(api.MaxInspectPair, f.Window.Lo, f.Window.Hi),
		orderError(f.Window))
}

// FitOf is the fit of pairs.
func FitOf(l []api.InspectPair) (api.InspectFit, api.Errno) {
	if e := pairsError(l); e != api.OK {
		return api.InspectFit{}, e
	}
	if e := zeroError(l); e != api.OK {
		return api.InspectFit{}, e
	}
	slope, offset := sumsOf(l).line()
	return fitOn(l, slope, offset), api.OK
}

// CheckFit accepts the fit of pairs by its equations.
func CheckFit(l []api.InspectPair, f api.InspectFit) api.Errno {
	if e := firstOf(pairsError(l), fitError(f)); e != api.OK {
		return e
	}
	if e := zeroError(l); e != api.OK {
		return e
	}
	isProved := sumsOf(l).isLine(f.Slope, f.Offset) && f == fitOn(l, f.Slope, f.Offset)
	return errorIf(!isProved, api.ErrProof)
}

// PredictedAt is the prediction of a fit at a signal.
func PredictedAt(f api.InspectFit, signal int) (api.Span, api.Errno) {
	if e := firstOf(fitError(f), rangeError(f.Window.Lo, f.Window.Hi, signal)); e != api.OK {
		return api.Span{}, e
	}
	line, _ := mixedOf(f.Slope.Num*signal, f.Slope.Den).plus(mixedOf(f.Offset.Num, f.Offset.Den))
	end := func(off int) (api.Frac, bool) {
		x, ok := line.plus(mixedOf(off, f.Off.Den))
		if !ok {
			return api.Frac{}, false
		}
		return x.fraction()
	}
	lo, isLo := end(-f.Off.Num)
	hi, isHi := end(f.Off.Num)
	if !isLo || !isHi {
		return api.Span{}, api.ErrLarge
	}
	return api.Span{Lo: lo, Hi: hi}, api.OK
}
