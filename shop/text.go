package shop

import (
	"strconv"
	"strings"

	"martensite/api"
)

// These are how many digits a number of a job, and the parts of a share, have at most.
const (
	jobDigits   = 7
	shareDigits = 4
)

// number is a number without a sign.
func number(s string, mostDigits int) (int, bool) {
	if s == "" || len(s) > mostDigits || len(s) > 1 && s[0] == '0' {
		return 0, false
	}
	n := 0
	for i := range len(s) {
		if !isDigit(s[i]) {
			return 0, false
		}
		n = 10*n + int(s[i]-'0')
	}
	return n, true
}

// jobText is the string of a job.
func jobText(x api.ShopJob) string {
	words := []string{x.Name, strconv.Itoa(x.Setup), strconv.Itoa(x.Ticks), strconv.Itoa(x.Due)}
	return strings.Join(words, " ")
}

// jobIn is the job of a string.
func jobIn(s string) (api.ShopJob, bool) {
	var x api.ShopJob
	places := [3]*int{&x.Setup, &x.Ticks, &x.Due}
	words := strings.Split(s, " ")
	if len(words) != 1+len(places) {
		return api.ShopJob{}, false
	}
	x.Name = words[0]
	for i, place := range places {
		n, ok := number(words[1+i], jobDigits)
		if !ok {
			return api.ShopJob{}, false
		}
		*place = n
	}
	return x, true
}

// basketText is the string of a basket.
func basketText(b api.ShopBasket) string {
	var words []string
	for _, x := range b.Shares {
		words = append(words, x.Lot+"x"+strconv.Itoa(x.Parts))
	}
	return strings.Join(words, " ")
}

// shareIn is the share of a string.
func shareIn(s string) (api.ShopShare, bool) {
	at := strings.LastIndexByte(s, 'x')
	if at < 0 {
		return api.ShopShare{}, false
	}
	parts, ok := number(s[at+1:], shareDigits)
	return api.ShopShare{Lot: s[:at], Parts: parts}, ok
}

// basketIn is the basket of a string.
func basketIn(s string) (api.ShopBasket, bool) {
	var b api.ShopBasket
	for word := range strings.SplitSeq(s, " ") {
		x, ok := shareIn(word)
		if !ok {
			return api.ShopBasket{}, false
		}
		b.Shares = append(b.Shares, x)
	}
	return b, true
}

// basketsIn are the baskets of a string.
func basketsIn(s string) ([]api.ShopBasket, bool) {
	if s == "" {
		return nil, true
	}
	var l []api.ShopBasket
	for text := range strings.SplitSeq(s, ";") {
		b, ok := basketIn(text)
		if !ok {
			return nil, false
		}
		l = append(l, b)
	}
	return l, true
}

// lotNamesError is ErrName if a lot in baskets is not a name.
func lotNamesError(l []api.ShopBasket) api.Errno {
	for _, b := range l {
		for _, x := range b.Shares {
			if e := nameError(x.Lot); e != api.OK {
				return e
			}
		}
	}
	return api.OK
}

// FormatJobs is the string of jobs.
func FormatJobs(l []api.ShopJob) string {
	var texts []string
	for _, x := range l {
		texts = append(texts, jobText(x))
	}
	return strings.Join(texts, ";")
}

// ParseJobs are the jobs with this string.
func ParseJobs(s string) ([]api.ShopJob, api.Errno) {
	if len(s) > api.MaxString {
		return nil, api.ErrLarge
	}
	var l []api.ShopJob
	for text := range strings.SplitSeq(s, ";") {
		x, ok := jobIn(text)
		if !ok {
			return nil, api.ErrSyntax
		}
		l = append(l, x)
	}
	if e := jobsError(l); e != api.OK {
		return nil, e
	}
	return l, api.OK
}

// FormatBaskets is the string of baskets.
func FormatBaskets(l []api.ShopBasket) string {
	var texts []string
	for _, b := range l {
		texts = append(texts, basketText(b))
	}
	return strings.Join(texts, ";")
}

// ParseBaskets are the baskets with this string.
func ParseBaskets(s string) ([]api.ShopBasket, api.Errno) {
	if len(s) > api.MaxString {
		return nil, api.ErrLarge
	}
	l, ok := basketsIn(s)
	e := firstOf(
		errorIf(!ok, api.ErrSyntax),
		lotNamesError(l),
		errorIf(len(l) > api.MaxShopBaskets, api.ErrLarge))
	if e != api.OK {
		return nil, e
	}
	return l, api.OK
}
