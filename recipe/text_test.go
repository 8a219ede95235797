package recipe_test

import (
	"math"
	"math/rand"
	"strings"
	"testing"

	"martensite/api"
	"martensite/recipe"
)

// P5.6: strings of all phases, also of wrong ones
func TestFormatRecipe(t *testing.T) {
	for s, l := range map[string][]api.RecipePhase{
		"":                      nil,
		"heat 400 2;quench 1 3": exampleRecipe(),
		"repeat 2 (heat 10 1;dwell 3);quench 0 5":                      phases(repeat(2, hot(10, 1), dwell(3)), quench(0, 5)),
		"until 650 400 5;cool 300 2 9":                                 phases(until(650, 400, 5), cool(300, 2, 9)),
		"repeat 1 (repeat -2 (dwell 0);dwell 7)":                       phases(repeat(1, repeat(-2, dwell(0)), dwell(7))),
		"repeat 3 ()":                                                  phases(repeat(3)),
		"heat -1 -2;;cool -3 -4 -5;":                                   phases(hot(-1, -2), api.RecipePhase{Kind: 6, Ticks: 5, Body: exampleRecipe()}, cool(-3, -4, -5), api.RecipePhase{Kind: -1}),
		"repeat 1 (;)":                                                 phases(repeat(1, api.RecipePhase{Kind: math.MaxInt}, api.RecipePhase{Kind: math.MinInt})),
		"dwell 9223372036854775807;quench -9223372036854775808 100000": phases(dwell(math.MaxInt), quench(math.MinInt, 100000)),
		// What a kind does not use is not written.
		"heat 1 4;dwell 4;quench 2 4;until 3 1 4;cool 3 2 4": phases(full(0), full(1), full(2), full(3), full(4)),
		"repeat 4 (dwell 1)": phases(full(5)),
	} {
		want(t, "FormatRecipe", recipe.FormatRecipe(l), api.OK, s, api.OK)
	}
	deep := recipe.FormatRecipe(phases(nested(1<<16, dwell(1))))
	want(t, "the deepest recipe", deep == strings.Repeat("repeat 1 (", 1<<16)+"dwell 1"+strings.Repeat(")", 1<<16), api.OK, true, api.OK)
}

// full is a phase of a kind with all fields.
func full(kind int) api.RecipePhase {
	return api.RecipePhase{Kind: kind, Power: 1, Law: 2, Kelvin: 3, Ticks: 4, Body: phases(dwell(1))}
}

// P5.6, P5.13
func TestParseReversesFormat(t *testing.T) {
	read := 0
	random := rand.New(rand.NewSource(11))
	for range 3000 {
		l := someRecipe(random, 4)
		if _, e := recipe.CheckRecipe(l); e != api.OK {
			continue
		}
		x, e := recipe.ParseRecipe(recipe.FormatRecipe(l))
		want(t, "ParseRecipe", x, e, l, api.OK)
		read++
	}
	for _, l := range goodRecipes() {
		x, e := recipe.ParseRecipe(recipe.FormatRecipe(l))
		want(t, "ParseRecipe", x, e, l, api.OK)
	}
	if read < 2000 {
		t.Errorf("only %d were read", read)
	}
	for range 500 {
		var l []api.RecipeTick
		for range random.Intn(300) {
			l = append(l, tick(between(random, 0, 99999), between(random, 0, 99999)))
		}
		x, e := recipe.ParseTicks(recipe.FormatTicks(l))
		want(t, "ParseTicks", x, e, l, api.OK)
	}
}

// P5.6: malformed strings of recipes
func TestSyntaxOfRecipes(t *testing.T) {
	for _, s := range []string{
		"", " ", ";", "()", "(quench 1 3)", "quench", "quench 1", "quench 1 3 4", "quench 1 3;", ";quench 1 3", "quench 1 3;;quench 1 3", "quench 1 3; quench 1 3", "quench 1 3 ;quench 1 3",
		" quench 1 3", "quench 1 3 ", "quench  1 3", "quench 1  3", "quench1 3", "quench 1,3", "quench\t1 3", "quench 1 3\n", "quench 1 3\x00", "Quench 1 3", "quenchh 1 3", "quenc 1 3", "chill 1 3", "QUENCH 1 3",
		"quench 01 3", "quench 1 03", "quench 00 3", "quench +1 3", "quench -1 3", "quench -0 3", "quench 1 -3", "quench 1.0 3", "quench x 3", "quench 1 3x", "quench 1 ", "quench  3", "quench 0x1 3", "quench 1 \xd9\xa1", "quench 1 :", "quench 1 /",
		"quench 1 100000", "quench 100000 3", "quench 1 000003", "quench 1 99999999999999999999", "heat 100000 1;quench 1 3", "until 300 100000 1;quench 1 3",
		"heat 400;quench 1 3", "heat 400 2 1;quench 1 3", "dwell;quench 1 3", "dwell 1 1;quench 1 3", "until 650 400;quench 1 3", "until 650 400 5 1;quench 1 3", "cool 300 1", "cool 300 1 1 1", "heat,quench 1 3", " 400 2;quench 1 3", "quench 1 3; 400 2;quench 1 3", "400 2;quench 1 3",
		"quench 1 3)", "quench (1 3)", "(heat 1 1);quench 1 3", "heat 400 2 (quench 1 3)", "quench 1 3 ()", "dwell 1 (quench 1 3)",
		"repeat 2", "repeat 2 ", "repeat 2 (", "repeat 2 ()", "repeat 2 (quench 1 3", "repeat 2 quench 1 3)", "repeat 2 quench 1 3", "repeat 2(quench 1 3)", "repeat 2  (quench 1 3)", "repeat (quench 1 3)", "repeat  (quench 1 3)", "repeat2 (quench 1 3)",
		"repeat 2 ( quench 1 3)", "repeat 2 (quench 1 3 )", "repeat 2 (quench 1 3;)", "repeat 2 (;quench 1 3)", "repeat 2 (quench 1 3))", "repeat 2 ((quench 1 3))", "repeat 2 (quench 1 3) ", "repeat 2 (quench 1 3)quench 1 3", "repeat 2 (quench 1 3) ;quench 1 3",
		"repeat 2 [quench 1 3]", "repeat 2 2 (quench 1 3)", "repeat 02 (quench 1 3)", "repeat -2 (quench 1 3)", "repeat 100000 (quench 1 3)", "repeat 2 (quench 1 3;(dwell 1))", "repeat 2 (repeat 2 (quench 1 3)", "repeat 2 (repeat 2 ())",
		// A malformed phase beside an error of the recipe.
		"heat 0 0;x", "repeat 11 (heat 0 0);", "dwell 1;dwell 01", "repeat 1 (repeat 1 (repeat 1 (repeat 1 (dwell 1))))x",
		strings.Repeat("1", 2000), strings.Repeat("(", 2000), strings.Repeat(";", 2000), strings.Repeat("repeat 1 (", 200), strings.Repeat(" ", 2000),
	} {
		l, e := recipe.ParseRecipe(s)
		want(t, "ParseRecipe "+s[:min(len(s), 40)], l, e, []int{}, api.ErrSyntax)
	}
}

// P5.6: the size of a string comes first, the error of the recipe last
func TestErrorsOfParsedRecipes(t *testing.T) {
	long := "heat 400 2" + strings.Repeat(";dwell 1", 248)
	for s, wanted := range map[string]api.Errno{
		strings.Repeat("x", 2001): api.ErrLarge,
		strings.Repeat("x", 2000): api.ErrSyntax,
		long:                      api.ErrLarge,
		long + ";dwell":           api.ErrSyntax,
		long + ";dwell ":          api.ErrLarge,
		"heat 400 2":              api.ErrState,
		"heat 0 2;quench 1 3":     api.ErrRange,
		"heat 99999 2;quench 1 3": api.ErrRange,
		"quench 4 3":              api.ErrRange,
		"quench 3 201":            api.ErrRange,
		"cool 199 1 1":            api.ErrRange,
		"repeat 11 (quench 1 3)":  api.ErrRange,
		"repeat 0 (quench 1 3)":   api.ErrRange,
		"repeat 1 (repeat 1 (repeat 1 (dwell 1)))":                                                 api.ErrState,
		"repeat 1 (repeat 1 (repeat 1 (cool 9 9 9)))":                                              api.ErrRange,
		"repeat 1 (repeat 1 (repeat 1 (repeat 1 (quench 1 3))))":                                   api.ErrFull,
		"repeat 10 (quench 1 3;quench 1 3;quench 1 3;quench 1 3;quench 1 3;quench 1 3;quench 1 3)": api.ErrLarge,
		"quench 1 3" + strings.Repeat(";quench 1 3", 12):                                           api.ErrLarge,
		"quench 1 3" + strings.Repeat(";quench 1 3", 11):                                           api.OK,
		strings.Repeat("repeat 1 (", 100) + "dwell 1" + strings.Repeat(")", 100):                   api.ErrFull,
	} {
		l, e := recipe.ParseRecipe(s)
		if e != wanted || e != api.OK && len(l) > 0 {
			t.Errorf("ParseRecipe %s: %v, %d, want %d", s[:min(len(s), 60)], l, e, wanted)
		}
	}
	for _, x := range badRecipes() {
		s := recipe.FormatRecipe(x.l)
		if x.e == api.ErrKind || x.e == api.ErrForm || x.e == api.ErrShape || strings.ContainsAny(s, "-") || strings.Contains(s, "()") || longest(s) > 5 || len(s) > 2000 || strings.Contains(";"+s+";", ";;") {
			continue
		}
		l, e := recipe.ParseRecipe(s)
		want(t, "ParseRecipe "+s[:min(len(s), 60)], l, e, []int{}, x.e)
	}
}

// longest is the length of the longest number of a string.
func longest(s string) int {
	n := 0
	for _, word := range strings.FieldsFunc(s, func(r rune) bool { return r < '0' || r > '9' }) {
		n = max(n, len(word))
	}
	return n
}

// P5.6, example 9
func TestFormatTicks(t *testing.T) {
	for s, l := range map[string][]api.RecipeTick{
		"":                                      nil,
		"400 0;0 1":                             {tick(400, 0), tick(0, 1)},
		"-1 -2":                                 {tick(-1, -2)},
		"0 0;0 0;12345678 -9223372036854775808": {tick(0, 0), tick(0, 0), tick(12345678, math.MinInt)},
	} {
		want(t, "FormatTicks", recipe.FormatTicks(l), api.OK, s, api.OK)
	}
}

// P5.6
func TestParseTicks(t *testing.T) {
	l, e := recipe.ParseTicks("400 0;0 1")
	want(t, "ParseTicks", l, e, []api.RecipeTick{tick(400, 0), tick(0, 1)}, api.OK)
	l, e = recipe.ParseTicks("")
	want(t, "the empty string", l, e, []int{}, api.OK)
	l, e = recipe.ParseTicks("99999 99999")
	want(t, "ParseTicks", l, e, []api.RecipeTick{tick(99999, 99999)}, api.OK)
	most := strings.Repeat("0 0;", api.MaxString/4-1) + "0 12"
	l, e = recipe.ParseTicks(most)
	want(t, "the longest string", []int{len(most), len(l)}, e, []int{api.MaxString, api.MaxString / 4}, api.OK)
	for _, s := range []string{most + "3", strings.Repeat("x", api.MaxString+1)} {
		l, e := recipe.ParseTicks(s)
		want(t, "ParseTicks", l, e, []int{}, api.ErrLarge)
	}
	for _, s := range []string{
		" ", ";", "0", "0 ", " 0", "0 0;", ";0 0", "0 0;;0 0", "0 0; 0 0", "0 0 ;0 0", "0  0", "0 0 0", "0,0", "0\t0", "0 0\n", "0 0,0 0", "0 0;0", "0 0 ", " 0 0",
		"00 0", "0 00", "01 0", "0 01", "+1 0", "1 +0", "-1 0", "0 -1", "-0 0", "100000 0", "0 100000", "000000 0", "x 0", "0 x", "1.0 0", "0 \xff", "0 :", "/ 0", "0 99999999999999999999",
		strings.Repeat("1", api.MaxString), strings.Repeat(" ", api.MaxString), strings.Repeat(";", api.MaxString),
	} {
		l, e := recipe.ParseTicks(s)
		want(t, "ParseTicks "+s[:min(len(s), 40)], l, e, []int{}, api.ErrSyntax)
	}
}
