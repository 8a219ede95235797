package distort

import (
	"sort"

	"martensite/api"
)

// floor is num / den rounded down; den is above 0.
func floor(num, den int) int {
	n := num / den
	if num%den < 0 {
		n--
	}
	return n
}

// ceiling is num / den rounded up; den is above 0.
func ceiling(num, den int) int { return -floor(-num, den) }

// rounded is num / den rounded down and up; den is above 0.
func rounded(num, den int) api.Range {
	return api.Range{Lo: floor(num, den), Hi: ceiling(num, den)}
}

// rootOf is the root of a number from 0 to the square of most, rounded down and up.
func rootOf(n, most int) api.Range {
	up := sort.Search(most, func(root int) bool { return root*root >= n })
	if up*up > n {
		return api.Range{Lo: up - 1, Hi: up}
	}
	return api.Range{Lo: up, Hi: up}
}

// divisor is the greatest common divisor of two numbers.
func divisor(a, b int) int {
	for b != 0 {
		a, b = b, a%b
	}
	return max(a, -a)
}
