package num

import (
	"math/bits"
	"slices"
	"strconv"
	"strings"

	"debenture/api"
)

// mostWeights is among how many a total is shared at most.
const mostWeights = 64

// Share is a total in parts.
func Share(total int64, weights []int64) ([]int64, bool) {
	if len(weights) == 0 || len(weights) > mostWeights || total < 0 || slices.Min(weights) < 0 {
		return nil, false
	}
	sum, ok := Sum(weights)
	if !ok || sum == 0 {
		return nil, false
	}
	parts := make([]int64, len(weights))
	rests := make([]uint64, len(weights))
	order := make([]int, len(weights))
	left := total
	for i, w := range weights {
		parts[i], _ = MulDiv(total, w, sum, api.Floor) // at most the total
		hi, lo := bits.Mul64(uint64(total), uint64(w))
		rests[i] = bits.Rem64(hi, lo, uint64(sum))
		order[i] = i
		left -= parts[i]
	}
	slices.SortStableFunc(order, func(a, b int) int {
		if rests[a] > rests[b] {
			return -1
		}
		if rests[a] < rests[b] {
			return 1
		}
		return 0
	})
	for _, i := range order[:left] {
		parts[i]++
	}
	return parts, true
}

// Amount is the number of a text with so many digits behind its point.
func Amount(s string, digits int) (int64, bool) {
	if digits < 0 || digits > 9 {
		return 0, false
	}
	text, neg := strings.CutPrefix(s, "-")
	whole, behind, point := strings.Cut(text, ".")
	if whole == "" || point != (digits > 0) || len(behind) != digits {
		return 0, false
	}
	if whole[0] == '0' && len(whole) > 1 {
		return 0, false
	}
	var n uint64
	const most = uint64(1) << 63
	read := func(part string) bool {
		for i := range len(part) {
			c := part[i]
			if c < '0' || c > '9' || n > (most-uint64(c-'0'))/10 {
				return false
			}
			n = 10*n + uint64(c-'0')
		}
		return true
	}
	if !read(whole) || !read(behind) || neg && n == 0 {
		return 0, false
	}
	return signed(neg, n)
}

// Print is a number's text with so many digits behind its point.
func Print(n int64, digits int) string {
	if digits < 0 || digits > 9 {
		return ""
	}
	text := strconv.FormatUint(size(n), 10)
	if len(text) <= digits {
		text = strings.Repeat("0", digits+1-len(text)) + text
	}
	if digits > 0 {
		at := len(text) - digits
		text = text[:at] + "." + text[at:]
	}
	if n < 0 {
		text = "-" + text
	}
	return text
}
