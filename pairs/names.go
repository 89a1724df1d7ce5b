package pairs

import (
	"iter"
	"slices"
	"strings"

	"azimuth/api"
)

// Shared: how many names two heads share, and is what is asked of both kids of such a name so of each?
func Shared(it, that *api.Head, ask func(it, that int) bool) (names int, all bool) {
	for i, j := range shared(it.Names, that.Names) {
		if !ask(it.Kids[i], that.Kids[j]) {
			return 0, false
		}
		names++
	}
	return names, true
}

// Others tells the kids that the other head has for names that the one hasn't.
func Others(it, that *api.Head) iter.Seq[int] {
	return func(yield func(int) bool) {
		from := 0
		for _, j := range shared(it.Names, that.Names) {
			if !all(that.Kids[from:j], yield) {
				return
			}
			from = j + 1
		}
		all(that.Kids[from:], yield)
	}
}

func all(kids []int, yield func(int) bool) bool {
	for _, kid := range kids {
		if !yield(kid) {
			return false
		}
	}
	return true
}

// shared tells where in two rising rows of names those stand that stand in both.
func shared(a, b []string) iter.Seq2[int, int] {
	return func(yield func(int, int) bool) {
		i, j := 0, 0
		for i < len(a) && j < len(b) {
			switch strings.Compare(a[i], b[j]) {
			case -1:
				i += Ahead(a[i:], b[j])
			case 1:
				j += Ahead(b[j:], a[i])
			default:
				if !yield(i, j) {
					return
				}
				i, j = i+1, j+1
			}
		}
	}
}

// Ahead: how many of a rising row stand ahead of a name. It looks in steps that double, as most often a few do, and in a long row against a short one many.
func Ahead(l []string, name string) int {
	step := 1
	for step < len(l) && l[step] < name {
		step *= 2
	}
	n, _ := slices.BinarySearch(l[step/2:min(step, len(l))], name)
	return step/2 + n
}
