package pick

import (
	"slices"
	"testing"
)

type pair struct {
	rank, place int
}

func higher(a, b pair) bool { return a.rank > b.rank }

func TestBestOfNothing(t *testing.T) {
	if got, found := Best(slices.Values([]pair{}), higher); found || got != (pair{}) {
		t.Errorf("Best of nothing = %v, %t", got, found)
	}
}

func TestBestKeepsTheFirstOfEquals(t *testing.T) {
	for _, c := range []struct {
		told []pair
		want pair
	}{
		{[]pair{{-3, 0}}, pair{-3, 0}},
		{[]pair{{1, 0}, {2, 1}, {2, 2}}, pair{2, 1}},
		{[]pair{{2, 0}, {2, 1}, {1, 2}}, pair{2, 0}},
		{[]pair{{0, 0}, {1, 1}, {9, 2}}, pair{9, 2}},
	} {
		if got, found := Best(slices.Values(c.told), higher); !found || got != c.want {
			t.Errorf("Best(%v) = %v, %t, want %v", c.told, got, found, c.want)
		}
	}
}
