package tests

import (
	"math"
	"slices"
	"strings"
	"testing"

	"loop.example/s01647/impl"
)

// runsOf cuts a text into its rows of equal letters and tells the first level.
func runsOf(text string) (int, []int) {
	if text == "" {
		return 0, nil
	}
	var runs []int
	for i := range len(text) {
		if i == 0 || text[i] != text[i-1] {
			runs = append(runs, 0)
		}
		runs[len(runs)-1]++
	}
	return int(text[0] - '0'), runs
}

func expectAsDestuff(t *testing.T, text string) {
	t.Helper()
	first, runs := runsOf(text)
	got, at := impl.DestuffRuns(first, runs)
	if want, place := impl.Destuff(text); got != want || at != place {
		t.Errorf("DestuffRuns(%d, %v) = %q, %d, want %q, %d", first, runs, got, at, want, place)
	}
}

func TestP6DestuffRunsAgrees(t *testing.T) {
	for text := range everyText(15) {
		expectAsDestuff(t, text)
	}
	d := dice(41)
	for range 500 {
		expectAsDestuff(t, d.text(1+d.roll(impl.MaxLine)))
		expectAsDestuff(t, d.runs(1+d.roll(impl.MaxLine)))
		expectAsDestuff(t, impl.Stuff(d.runs(1+d.roll(impl.MaxPlain))))
	}
	for _, piece := range []string{"0", "1", "01", "10", "00001111", "0000011111", "111110000"} {
		expectAsDestuff(t, strings.Repeat(piece, impl.MaxLine)[:impl.MaxLine])
	}
	for _, f := range someFrames() {
		expectAsDestuff(t, impl.Encode(f))
	}
}

func TestDestuffRunsTable(t *testing.T) {
	for _, c := range []struct {
		first int
		runs  []int
		want  string
		at    int
	}{
		{0, nil, "", -1},
		{1, []int{}, "", -1},
		{0, []int{1}, "0", -1},
		{1, []int{1}, "1", -1},
		{0, []int{5}, "00000", -1},
		{1, []int{5}, "11111", -1},
		{0, []int{6}, "00000", 5},
		{1, []int{impl.MaxLine}, "11111", 5},
		{0, []int{5, 1, 1}, "000000", -1},
		{0, []int{5, 5, 5, 5}, "0000011110000" + "1111", -1},
		{1, []int{2, 5, 6, 3}, "1100000" + "1111", 12},
		{1, []int{3, 4, 7, 1000}, "1110000" + "11111", 12},
	} {
		if got, at := impl.DestuffRuns(c.first, c.runs); got != c.want || at != c.at {
			t.Errorf("DestuffRuns(%d, %v) = %q, %d, want %q, %d", c.first, c.runs, got, at, c.want, c.at)
		}
	}
}

func TestDestuffRunsRefuses(t *testing.T) {
	ones := slices.Repeat([]int{1}, impl.MaxLine)
	if got, at := impl.DestuffRuns(1, ones); got != strings.Repeat("10", impl.MaxLine/2) || at != -1 {
		t.Errorf("DestuffRuns of MaxLine runs = %.40q, %d", got, at)
	}
	for _, c := range []struct {
		first int
		runs  []int
	}{
		{2, nil},
		{-1, nil},
		{2, []int{1}},
		{-1, []int{6}},
		{math.MaxInt, []int{1}},
		{math.MinInt, []int{1}},
		{'0', []int{1}},
		{0, []int{0}},
		{0, []int{-1}},
		{1, []int{math.MinInt}},
		{1, []int{math.MinInt, math.MinInt}},
		{1, []int{3, 0, 2}},
		{1, []int{3, 2, -4}},
		{1, []int{6, 0}},
		{0, []int{9, 1, -1}},
		{0, []int{impl.MaxLine + 1}},
		{0, []int{impl.MaxLine, 1}},
		{0, []int{1, impl.MaxLine}},
		{0, []int{2000, 1999, 2}},
		{0, []int{math.MaxInt}},
		{0, []int{1, math.MaxInt}},
		{0, []int{math.MaxInt, math.MaxInt, 2}},
		{0, []int{math.MaxInt, math.MaxInt, 3, 1}},
		{0, append(ones[:impl.MaxLine:impl.MaxLine], 1)},
		{1, slices.Repeat([]int{1}, 100000)},
	} {
		if got, at := impl.DestuffRuns(c.first, c.runs); got != "" || at != -2 {
			t.Errorf("DestuffRuns(%d, %d runs) = %.40q, %d, want nothing, -2", c.first, len(c.runs), got, at)
		}
	}
}
