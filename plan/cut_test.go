package plan

import (
	"errors"
	"math"
	"reflect"
	"slices"
	"strings"
	"testing"

	"optima/api"
	"optima/plain"
	"optima/ratio"
)

func number(t *testing.T, text string) ratio.R {
	t.Helper()
	r, ok := plain.Number(text)
	if !ok {
		t.Fatalf("%q is no number", text)
	}
	return r
}

func numbers(t *testing.T, text string) []ratio.R {
	t.Helper()
	var out []ratio.R
	for _, word := range strings.Fields(text) {
		out = append(out, number(t, word))
	}
	return out
}

// pieces is sizes: how long, how many, and so on.
func pieces(list ...int) []api.Size {
	var out []api.Size
	for pair := range slices.Chunk(list, 2) {
		out = append(out, api.Size{Long: pair[0], Want: pair[1]})
	}
	return out
}

// wrongSizes are told by all calls.
func wrongSizes() map[string]struct {
	roll  int
	sizes []api.Size
	want  error
} {
	many := make([]api.Size, api.MaxSizes+1)
	for i := range many {
		many[i].Long = 1
	}
	return map[string]struct {
		roll  int
		sizes []api.Size
		want  error
	}{
		"no roll":            {0, nil, api.ErrBound},
		"roll below 0":       {-1, nil, api.ErrBound},
		"least roll":         {math.MinInt, pieces(1, 1), api.ErrBound},
		"wide roll":          {api.MaxRoll + 1, nil, api.ErrBound},
		"widest roll":        {math.MaxInt, pieces(1, 1), api.ErrBound},
		"many sizes":         {10, many, api.ErrBound},
		"want below 0":       {10, pieces(1, 1, 1, -1), api.ErrBound},
		"great want":         {10, pieces(1, 1, 1, api.MaxAbs+1), api.ErrBound},
		"no length":          {10, pieces(1, 1, 0, 1), api.ErrShape},
		"length below 0":     {10, pieces(-3, 1), api.ErrShape},
		"longer than a roll": {10, pieces(10, 1, 11, 1), api.ErrShape},
		"and none wanted":    {10, pieces(11, 0), api.ErrShape},

		// the order
		"want ahead of length":  {10, pieces(11, -1), api.ErrBound},
		"size by size":          {10, pieces(11, 1, 1, -1), api.ErrShape},
		"roll ahead of sizes":   {0, pieces(11, 1), api.ErrBound},
		"number ahead of sizes": {10, append(pieces(0, 1), many...), api.ErrBound},
	}
}

func TestWrongSizes(t *testing.T) {
	for what, c := range wrongSizes() {
		if got, err := Cut(c.roll, c.sizes); got != nil || !errors.Is(err, c.want) {
			t.Errorf("%s: %v, %v", what, got, err)
		}
		for _, cutting := range []*Cutting{nil, {}} { // sizes come first
			if ok, err := CheckCut(c.roll, c.sizes, cutting); ok || !errors.Is(err, c.want) {
				t.Errorf("%s: CheckCut: %v, %v", what, ok, err)
			}
		}
	}
	for _, sizes := range [][]api.Size{nil, pieces(10, 1)} {
		if ok, err := CheckCut(10, sizes, nil); ok || !errors.Is(err, api.ErrShape) {
			t.Errorf("nil: %v, %v", ok, err)
		}
	}
}

func TestCut(t *testing.T) {
	const great = api.MaxAbs
	for _, c := range []struct {
		roll  int
		sizes []api.Size
		rolls string
	}{
		{10, nil, "0"},
		{1, pieces(1, 0), "0"},
		{10, pieces(3, 0, 10, 0, 1, 0), "0"},
		{1, pieces(1, 1), "1"},
		{10, pieces(10, 7), "7"},
		{10, pieces(6, 7), "7"},
		{10, pieces(5, 7), "7/2"},
		{10, pieces(3, 7), "7/3"},
		{10, pieces(3, 7, 3, 7), "14/3"}, // the same size twice
		{10, pieces(3, 7, 10, 0), "7/3"},
		{10, pieces(4, 3, 3, 2), "2"},
		{10, pieces(6, 1, 4, 1), "1"},
		{10, pieces(6, 1, 4, 2), "3/2"},
		{10, pieces(6, 2, 4, 1), "2"},      // there is room for more of the other size
		{9, pieces(4, 1, 3, 1, 2, 1), "1"}, // a roll has room for all
		{7, pieces(5, 100, 2, 100), "100"}, // small ones come beside
		{7, pieces(5, 100, 3, 1, 2, 1), "201/2"},
		{200, pieces(1, great), "500000"},
		{200, pieces(200, great, 101, great, 1, great), "200000000"},
		{1, pieces(1, 1, 1, 2, 1, 3, 1, 4, 1, 5, 1, 6, 1, 7, 1, 8, 1, 9, 1, 10, 1, 11, 1, 12), "78"},
		{100, pieces(45, 97, 36, 610, 31, 395, 14, 211), "1809/4"},
		{9, pieces(2, 20, 3, 10, 4, 20), "35/2"},
	} {
		got, err := Cut(c.roll, c.sizes)
		if err != nil || got == nil || got.Rolls.Text() != c.rolls {
			t.Errorf("%d, %v: %+v, %v; rolls must be %s", c.roll, c.sizes, got, err, c.rolls)
			continue
		}
		if ok, err := CheckCut(c.roll, c.sizes, got); !ok || err != nil {
			t.Errorf("%d, %v: %+v: it does not show itself (%v)", c.roll, c.sizes, got, err)
		}
		if !showsPlainly(c.roll, c.sizes, got) {
			t.Errorf("%d, %v: %+v: it does not show itself plainly", c.roll, c.sizes, got)
		}
	}
}

// cuttingOf is patterns, with ';' between them, and numbers.
func cuttingOf(t *testing.T, patterns, times, worth, rolls string) *Cutting {
	t.Helper()
	c := &Cutting{Times: numbers(t, times), Worth: numbers(t, worth), Rolls: number(t, rolls)}
	if patterns == "" {
		return c
	}
	for _, text := range strings.Split(patterns, ";") {
		var pattern []int
		for _, r := range numbers(t, text) {
			n, _ := r.Num().Int64()
			pattern = append(pattern, int(n))
		}
		c.Patterns = append(c.Patterns, pattern)
	}
	return c
}

func TestCheckCut(t *testing.T) {
	two := pieces(4, 3, 3, 2)
	for _, c := range []struct {
		roll                          int
		sizes                         []api.Size
		patterns, times, worth, rolls string
		want                          bool
	}{
		{10, two, "2 0;1 2", "1 1", "1/2 1/4", "2", true},
		{10, two, "2 0;1 2;0 3", "1 1 0", "1/2 1/4", "2", true}, // one that is not cut
		{10, two, "2 0;1 2;0 0", "1 1 0", "1/2 1/4", "2", true},
		{10, two, "1 2;2 0;1 2", "1/3 1 2/3", "1/2 1/4", "2", true}, // one that is there twice
		{10, two, "2 0;1 2;0 0", "1 1 1", "1/2 1/4", "3", false},
		{10, two, "2 0;1 2", "1 1", "1/2 1/4", "3", false}, // Rolls
		{10, two, "2 0;1 2", "1 1", "1/2 1/4", "-2", false},
		{10, two, "2 0;1 2", "1 2", "1/2 1/4", "2", false},
		{10, two, "2 0;1 2", "1 2", "1/2 1/4", "3", false}, // more than is needed
		{10, two, "2 0;1 2", "3/2 1/2", "1/2 1/4", "2", false},
		{10, two, "2 0;1 2", "2 0", "1/2 1/4", "2", false}, // too few of the second
		{10, two, "2 0;0 2", "3/2 1", "1/2 1/4", "5/2", false},
		{10, two, "2 0;1 2", "1 1", "1/3 1/2", "2", false}, // three of the second are worth 3/2
		{10, two, "2 0;1 2", "1 1", "2/3 0", "2", false},   // two of the first 4/3
		{10, two, "2 0;1 2", "1 1", "1/2 1/5", "2", false}, // worth less
		{10, two, "2 0;1 2", "1 1", "0 1", "2", false},
		{10, two, "2 0;1 2", "1 1", "4/3 -1", "2", false}, // below 0
		{10, two, "2 0;1 2;0 3", "2 1 -1", "1/2 1/4", "2", false},
		{10, two, "2 0;1 2;-1 3", "1 1 0", "1/2 1/4", "2", false},
		{10, two, "2 1", "2", "1/2 1/4", "2", false}, // longer than a roll
		{10, two, "2 0;1 2;3 0", "1 1 0", "1/2 1/4", "2", false},

		// lengths
		{10, two, "2 0;1 2", "1 1 0", "1/2 1/4", "2", false},
		{10, two, "2 0;1 2", "1", "1/2 1/4", "2", false},
		{10, two, "2 0;1 2", "", "1/2 1/4", "2", false},
		{10, two, "", "1 1", "1/2 1/4", "2", false},
		{10, two, "2 0;1 2 0", "1 1", "1/2 1/4", "2", false},
		{10, two, "2 0;1", "1 1", "1/2 1/4", "2", false},
		{10, two, "2 0;1 2", "1 1", "1/2", "2", false},
		{10, two, "2 0;1 2", "1 1", "1/2 1/4 0", "2", false},
		{10, two, "2 0;1 2", "1 1", "", "2", false},
		{10, two, "", "", "", "0", false},

		// nothing is wanted
		{10, nil, "", "", "", "0", true},
		{10, nil, "", "", "", "1", false},
		{10, nil, "", "", "1", "0", false},
		{10, pieces(4, 0), "", "", "0", "0", true},
		{10, pieces(4, 0), "", "", "1/2", "0", true},
		{10, pieces(4, 0), "", "", "2/3", "0", false}, // also of what is not wanted no pattern is worth more than 1
		{10, pieces(4, 0), "", "", "-1", "0", false},
		{10, pieces(4, 0), "2", "0", "1/2", "0", true},
		{10, pieces(4, 0), "2", "1", "1/2", "1", false},

		// edges
		{10, pieces(5, 2), "2", "1", "1/2", "1", true},
		{10, pieces(10, 1), "1", "1", "1", "1", true},
		{10, pieces(10, 1), "1", "1", "1.0000000000000000000000000000000001", "1.0000000000000000000000000000000001", false},
		{10, pieces(10, 1), "1", "0.9999999999999999999999999999999999", "0.9999999999999999999999999999999999", "0.9999999999999999999999999999999999", false},
		{200, pieces(1, api.MaxAbs), "200", "500000", "1/200", "500000", true},
		{200, pieces(1, api.MaxAbs), "201", "500000", "1/200", "500000", false},
	} {
		cutting := cuttingOf(t, c.patterns, c.times, c.worth, c.rolls)
		if got, err := CheckCut(c.roll, c.sizes, cutting); got != c.want || err != nil {
			t.Errorf("%d, %v: %s, %s, %s, %s: %v, %v", c.roll, c.sizes, c.patterns, c.times, c.worth, c.rolls, got, err)
		}
		if showsPlainly(c.roll, c.sizes, cutting) != c.want {
			t.Errorf("%d, %v: %s, %s, %s, %s: plainly", c.roll, c.sizes, c.patterns, c.times, c.worth, c.rolls)
		}
	}
}

// TestWildPatterns: numbers that run over when they are multiplied; all but the pattern is as it must be.
func TestWildPatterns(t *testing.T) {
	for _, many := range []int{math.MaxInt, math.MinInt, math.MaxInt/4 + 1, 1 << 62, 1 << 32} {
		for _, pattern := range [][]int{{many}, {many, many}, {many, 0}, {0, many}} {
			c := cuttingOf(t, "", "1", "1/2 1/2", "1")
			c.Patterns = [][]int{pattern}
			if ok, err := CheckCut(10, pieces(4, 1, 4, 1), c); ok || err != nil {
				t.Errorf("%v: %v, %v", pattern, ok, err)
			}
		}
	}
}

// TestNothingOfSizesIsKept: what is handed over is only read, and answers are new memory.
func TestNothingOfSizesIsKept(t *testing.T) {
	sizes := pieces(4, 3, 3, 2)
	c, _ := Cut(10, sizes)
	d, _ := Cut(10, sizes)
	if ok, err := CheckCut(10, sizes, c); !ok || err != nil || !reflect.DeepEqual(c, d) {
		t.Errorf("%+v, %v", c, err)
	}
	if !slices.Equal(sizes, pieces(4, 3, 3, 2)) {
		t.Error("sizes have changed")
	}
	for i, pattern := range d.Patterns {
		if slices.Contains(pattern, -5) {
			t.Error("patterns of one answer share memory")
		}
		pattern[0], pattern[1] = -5, -5
		d.Times[i], d.Worth[i] = ratio.Int(-5), ratio.Int(-5)
	}
	if e, _ := Cut(10, sizes); !reflect.DeepEqual(c, e) {
		t.Error("answers share memory")
	}
}
