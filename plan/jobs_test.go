package plan

import (
	"errors"
	"math"
	"reflect"
	"slices"
	"testing"

	"optima/api"
)

// shed is three jobs and two kinds; the last waits for both others.
func shed() api.Plan {
	return api.Plan{Caps: []int{3, 1}, Jobs: []api.Job{
		{Long: 2, Uses: []int{2, 0}},
		{Long: 3, Uses: []int{1, 1}},
		{Long: 1, After: []int{0, 1}, Uses: []int{3, 0}},
	}}
}

// shedWith is the shed with something changed.
func shedWith(change func(p *api.Plan)) api.Plan {
	p := shed()
	change(&p)
	return p
}

// longs is jobs that take so long, and use nothing.
func longs(list ...int) api.Plan {
	var p api.Plan
	for _, long := range list {
		p.Jobs = append(p.Jobs, api.Job{Long: long})
	}
	return p
}

func TestValid(t *testing.T) {
	many := slices.Repeat([]int{0}, api.MaxJobs+1)
	for what, c := range map[string]struct {
		p    api.Plan
		want error
	}{
		"a shed":    {shed(), nil},
		"nothing":   {api.Plan{}, nil},
		"caps":      {api.Plan{Caps: []int{0, api.MaxAbs}}, nil},
		"empty":     {api.Plan{Jobs: []api.Job{{}, {After: []int{}, Uses: []int{}}}, Caps: []int{}}, nil},
		"most":      {longs(0, 0, 0, 0, 0, 0, 30), nil},
		"all whole": {longs(5, 5, 5, 5, 5, 5, 0), nil},
		"most caps": {api.Plan{Caps: many[1:]}, nil},

		"eight jobs":     {longs(many...), api.ErrBound},
		"eight caps":     {api.Plan{Caps: many}, api.ErrBound},
		"cap below 0":    {shedWith(func(p *api.Plan) { p.Caps[1] = -1 }), api.ErrBound},
		"great cap":      {shedWith(func(p *api.Plan) { p.Caps[0] = api.MaxAbs + 1 }), api.ErrBound},
		"greatest cap":   {shedWith(func(p *api.Plan) { p.Caps[0] = api.MaxAbs }), nil},
		"endless cap":    {shedWith(func(p *api.Plan) { p.Caps[0] = math.MaxInt }), api.ErrBound},
		"long below 0":   {shedWith(func(p *api.Plan) { p.Jobs[2].Long = -1 }), api.ErrBound},
		"least long":     {shedWith(func(p *api.Plan) { p.Jobs[2].Long = math.MinInt }), api.ErrBound},
		"great long":     {longs(31), api.ErrBound},
		"greatest long":  {longs(30), nil},
		"long together":  {longs(10, 10, 11), api.ErrBound},
		"many after":     {shedWith(func(p *api.Plan) { p.Jobs[2].After = many }), api.ErrBound},
		"most after":     {shedWith(func(p *api.Plan) { p.Jobs[2].After = many[1:] }), nil},
		"few uses":       {shedWith(func(p *api.Plan) { p.Jobs[1].Uses = []int{1} }), api.ErrShape},
		"no uses":        {shedWith(func(p *api.Plan) { p.Jobs[0].Uses = nil }), api.ErrShape},
		"more uses":      {shedWith(func(p *api.Plan) { p.Jobs[1].Uses = []int{1, 1, 0} }), api.ErrShape},
		"use below 0":    {shedWith(func(p *api.Plan) { p.Jobs[1].Uses[0] = -1 }), api.ErrShape},
		"use above cap":  {shedWith(func(p *api.Plan) { p.Jobs[1].Uses[1] = 2 }), api.ErrShape},
		"use up to cap":  {shedWith(func(p *api.Plan) { p.Jobs[1].Uses[0] = 3 }), nil},
		"after itself":   {shedWith(func(p *api.Plan) { p.Jobs[1].After = []int{1} }), api.ErrShape},
		"after a later":  {shedWith(func(p *api.Plan) { p.Jobs[1].After = []int{2} }), api.ErrShape},
		"after below 0":  {shedWith(func(p *api.Plan) { p.Jobs[1].After = []int{-1} }), api.ErrShape},
		"after nobody":   {shedWith(func(p *api.Plan) { p.Jobs[1].After = []int{math.MaxInt} }), api.ErrShape},
		"first waits":    {shedWith(func(p *api.Plan) { p.Jobs[0].After = []int{0} }), api.ErrShape},
		"after twice":    {shedWith(func(p *api.Plan) { p.Jobs[2].After = []int{1, 0, 1} }), nil},
		"used by nobody": {api.Plan{Jobs: []api.Job{{Uses: []int{0}}}}, api.ErrShape},

		// the order
		"bound ahead of shape": {shedWith(func(p *api.Plan) { p.Jobs[1].Uses, p.Jobs[1].Long = nil, -1 }), api.ErrBound},
		"after ahead of shape": {shedWith(func(p *api.Plan) { p.Jobs[1].Uses, p.Jobs[1].After = nil, many }), api.ErrBound},
		"cap ahead of jobs":    {shedWith(func(p *api.Plan) { p.Jobs[0].Uses, p.Caps[1] = nil, -1 }), api.ErrBound},
		"job by job":           {shedWith(func(p *api.Plan) { p.Jobs[0].Uses, p.Jobs[1].Long = nil, -1 }), api.ErrShape},
		"job by job, after":    {shedWith(func(p *api.Plan) { p.Jobs[1].After, p.Jobs[2].Long = []int{1}, 31 }), api.ErrShape},
		"together at last":     {shedWith(func(p *api.Plan) { p.Jobs[0].Long, p.Jobs[1].Long, p.Jobs[2].Uses = 20, 20, nil }), api.ErrShape},
	} {
		err := Valid(c.p)
		if !errors.Is(err, c.want) || (err == nil) != (c.want == nil) {
			t.Errorf("%s: %v, want %v", what, err, c.want)
		}
		if err == nil {
			continue
		}
		if n, ok, wrong := Span(c.p, nil); n != 0 || ok || !errors.Is(wrong, c.want) {
			t.Errorf("%s: Span: %d, %v, %v", what, n, ok, wrong)
		}
		if x, n, wrong := Least(c.p); x != nil || n != 0 || !errors.Is(wrong, c.want) {
			t.Errorf("%s: Least: %v, %d, %v", what, x, n, wrong)
		}
	}
}

func TestSpan(t *testing.T) {
	alone := api.Plan{Caps: []int{1}, Jobs: []api.Job{{Long: 2, Uses: []int{1}}, {Long: 2, Uses: []int{1}}, {Long: 0, Uses: []int{1}}}}
	for _, c := range []struct {
		p      api.Plan
		starts []int
		span   int
		ok     bool
	}{
		{shed(), []int{0, 0, 3}, 4, true},
		{shed(), []int{1, 0, 3}, 4, true},
		{shed(), []int{2, 0, 3}, 0, false}, // ahead of the end of job 0
		{shed(), []int{0, 1, 3}, 0, false}, // of job 1
		{shed(), []int{0, 1, 4}, 5, true},
		{shed(), []int{0, 0, 9}, 10, true},
		{shed(), []int{-1, 0, 3}, 0, false},
		{shed(), []int{0, 0, api.MaxAbs}, api.MaxAbs + 1, true},
		{shed(), []int{0, 0, api.MaxAbs + 1}, 0, false},
		{shed(), []int{0, math.MaxInt, 3}, 0, false},
		{shed(), []int{math.MinInt, math.MinInt, math.MinInt}, 0, false},
		{shed(), []int{math.MaxInt, math.MaxInt, math.MaxInt}, 0, false},

		{alone, []int{0, 2, 0}, 4, true},
		{alone, []int{2, 0, 1}, 4, true}, // what takes no time uses nothing
		{alone, []int{0, 2, 7}, 7, true}, // but is done when it is
		{alone, []int{0, 1, 0}, 0, false},
		{alone, []int{1, 0, 0}, 0, false},
		{alone, []int{3, 3, 0}, 0, false},

		{api.Plan{}, nil, 0, true},
		{api.Plan{}, []int{}, 0, true},
		{api.Plan{Caps: []int{0}}, nil, 0, true},
		{longs(0), []int{0}, 0, true},
		{longs(0), []int{5}, 5, true},
		{longs(7), []int{5}, 12, true},
		{longs(7, 8), []int{5, 0}, 12, true},
	} {
		n, ok, err := Span(c.p, c.starts)
		if n != c.span || ok != c.ok || err != nil {
			t.Errorf("%v: %d, %v, %v", c.starts, n, ok, err)
		}
	}
	for _, starts := range [][]int{nil, {0, 0}, {0, 0, 3, 0}, {-1}} {
		if n, ok, err := Span(shed(), starts); n != 0 || ok || !errors.Is(err, api.ErrShape) {
			t.Errorf("%v: %d, %v, %v", starts, n, ok, err)
		}
	}
	if _, _, err := Span(longs(-1), []int{0, 0}); !errors.Is(err, api.ErrBound) {
		t.Errorf("the plan comes first: %v", err)
	}
}

func TestLeast(t *testing.T) {
	line := longs(4, 4, 4, 4, 4, 4, 4)
	for j := range line.Jobs[1:] {
		line.Jobs[j+1].After = []int{j}
	}
	one := api.Plan{Caps: []int{1}}
	for _, long := range []int{3, 1, 4, 1, 5, 9, 2} {
		one.Jobs = append(one.Jobs, api.Job{Long: long, Uses: []int{1}})
	}
	for what, c := range map[string]struct {
		p    api.Plan
		x    []int
		span int
	}{
		"a shed":      {shed(), []int{0, 0, 3}, 4},
		"nothing":     {api.Plan{}, nil, 0},
		"caps alone":  {api.Plan{Caps: []int{3}}, nil, 0},
		"no time":     {longs(0, 0, 0), []int{0, 0, 0}, 0},
		"together":    {longs(1, 2, 3, 4, 5, 6, 9), []int{0, 0, 0, 0, 0, 0, 0}, 9},
		"the longest": {longs(30), []int{0}, 30},
		"in line":     {line, []int{0, 4, 8, 12, 16, 20, 24}, 28},
		"one by one":  {one, []int{0, 3, 4, 8, 9, 14, 23}, 25},
		"no cap":      {api.Plan{Caps: []int{0}, Jobs: []api.Job{{Long: 3, Uses: []int{0}}, {Long: 2, Uses: []int{0}}}}, []int{0, 0}, 3},
		// The first job waits, so that all are done earlier: job 1 and what waits for it are the long way.
		"the first waits": {api.Plan{Caps: []int{1}, Jobs: []api.Job{{Long: 2, Uses: []int{1}}, {Long: 2, Uses: []int{1}}, {Long: 5, After: []int{1}, Uses: []int{0}}}}, []int{2, 0, 2}, 7},
		"side by side":    {api.Plan{Caps: []int{2}, Jobs: []api.Job{{Long: 3, Uses: []int{1}}, {Long: 3, Uses: []int{2}}, {Long: 1, Uses: []int{1}}, {Long: 3, After: []int{2}, Uses: []int{1}}}}, []int{0, 4, 0, 1}, 7},
	} {
		x, span, err := Least(c.p)
		if !slices.Equal(x, c.x) || span != c.span || err != nil {
			t.Errorf("%s: %v, %d, %v; it must be %v, %d", what, x, span, err, c.x, c.span)
		}
		if n, ok, err := Span(c.p, x); n != span || !ok || err != nil {
			t.Errorf("%s: Span: %d, %v, %v", what, n, ok, err)
		}
	}
}

// TestNothingIsKept: what is handed over is only read, and answers are new memory.
func TestNothingIsKept(t *testing.T) {
	p := shed()
	starts := []int{0, 0, 3}
	if _, _, err := Span(p, starts); err != nil || !slices.Equal(starts, []int{0, 0, 3}) {
		t.Error(starts, err)
	}
	x, _, _ := Least(p)
	y, _, _ := Least(p)
	x[0], x[2] = 77, 78
	if z, _, _ := Least(p); !slices.Equal(y, starts) || !slices.Equal(z, starts) {
		t.Error(y, z)
	}
	if !reflect.DeepEqual(p, shed()) {
		t.Error("the plan has changed")
	}
}
