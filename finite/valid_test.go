package finite

import (
	"errors"
	"math"
	"slices"
	"testing"

	"optima/api"
)

func numbersTo(from, to int) []int {
	var out []int
	for n := from; n <= to; n++ {
		out = append(out, n)
	}
	return out
}

func listsOf(list []int, times int) [][]int {
	out := make([][]int, times)
	for v := range out {
		out[v] = slices.Clone(list)
	}
	return out
}

// three is a puzzle of three variables with the values 0 to 3.
func three(cons ...api.Con) api.Puzzle {
	return api.Puzzle{Values: listsOf(numbersTo(0, 3), 3), Cons: cons}
}

func wrongIs(t *testing.T, p api.Puzzle, want error) {
	t.Helper()
	if err := Valid(p); !errors.Is(err, want) || (err == nil) != (want == nil) {
		t.Errorf("%.300v: %v; it must be %v", p, err, want)
	}
	if want == nil {
		return
	}
	ok, err := Keeps(p, nil)
	lists, left, errNarrow := Narrow(p)
	x, found, errFirst := First(p)
	y, least, errLeast := Least(p, -1)
	if ok || left || found || least || lists != nil || x != nil || y != nil {
		t.Errorf("%.300v: an answer beside %v", p, want)
	}
	for _, err := range []error{err, errNarrow, errFirst, errLeast} {
		if !errors.Is(err, want) {
			t.Errorf("%.300v: %v; it must be %v", p, err, want)
		}
	}
}

func TestValidLists(t *testing.T) {
	wrongIs(t, api.Puzzle{}, nil)
	wrongIs(t, api.Puzzle{Values: [][]int{nil, {}, {0}, {-api.MaxAbs, 0, api.MaxAbs}, numbersTo(1, api.MaxVals)}}, nil)
	wrongIs(t, api.Puzzle{Values: listsOf([]int{1}, api.MaxVars)}, nil)
	wrongIs(t, api.Puzzle{Values: listsOf([]int{1}, api.MaxVars+1)}, api.ErrBound)
	wrongIs(t, api.Puzzle{Values: [][]int{numbersTo(0, api.MaxVals)}}, api.ErrBound)
	wrongIs(t, api.Puzzle{Values: [][]int{{api.MaxAbs + 1}}}, api.ErrBound)
	wrongIs(t, api.Puzzle{Values: [][]int{{-api.MaxAbs - 1}}}, api.ErrBound)
	wrongIs(t, api.Puzzle{Values: [][]int{{math.MinInt}}}, api.ErrBound)
	wrongIs(t, api.Puzzle{Values: [][]int{{1, 1}}}, api.ErrShape)
	wrongIs(t, api.Puzzle{Values: [][]int{{1}, {1, 3, 2}}}, api.ErrShape)
	for _, c := range []struct {
		list []int
		err  error
	}{ // the length, then value by value, the size ahead of the order
		{make([]int, api.MaxVals+1), api.ErrBound},
		{make([]int, api.MaxVals), api.ErrShape},
		{[]int{2, 1, api.MaxAbs + 1}, api.ErrShape},
		{[]int{2, api.MaxAbs + 1, 1}, api.ErrBound},
		{[]int{2, -api.MaxAbs - 1}, api.ErrBound},
		{[]int{math.MinInt, math.MinInt}, api.ErrBound},
	} {
		wrongIs(t, api.Puzzle{Values: [][]int{c.list}}, c.err)
	}
}

func TestValidOrder(t *testing.T) {
	bent, great := []int{2, 1}, []int{api.MaxAbs + 1}
	wrongIs(t, api.Puzzle{Values: [][]int{bent, great}}, api.ErrShape)
	wrongIs(t, api.Puzzle{Values: [][]int{great, bent}}, api.ErrBound)
	bad, long := api.Con{Kind: 9}, api.Con{Kind: api.ConDiffer, Vars: make([]int, api.MaxVars+1)}
	wrongIs(t, api.Puzzle{Values: [][]int{bent}, Cons: []api.Con{long}}, api.ErrShape)
	wrongIs(t, api.Puzzle{Values: [][]int{great}, Cons: []api.Con{bad}}, api.ErrBound)
	wrongIs(t, three(bad, long), api.ErrShape)
	wrongIs(t, three(long, bad), api.ErrBound)
	many := make([]api.Con, api.MaxCons+1)
	for i := range many {
		many[i] = api.Con{Kind: api.ConDiffer}
	}
	wrongIs(t, three(many[1:]...), nil)
	wrongIs(t, three(many...), api.ErrBound)
	wrongIs(t, api.Puzzle{Values: [][]int{bent}, Cons: many}, api.ErrBound)
}

func TestValidCons(t *testing.T) {
	for _, con := range []api.Con{
		{Kind: api.ConDiffer},
		{Kind: api.ConDiffer, Vars: []int{2, 0, 2}},
		{Kind: api.ConSum},
		{Kind: api.ConSum, Limit: -5},
		{Kind: api.ConSum, Vars: []int{0, 0}, Nums: []int{api.MaxAbs, -api.MaxAbs}, Limit: api.MaxAbs},
		{Kind: api.ConTable},
		{Kind: api.ConTable, Rows: [][]int{{}, nil}},
		{Kind: api.ConTable, Vars: []int{1}},
		{Kind: api.ConTable, Vars: []int{1, 2}, Rows: [][]int{{7, -7}, {7, -7}}},
		{Kind: api.ConElement, Vars: []int{0, 1}},
		{Kind: api.ConElement, Vars: []int{0, 0, 0}},
		{Kind: api.ConShare},
		{Kind: api.ConShare, Vars: []int{0, 1}, Nums: []int{0, api.MaxAbs}, Uses: []int{api.MaxAbs, 0}, Limit: api.MaxAbs},
		{Kind: api.ConDiffer, Vars: make([]int, api.MaxVars)},
		{Kind: api.ConTable, Vars: []int{0}, Rows: listsOf([]int{1}, api.MaxVals)},
	} {
		wrongIs(t, three(con), nil)
	}
}

func TestValidShape(t *testing.T) {
	for _, con := range []api.Con{
		{},
		{Kind: -1},
		{Kind: api.ConShare + 1},
		{Kind: api.ConDiffer, Vars: []int{3}},
		{Kind: api.ConDiffer, Vars: []int{0, -1}},
		{Kind: api.ConDiffer, Vars: []int{math.MaxInt}},
		{Kind: api.ConDiffer, Vars: []int{0}, Nums: []int{1}},
		{Kind: api.ConDiffer, Vars: []int{0}, Uses: []int{1}},
		{Kind: api.ConDiffer, Vars: []int{0}, Rows: [][]int{{1}}},
		{Kind: api.ConDiffer, Vars: []int{0}, Limit: 1},
		{Kind: api.ConSum, Vars: []int{0, 1}, Nums: []int{1}},
		{Kind: api.ConSum, Vars: []int{0}, Nums: []int{1, 1}},
		{Kind: api.ConSum, Vars: []int{0, 1}, Nums: []int{1, 0}},
		{Kind: api.ConSum, Vars: []int{0}, Nums: []int{1}, Uses: []int{1}},
		{Kind: api.ConSum, Vars: []int{0}, Nums: []int{1}, Rows: [][]int{{1}}},
		{Kind: api.ConTable, Vars: []int{0}, Rows: [][]int{{1}, {}}},
		{Kind: api.ConTable, Vars: []int{0}, Rows: [][]int{{1}, {1, 2}}},
		{Kind: api.ConTable, Rows: [][]int{{1}}},
		{Kind: api.ConTable, Vars: []int{0}, Nums: []int{1}},
		{Kind: api.ConTable, Vars: []int{0}, Uses: []int{1}},
		{Kind: api.ConTable, Vars: []int{0}, Limit: -1},
		{Kind: api.ConElement},
		{Kind: api.ConElement, Vars: []int{0}},
		{Kind: api.ConElement, Vars: []int{0, 1, 3}},
		{Kind: api.ConElement, Vars: []int{0, 1}, Nums: []int{1, 1}},
		{Kind: api.ConElement, Vars: []int{0, 1}, Uses: []int{1, 1}},
		{Kind: api.ConElement, Vars: []int{0, 1}, Rows: [][]int{{1, 1}}},
		{Kind: api.ConElement, Vars: []int{0, 1}, Limit: 1},
		{Kind: api.ConShare, Vars: []int{0}, Nums: []int{1}},
		{Kind: api.ConShare, Vars: []int{0}, Uses: []int{1}},
		{Kind: api.ConShare, Vars: []int{0}, Nums: []int{-1}, Uses: []int{1}},
		{Kind: api.ConShare, Vars: []int{0}, Nums: []int{1}, Uses: []int{-1}},
		{Kind: api.ConShare, Vars: []int{0}, Nums: []int{1}, Uses: []int{1}, Limit: -1},
		{Kind: api.ConShare, Vars: []int{0}, Nums: []int{1}, Uses: []int{1}, Rows: [][]int{{1}}},
	} {
		wrongIs(t, three(con), api.ErrShape)
	}
}

// TestValidBounds: of one constraint bounds go ahead of shape, whatever its kind is.
func TestValidBounds(t *testing.T) {
	long := make([]int, api.MaxVars+1)
	for kind := range api.ConShare + 3 {
		for _, con := range []api.Con{
			{Vars: long},
			{Nums: long},
			{Uses: long},
			{Rows: [][]int{long}},
			{Rows: make([][]int, api.MaxVals+1)},
			{Nums: []int{api.MaxAbs + 1}},
			{Uses: []int{-api.MaxAbs - 1}},
			{Limit: api.MaxAbs + 1},
			{Limit: math.MinInt},
			{Rows: [][]int{{0, 0}, {0, math.MaxInt}}},
		} {
			con.Kind = kind
			if con.Vars == nil {
				con.Vars = []int{7}
			}
			wrongIs(t, three(con), api.ErrBound)
		}
	}
}
