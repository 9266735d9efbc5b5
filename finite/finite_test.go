package finite

import (
	"errors"
	"fmt"
	"reflect"
	"slices"
	"testing"

	"optima/api"
)

func TestKeepsEachKind(t *testing.T) {
	for _, c := range []struct {
		con  api.Con
		x    []int
		want bool
	}{
		{api.Con{Kind: api.ConDiffer, Vars: []int{0, 1, 2}}, []int{3, 1, 2}, true},
		{api.Con{Kind: api.ConDiffer, Vars: []int{0, 1, 2}}, []int{3, 1, 3}, false},
		{api.Con{Kind: api.ConDiffer, Vars: []int{0, 1}}, []int{3, 1, 3}, true},
		{api.Con{Kind: api.ConDiffer, Vars: []int{1, 1}}, []int{0, 1, 2}, false},
		{api.Con{Kind: api.ConDiffer}, []int{0, 0, 0}, true},
		{api.Con{Kind: api.ConSum, Vars: []int{0, 2}, Nums: []int{2, -3}, Limit: -3}, []int{3, 0, 3}, true},
		{api.Con{Kind: api.ConSum, Vars: []int{0, 2}, Nums: []int{2, -3}, Limit: -3}, []int{3, 3, 2}, false},
		{api.Con{Kind: api.ConSum, Vars: []int{0, 0, 1}, Nums: []int{1, 1, 1}, Limit: 7}, []int{2, 3, 0}, true},
		{api.Con{Kind: api.ConSum}, []int{0, 0, 0}, true},
		{api.Con{Kind: api.ConSum, Limit: 1}, []int{0, 0, 0}, false},
		{api.Con{Kind: api.ConTable, Vars: []int{2, 0}, Rows: [][]int{{1, 2}, {3, 0}}}, []int{0, 1, 3}, true},
		{api.Con{Kind: api.ConTable, Vars: []int{2, 0}, Rows: [][]int{{1, 2}, {3, 0}}}, []int{3, 1, 0}, false},
		{api.Con{Kind: api.ConTable, Vars: []int{0, 0}, Rows: [][]int{{1, 2}}}, []int{1, 0, 0}, false},
		{api.Con{Kind: api.ConTable, Rows: [][]int{{}}}, []int{1, 0, 0}, true},
		{api.Con{Kind: api.ConTable}, []int{1, 0, 0}, false},
		{api.Con{Kind: api.ConElement, Vars: []int{0, 1, 2, 1, 2}}, []int{0, 2, 2}, true},
		{api.Con{Kind: api.ConElement, Vars: []int{0, 1, 2, 1, 2}}, []int{1, 2, 3}, true},
		{api.Con{Kind: api.ConElement, Vars: []int{0, 1, 2, 1, 2}}, []int{2, 2, 3}, false},
		{api.Con{Kind: api.ConElement, Vars: []int{0, 1, 2, 1, 2}}, []int{3, 2, 2}, false},
		{api.Con{Kind: api.ConElement, Vars: []int{0, 1}}, []int{0, 0, 0}, false},
		{api.Con{Kind: api.ConShare, Vars: []int{0, 1, 2}, Nums: []int{2, 2, 1}, Uses: []int{2, 1, 1}, Limit: 3}, []int{0, 1, 2}, true},
		{api.Con{Kind: api.ConShare, Vars: []int{0, 1, 2}, Nums: []int{2, 2, 1}, Uses: []int{2, 1, 1}, Limit: 3}, []int{0, 1, 1}, false},
		{api.Con{Kind: api.ConShare, Vars: []int{0, 1}, Nums: []int{2, 0}, Uses: []int{1, 9}, Limit: 1}, []int{0, 1, 0}, true},
		{api.Con{Kind: api.ConShare, Vars: []int{0, 0}, Nums: []int{1, 1}, Uses: []int{1, 1}, Limit: 1}, []int{0, 1, 0}, false},
	} {
		if got, err := Keeps(three(c.con), c.x); err != nil || got != c.want {
			t.Errorf("%+v, %v: %v, %v", c.con, c.x, got, err)
		}
	}
}

func TestKeepsLists(t *testing.T) {
	p := api.Puzzle{Values: [][]int{{-4, 2}, {7}}}
	for _, c := range []struct {
		x    []int
		want bool
		err  error
	}{
		{[]int{-4, 7}, true, nil},
		{[]int{2, 7}, true, nil},
		{[]int{0, 7}, false, nil},
		{[]int{2, 8}, false, nil},
		{[]int{2}, false, api.ErrShape},
		{[]int{2, 7, 7}, false, api.ErrShape},
		{nil, false, api.ErrShape},
	} {
		if got, err := Keeps(p, c.x); got != c.want || !errors.Is(err, c.err) {
			t.Errorf("%v: %v, %v", c.x, got, err)
		}
	}
	if ok, err := Keeps(api.Puzzle{}, nil); !ok || err != nil {
		t.Errorf("nothing to keep: %v, %v", ok, err)
	}
}

// TestKeepsGreat: sums of the greatest numbers there are.
func TestKeepsGreat(t *testing.T) {
	great := []int{-api.MaxAbs, api.MaxAbs}
	p := api.Puzzle{Values: listsOf(great, api.MaxVars)}
	con := api.Con{Kind: api.ConSum, Limit: 0}
	for v := range api.MaxVars {
		con.Vars, con.Nums = append(con.Vars, v), append(con.Nums, api.MaxAbs)
	}
	share := api.Con{Kind: api.ConShare, Vars: con.Vars, Nums: con.Nums, Uses: con.Nums, Limit: api.MaxAbs}
	x := slices.Concat(slices.Repeat(great[:1], api.MaxVars/2), slices.Repeat(great[1:], api.MaxVars/2))
	p.Cons = []api.Con{con}
	if ok, err := Keeps(p, x); !ok || err != nil {
		t.Errorf("the sum: %v, %v", ok, err)
	}
	if first, ok, err := First(p); !ok || err != nil || !slices.Equal(first, x) {
		t.Errorf("%v, %v, %v", first, ok, err)
	}
	p.Cons = []api.Con{share}
	if ok, err := Keeps(p, x); ok || err != nil {
		t.Errorf("the share: %v, %v", ok, err)
	}
	if _, ok, err := First(p); ok || err != nil {
		t.Errorf("the share: %v, %v", ok, err)
	}
}

func narrowIs(t *testing.T, lists [][]int, con api.Con, want string) {
	t.Helper()
	got, ok, err := Narrow(api.Puzzle{Values: lists, Cons: []api.Con{con}})
	text := fmt.Sprint(got)
	if !ok && got == nil {
		text = "none"
	}
	if err != nil || text != want {
		t.Errorf("%v, %+v: %s, %v; it must be %s", lists, con, text, err, want)
	}
}

func TestNarrowDiffer(t *testing.T) {
	differ := func(vars ...int) api.Con { return api.Con{Kind: api.ConDiffer, Vars: vars} }
	narrowIs(t, [][]int{{1, 2}, {1, 2}, {1, 2}}, differ(0, 1, 2), "none")
	narrowIs(t, [][]int{{1, 2}, {1, 2}, {1, 2}}, differ(0, 2), "[[1 2] [1 2] [1 2]]")
	narrowIs(t, [][]int{{1, 2}, {1, 2}, {1, 2, 3}, {2, 3, 4}}, differ(0, 1, 2, 3), "[[1 2] [1 2] [3] [4]]")
	narrowIs(t, [][]int{{1}, {1, 2}, {1, 2, 3}}, differ(2, 1, 0), "[[1] [2] [3]]")
	narrowIs(t, [][]int{{1, 2}, {2, 3}, {1, 3}, {1, 2, 3, 4, 5}}, differ(0, 1, 2, 3), "[[1 2] [2 3] [1 3] [4 5]]")
	narrowIs(t, [][]int{{1, 2}}, differ(0, 0), "[[1 2]]")
	narrowIs(t, [][]int{{1, 2}, {1, 2, 3}}, differ(0, 1, 0), "[[1 2] [3]]")
	narrowIs(t, [][]int{{1, 2}}, differ(0, 0, 0), "none")
	narrowIs(t, [][]int{{1}}, differ(0, 0), "none")
	narrowIs(t, [][]int{{1}}, differ(), "[[1]]")
}

func TestNarrowSum(t *testing.T) {
	sum := func(limit int, nums []int, vars ...int) api.Con {
		return api.Con{Kind: api.ConSum, Vars: vars, Nums: nums, Limit: limit}
	}
	narrowIs(t, listsOf(numbersTo(0, 5), 2), sum(16, []int{2, 3}, 0, 1), "[[2 3 4 5] [2 3 4]]")
	narrowIs(t, listsOf(numbersTo(0, 5), 2), sum(4, []int{1, -1}, 0, 1), "[[4 5] [0 1]]")
	narrowIs(t, listsOf([]int{0, 2, 4}, 3), sum(5, []int{1, 1, 1}, 0, 1, 2), "[[0 2 4] [0 2 4] [0 2 4]]") // only ends are looked at
	narrowIs(t, [][]int{{0, 9}, {0, 9}}, sum(5, []int{1, 1}, 0, 1), "none")
	narrowIs(t, [][]int{numbersTo(0, 9)}, sum(10, []int{1, 1}, 0, 0), "[[1 2 3 4 5 6 7 8 9]]") // each counts by itself
	narrowIs(t, [][]int{numbersTo(0, 9)}, sum(18, []int{1, 1}, 0, 0), "[[9]]")
	narrowIs(t, [][]int{numbersTo(0, 9)}, sum(3, []int{2}, 0), "none")
	narrowIs(t, [][]int{{3}}, sum(0, nil), "[[3]]")
	narrowIs(t, [][]int{{3}}, sum(7, nil), "[[3]]") // nothing can go
}

func TestNarrowTable(t *testing.T) {
	table := func(rows [][]int, vars ...int) api.Con {
		return api.Con{Kind: api.ConTable, Vars: vars, Rows: rows}
	}
	lists := listsOf(numbersTo(0, 3), 2)
	narrowIs(t, lists, table([][]int{{0, 3}, {2, 1}, {7, 1}}, 0, 1), "[[0 2] [1 3]]")
	narrowIs(t, lists, table([][]int{{0, 3}, {2, 2}}, 1, 1), "[[0 1 2 3] [2]]")
	narrowIs(t, lists, table([][]int{{0, 3}, {1, 2}}, 1, 1), "none")
	narrowIs(t, lists, table(nil, 0), "none")
	narrowIs(t, lists, table([][]int{{4, 4}}, 0, 1), "none")
	narrowIs(t, lists, table(nil), "[[0 1 2 3] [0 1 2 3]]") // nothing can go
}

func TestNarrowElement(t *testing.T) {
	element := func(vars ...int) api.Con { return api.Con{Kind: api.ConElement, Vars: vars} }
	narrowIs(t, [][]int{{0, 1, 2}, {5, 6}, {1, 5}, {2, 3}}, element(0, 1, 2, 3), "[[0] [5] [5] [2 3]]")
	narrowIs(t, [][]int{{-1, 0, 1, 7}, {4, 5, 6}, {1, 4}, {2, 6}}, element(0, 1, 2, 3), "[[0 1] [4 6] [1 4] [2 6]]")
	narrowIs(t, [][]int{{1}, {4, 5, 6}, {1, 4}, {2, 5, 6, 9}}, element(0, 1, 2, 3), "[[1] [5 6] [1 4] [5 6]]")
	narrowIs(t, [][]int{{0, 1}, {5}, {4}, {3}}, element(0, 1, 2, 3), "none")
	narrowIs(t, [][]int{{0}, {5}}, element(0, 1), "none")
	narrowIs(t, [][]int{{0, 1}, {5}}, element(0, 1, 1, 1), "[[0 1] [5]]")
	narrowIs(t, [][]int{{0, 1, 2}}, element(0, 0, 0, 0), "[[0 1]]")
}

func TestNarrowShare(t *testing.T) {
	share := func(limit int, nums, uses []int, vars ...int) api.Con {
		return api.Con{Kind: api.ConShare, Vars: vars, Nums: nums, Uses: uses, Limit: limit}
	}
	lists := [][]int{{0, 1}, numbersTo(0, 4)}
	narrowIs(t, lists, share(1, []int{3, 2}, []int{1, 1}, 0, 1), "[[0 1] [3 4]]")
	narrowIs(t, lists, share(2, []int{3, 2}, []int{1, 1}, 0, 1), "[[0 1] [0 1 2 3 4]]")
	narrowIs(t, lists, share(1, []int{3, 0}, []int{1, 5}, 0, 1), "[[0 1] [0 1 2 3 4]]")
	narrowIs(t, lists, share(1, []int{3, 5}, []int{1, 0}, 0, 1), "[[0 1] [0 1 2 3 4]]")
	narrowIs(t, lists, share(1, []int{3, 1}, []int{1, 2}, 0, 1), "none") // too much by itself
	narrowIs(t, lists, share(0, []int{0}, []int{2}, 0), "[[0 1] [0 1 2 3 4]]")
	narrowIs(t, [][]int{{0}, {0, 9}}, share(1, []int{9, 1}, []int{1, 1}, 0, 1), "[[0] [9]]")
	narrowIs(t, [][]int{{0, 1}}, share(1, []int{2, 2}, []int{1, 1}, 0, 0), "none")
	narrowIs(t, [][]int{{0, 2}}, share(1, []int{2, 2}, []int{1, 1}, 0, 0), "[[0 2]]") // it need not run at any moment
	narrowIs(t, [][]int{{3}, {4}, numbersTo(0, 9)}, share(3, []int{4, 4, 2}, []int{2, 1, 1}, 0, 1, 2), "[[3] [4] [0 1 2 7 8 9]]")
}

// TestNarrowTogether: what goes by one constraint lets more go by others.
func TestNarrowTogether(t *testing.T) {
	p := api.Puzzle{Values: [][]int{{0, 1}, {0, 1}, {0, 1, 2}, numbersTo(0, 9)}, Cons: []api.Con{
		{Kind: api.ConSum, Vars: []int{3, 2}, Nums: []int{1, -2}, Limit: 1},
		{Kind: api.ConDiffer, Vars: []int{0, 1, 2}},
	}}
	if got, ok, err := Narrow(p); err != nil || !ok || fmt.Sprint(got) != "[[0 1] [0 1] [2] [5]]" {
		t.Errorf("%v, %v, %v", got, ok, err)
	}
	for _, p := range []api.Puzzle{{}, {Values: [][]int{}}} {
		if got, ok, err := Narrow(p); err != nil || !ok || len(got) != 0 {
			t.Errorf("no variables: %v, %v, %v", got, ok, err)
		}
	}
	for _, p := range []api.Puzzle{{Values: [][]int{nil}}, {Values: [][]int{{1}, {}}}} {
		if got, ok, err := Narrow(p); err != nil || ok || got != nil {
			t.Errorf("an empty list: %v, %v, %v", got, ok, err)
		}
	}
}

func TestFirstEdges(t *testing.T) {
	for _, c := range []struct {
		p    api.Puzzle
		want string
	}{
		{api.Puzzle{}, "[] true"},
		{api.Puzzle{Values: [][]int{{}}}, "[] false"},
		{api.Puzzle{Values: [][]int{{3, 4}, {}}}, "[] false"},
		{api.Puzzle{Values: [][]int{{3, 4}, {-7, 0}}}, "[3 -7] true"},
		{api.Puzzle{Values: [][]int{{3}}, Cons: []api.Con{{Kind: api.ConSum}}}, "[3] true"},
		{api.Puzzle{Values: [][]int{{3}}, Cons: []api.Con{{Kind: api.ConSum, Limit: 1}}}, "[] false"},
		{api.Puzzle{Cons: []api.Con{{Kind: api.ConTable}}}, "[] false"},
		{api.Puzzle{Cons: []api.Con{{Kind: api.ConTable, Rows: [][]int{nil}}, {Kind: api.ConDiffer}, {Kind: api.ConShare}}}, "[] true"},
		{api.Puzzle{Values: [][]int{{1, 2}}, Cons: []api.Con{{Kind: api.ConDiffer, Vars: []int{0, 0}}}}, "[] false"},
		{api.Puzzle{Values: [][]int{{0, 2, 4}, {0, 2, 4}}, Cons: []api.Con{{Kind: api.ConSum, Vars: []int{0, 1}, Nums: []int{1, 1}, Limit: 5}}}, "[] false"},
		{api.Puzzle{Values: [][]int{{0, 5, 9}}, Cons: []api.Con{{Kind: api.ConSum, Vars: []int{0, 0}, Nums: []int{1, 1}, Limit: 10}}}, "[5] true"},
	} {
		x, ok, err := First(c.p)
		if got := fmt.Sprint(x, ok); err != nil || got != c.want || !ok && x != nil {
			t.Errorf("%+v: %s, %v; it must be %s", c.p, got, err, c.want)
		}
	}
}

func TestLeast(t *testing.T) {
	p := api.Puzzle{Values: listsOf(numbersTo(0, 9), 3), Cons: []api.Con{{Kind: api.ConSum, Vars: []int{0, 1, 2}, Nums: []int{1, 1, 1}, Limit: 20}}}
	for k, want := range []string{"[2 9 9]", "[9 2 9]", "[9 9 2]"} {
		if x, ok, err := Least(p, k); err != nil || !ok || fmt.Sprint(x) != want {
			t.Errorf("%d: %v, %v, %v; it must be %s", k, x, ok, err, want)
		}
	}
	p.Cons[0].Limit = 10
	for k, want := range []string{"[0 1 9]", "[1 0 9]", "[1 9 0]"} {
		if x, ok, err := Least(p, k); err != nil || !ok || fmt.Sprint(x) != want {
			t.Errorf("%d: %v, %v, %v; it must be %s", k, x, ok, err, want)
		}
	}
	p.Cons[0].Limit = 28
	if x, ok, err := Least(p, 1); err != nil || ok || x != nil {
		t.Errorf("nothing: %v, %v, %v", x, ok, err)
	}
	for _, k := range []int{-1, 3, 1 << 40} {
		if x, ok, err := Least(p, k); !errors.Is(err, api.ErrShape) || ok || x != nil {
			t.Errorf("%d: %v, %v, %v", k, x, ok, err)
		}
	}
	if _, ok, err := Least(api.Puzzle{}, 0); !errors.Is(err, api.ErrShape) || ok {
		t.Errorf("no variables: %v, %v", ok, err)
	}
}

// copyOf is the same in other memory.
func copyOf(p api.Puzzle) api.Puzzle {
	rows := func(lists [][]int) [][]int {
		out := slices.Clone(lists)
		for i := range out {
			out[i] = slices.Clone(out[i])
		}
		return out
	}
	q := api.Puzzle{Values: rows(p.Values)}
	for _, con := range p.Cons {
		con.Vars, con.Nums, con.Uses, con.Rows = slices.Clone(con.Vars), slices.Clone(con.Nums), slices.Clone(con.Uses), rows(con.Rows)
		q.Cons = append(q.Cons, con)
	}
	return q
}

// TestOwnMemory: what is given is only read, and what is answered is nobody else's.
func TestOwnMemory(t *testing.T) {
	s := scatter(4242)
	for range 500 {
		vars := 1 + s.below(5)
		p := s.planted(vars, 6, s.below(5))
		q := copyOf(p)
		lists, _, _ := Narrow(p)
		x, _, _ := First(p)
		y, _, _ := Least(p, vars-1)
		_, _ = Keeps(p, x)
		if !reflect.DeepEqual(p, q) {
			t.Fatalf("%+v has become %+v", q, p)
		}
		for v := range x {
			x[v], y[v] = -1000, -2000
		}
		for v := range lists {
			lists[v] = append(lists[v][:0], slices.Repeat([]int{-3000 - v}, len(lists[v]))...)
			lists[v] = append(lists[v], 5000)
		}
		for v := range lists {
			if lists[v][0] != -3000-v {
				t.Fatal("two lists share memory")
			}
		}
		if !reflect.DeepEqual(p, q) {
			t.Fatalf("%+v has become %+v by what was answered", q, p)
		}
	}
}
