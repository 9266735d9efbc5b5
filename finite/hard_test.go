package finite

import (
	"slices"
	"testing"

	"optima/api"
)

func ones(many int) []int { return slices.Repeat([]int{1}, many) }

func firstIs(t *testing.T, what string, p api.Puzzle, want ...int) {
	t.Helper()
	x, ok, err := First(p)
	if err != nil || ok != (want != nil) || len(x) < len(want) || !slices.Equal(x[:len(want)], want) {
		t.Errorf("%s: %v, %v, %v; it must be %v", what, x, ok, err, want)
	}
	if kept, err := Keeps(p, x); ok && (!kept || err != nil) {
		t.Errorf("%s: %v is not kept (%v)", what, x, err)
	}
}

// queens is as many queens as lines: besides their places in these the numbers of their slanted lines, both ways.
func queens(many int) api.Puzzle {
	all := numbersTo(0, many-1)
	p := api.Puzzle{Values: listsOf(all, many), Cons: []api.Con{{Kind: api.ConDiffer, Vars: all}}}
	for _, by := range []int{1, -1} {
		var slanted []int
		for i := range many {
			slanted = append(slanted, len(p.Values))
			p.Cons = append(p.Cons, api.Con{Kind: api.ConSum, Vars: []int{len(p.Values), i}, Nums: []int{1, -1}, Limit: by * i})
			p.Values = append(p.Values, numbersTo(by*i, by*i+many-1))
		}
		p.Cons = append(p.Cons, api.Con{Kind: api.ConDiffer, Vars: slanted})
	}
	return p
}

func TestQueens(t *testing.T) {
	firstIs(t, "1", queens(1), 0)
	firstIs(t, "2", queens(2))
	firstIs(t, "3", queens(3))
	firstIs(t, "8", queens(8), 0, 4, 7, 5, 2, 6, 1, 3)
	firstIs(t, "12", queens(12), 0, 2, 4, 7, 9, 11, 5, 10, 1, 6, 8, 3)
	firstIs(t, "18", queens(18), 0, 2, 4, 1, 7, 14, 11, 15, 12, 16, 5, 17, 6, 3, 10, 8, 13, 9)
}

// square is a square with the numbers from 1 on, all rows, columns and diagonals being the same together.
func square(side int) api.Puzzle {
	many := side * side
	p := api.Puzzle{Values: listsOf(numbersTo(1, many), many), Cons: []api.Con{{Kind: api.ConDiffer, Vars: numbersTo(0, many-1)}}}
	line := func(from, step int) {
		con := api.Con{Kind: api.ConSum, Nums: ones(side), Limit: side * (many + 1) / 2}
		for i := range side {
			con.Vars = append(con.Vars, from+i*step)
		}
		p.Cons = append(p.Cons, con)
	}
	for i := range side {
		line(i*side, 1)
		line(i, side)
	}
	line(0, side+1)
	line(side-1, side-1)
	return p
}

func TestSquares(t *testing.T) {
	firstIs(t, "1", square(1), 1)
	firstIs(t, "2", square(2))
	firstIs(t, "3", square(3), 2, 7, 6, 9, 5, 1, 4, 3, 8)
	firstIs(t, "4", square(4), 1, 2, 15, 16, 12, 14, 3, 5, 13, 7, 10, 4, 8, 11, 6, 9)
	firstIs(t, "5", square(5), 1, 2, 13, 24, 25, 3, 22, 19, 6, 15, 23, 16, 10, 11, 5, 21, 7, 9, 20, 8, 17, 18, 14, 4, 12)
}

// ruler is marks whose distances all differ.
func ruler(marks, long int) api.Puzzle {
	p := api.Puzzle{Values: listsOf(numbersTo(0, long), marks)}
	var distances []int
	for i := range marks {
		for j := range i {
			distances = append(distances, len(p.Values))
			p.Cons = append(p.Cons, api.Con{Kind: api.ConSum, Vars: []int{i, j, len(p.Values)}, Nums: []int{1, -1, -1}})
			p.Values = append(p.Values, numbersTo(1, long))
		}
	}
	p.Cons = append(p.Cons, api.Con{Kind: api.ConDiffer, Vars: distances})
	return p
}

func TestRulers(t *testing.T) {
	for _, want := range [][]int{{0, 1}, {0, 1, 3}, {0, 1, 4, 6}, {0, 1, 4, 9, 11}, {0, 1, 4, 10, 12, 17}, {0, 1, 4, 10, 18, 23, 25}, {0, 1, 4, 9, 15, 22, 32, 34}} {
		marks := len(want)
		x, ok, err := Least(ruler(marks, 40), marks-1)
		if err != nil || !ok || !slices.Equal(x[:marks], want) {
			t.Errorf("%d marks: %v, %v, %v; it must be %v", marks, x, ok, err, want)
		}
	}
}

// TestLetters: letters stand for digits: SEND and MORE are MONEY.
func TestLetters(t *testing.T) {
	p := api.Puzzle{Values: listsOf(numbersTo(0, 9), 8)} // S E N D M O R Y
	p.Values[0], p.Values[4] = numbersTo(1, 9), numbersTo(1, 9)
	all := numbersTo(0, 7)
	p.Cons = []api.Con{{Kind: api.ConDiffer, Vars: all}, {Kind: api.ConSum, Vars: all, Nums: []int{1000, 91, -90, 1, -9000, -900, 10, -1}}}
	firstIs(t, "letters", p, 9, 5, 6, 7, 1, 0, 8, 2)
}

// shop is jobs whose parts run one behind the other, each on a machine that runs one at a time: when each part begins, when all are done, and how long it is waited behind each part.
func shop(machines [][]int, longs [][]int, end int) (api.Puzzle, int) {
	many := 0
	for _, job := range machines {
		many += len(job)
	}
	p := api.Puzzle{Values: listsOf(numbersTo(0, end), many+1)}
	shares := make([]api.Con, len(machines[0]))
	part := 0
	for j, job := range machines {
		for i, machine := range job {
			next := part + 1
			if i == len(job)-1 {
				next = many
			}
			p.Cons = append(p.Cons, api.Con{Kind: api.ConSum, Vars: []int{next, part, len(p.Values)}, Nums: []int{1, -1, -1}, Limit: longs[j][i]})
			p.Values = append(p.Values, numbersTo(0, end))
			con := &shares[machine]
			con.Vars, con.Nums = append(con.Vars, part), append(con.Nums, longs[j][i])
			part++
		}
	}
	for _, con := range shares {
		p.Cons = append(p.Cons, api.Con{Kind: api.ConShare, Vars: con.Vars, Nums: con.Nums, Uses: ones(len(con.Vars)), Limit: 1})
	}
	return p, many
}

// TestShop: three jobs that are known to take 11, and five; one moment less is too little.
func TestShop(t *testing.T) {
	p, k := shop([][]int{{0, 1, 2}, {0, 2, 1}, {1, 2, 0}}, [][]int{{3, 2, 2}, {2, 1, 4}, {4, 3, 0}}, 20)
	shopTakes(t, p, k, 11)
	p, k = shop([][]int{{2, 0, 1, 3}, {1, 2, 3, 0}, {2, 3, 0, 1}, {1, 0, 2, 3}, {3, 1, 0, 2}}, [][]int{{1, 3, 6, 7}, {8, 5, 10, 10}, {5, 4, 8, 9}, {5, 5, 5, 3}, {9, 3, 5, 4}}, 60)
	shopTakes(t, p, k, 38)
}

func shopTakes(t *testing.T, p api.Puzzle, k, want int) {
	t.Helper()
	x, ok, err := Least(p, k)
	if err != nil || !ok || x[k] != want {
		t.Fatalf("%v, %v, %v; it must take %d", x, ok, err, want)
	}
	if kept, err := Keeps(p, x); !kept || err != nil {
		t.Errorf("%v is not kept (%v)", x, err)
	}
	p.Values[k] = []int{want}
	firstIs(t, "the same", p, x...)
	p.Values[k] = numbersTo(0, want-1)
	firstIs(t, "less", p)
}

// TestFarApart: choices that have nothing to do with what is wrong are not tried one after the other.
func TestFarApart(t *testing.T) {
	p := api.Puzzle{Values: listsOf(numbersTo(0, 49), api.MaxVars)}
	for v := 0; v+1 < api.MaxVars-4; v += 2 {
		p.Cons = append(p.Cons, api.Con{Kind: api.ConDiffer, Vars: []int{v, v + 1}})
	}
	for i := range 4 {
		p.Values[api.MaxVars-1-i] = numbersTo(0, 9)
	}
	last := numbersTo(api.MaxVars-4, api.MaxVars-1)
	p.Cons = append(p.Cons, api.Con{Kind: api.ConSum, Vars: last, Nums: []int{2, 2, 2, 2}, Limit: 31})
	firstIs(t, "halves", p)
	p.Cons[len(p.Cons)-1].Limit = 30
	x, ok, err := First(p)
	if err != nil || !ok || !slices.Equal(x[:4], []int{0, 1, 0, 1}) || !slices.Equal(x[api.MaxVars-4:], []int{0, 0, 6, 9}) {
		t.Errorf("%v, %v, %v", x, ok, err)
	}
}

// TestHoles: more pigeons than holes, two at a time.
func TestHoles(t *testing.T) {
	many := 9
	p := api.Puzzle{Values: listsOf(numbersTo(1, many-1), many)}
	for i := range many {
		for j := range i {
			p.Cons = append(p.Cons, api.Con{Kind: api.ConDiffer, Vars: []int{j, i}})
		}
	}
	firstIs(t, "holes", p)
	p.Values[many-1] = numbersTo(1, many)
	firstIs(t, "enough", p, numbersTo(1, many)...)
}

// TestGreatest: as many variables, values and constraints as there may be, of each kind.
func TestGreatest(t *testing.T) {
	s := scatter(31415926)
	all := numbersTo(0, api.MaxVars-1)
	for kind := api.ConDiffer; kind <= api.ConShare; kind++ {
		p := api.Puzzle{Values: listsOf(numbersTo(0, api.MaxVals-1), api.MaxVars)}
		for range api.MaxCons {
			con := api.Con{Kind: kind, Vars: slices.Clone(all)}
			switch kind {
			case api.ConSum:
				con.Nums, con.Limit = ones(api.MaxVars), 3*api.MaxVars
			case api.ConTable:
				for range api.MaxVals - 1 {
					con.Rows = append(con.Rows, s.numbers(api.MaxVars, 0, api.MaxVals))
				}
				con.Rows = append(con.Rows, all)
			case api.ConShare:
				con.Nums, con.Uses, con.Limit = s.numbers(api.MaxVars, 0, 9), s.numbers(api.MaxVars, 0, 5), 30
			}
			p.Cons = append(p.Cons, con)
		}
		if _, ok, err := Narrow(p); !ok || err != nil {
			t.Errorf("kind %d: %v, %v", kind, ok, err)
		}
		x, ok, err := First(p)
		if kept, wrong := Keeps(p, x); !ok || err != nil || !kept || wrong != nil {
			t.Errorf("kind %d: %v, %v, %v", kind, ok, err, kept)
		}
	}
}
