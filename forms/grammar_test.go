package forms

import (
	"fmt"
	"slices"
	"strings"
	"testing"

	"optima/api"
)

// state is a place of the grammar: the tokens that lead on from it, and the places that are the same as it.
type state struct {
	by   map[string][]*state
	same []*state
}

// piece of the grammar, from one place to another.
type bit struct{ from, to *state }

func newState() *state { return &state{by: map[string][]*state{}} }

func tok(word string) bit {
	b := bit{newState(), newState()}
	b.from.by[word] = append(b.from.by[word], b.to)
	return b
}

func seq(bits ...bit) bit {
	for i := range len(bits) - 1 {
		bits[i].to.same = append(bits[i].to.same, bits[i+1].from)
	}
	return bit{bits[0].from, bits[len(bits)-1].to}
}

func alt(bits ...bit) bit {
	all := bit{newState(), newState()}
	for _, b := range bits {
		all.from.same = append(all.from.same, b.from)
		b.to.same = append(b.to.same, all.to)
	}
	return all
}

func opt(b bit) bit {
	all := alt(b)
	all.from.same = append(all.from.same, all.to)
	return all
}

func star(b bit) bit {
	all := opt(b)
	all.to.same = append(all.to.same, all.from)
	return all
}

const (
	aNum  = "0"
	anID  = "name"
	words = "maximize minimize subject to bounds generals end free nought 0 name <= >= + - = :"
)

// lineGrammar is the grammar of the document, word by word.
func lineGrammar() bit {
	plus := func() bit { return alt(tok("+"), tok("-")) }
	signed := func() bit { return seq(opt(plus()), tok(aNum)) }
	term := func() bit { return alt(tok(aNum), seq(opt(tok(aNum)), tok(anID))) }
	sum := func() bit {
		return alt(tok("nought"), seq(opt(plus()), term(), star(seq(plus(), term()))))
	}
	numberSum := func() bit { return seq(opt(plus()), tok(aNum), star(seq(plus(), tok(aNum)))) }
	behind := func() bit {
		return alt(seq(tok("<="), signed()), seq(tok(">="), signed()), seq(tok("="), signed()), tok("free"))
	}
	row := alt(seq(sum(), behind()), seq(numberSum(), tok("<="), sum(), opt(seq(tok("<="), signed()))))
	bound := alt(seq(tok(anID), behind()), seq(signed(), tok("<="), tok(anID), opt(seq(tok("<="), signed()))))
	return seq(alt(tok("maximize"), tok("minimize")), sum(), tok("subject"), tok("to"), star(seq(tok(anID), tok(":"), row)),
		tok("bounds"), star(bound), opt(seq(tok("generals"), star(tok(anID)))), tok("end"))
}

// places are states that a list of tokens may lead to.
type spots map[*state]bool

func (p spots) add(s *state) {
	if !p[s] {
		p[s] = true
		for _, other := range s.same {
			p.add(other)
		}
	}
}

func (p spots) on(word string) spots {
	next := spots{}
	for s := range p {
		for _, to := range s.by[word] {
			next.add(to)
		}
	}
	return next
}

func (p spots) key() string {
	var all []string
	for s := range p {
		all = append(all, fmt.Sprintf("%p", s))
	}
	slices.Sort(all)
	return strings.Join(all, " ")
}

// TestLineGrammar goes to each place of the grammar, and tries all that may follow, three tokens far: the first token that no text can have there is told, and no other one.
func TestLineGrammar(t *testing.T) {
	grammar := lineGrammar()
	start := spots{}
	start.add(grammar.from)
	seen := map[string]bool{start.key(): true}
	type way struct {
		words []string
		at    spots
	}
	todo := []way{{nil, start}}
	texts := 0
	for len(todo) > 0 {
		w := todo[0]
		todo = todo[1:]
		for _, word := range strings.Fields(words) {
			on := w.at.on(word)
			if key := on.key(); len(on) > 0 && !seen[key] {
				seen[key] = true
				todo = append(todo, way{append(slices.Clone(w.words), word), on})
			}
			for _, second := range strings.Fields(words) {
				for _, third := range []string{"", "name", "0", ":", "<=", "end"} {
					list := append(slices.Clone(w.words), word, second)
					if third != "" {
						list = append(list, third)
					}
					checkWords(t, grammar, start, list)
					texts++
				}
			}
		}
	}
	if len(seen) < 30 || texts < 50000 {
		t.Error(len(seen), texts)
	}
}

// checkWords holds what is read of tokens, each in its line, against the grammar. Numbers are 0, and no name is there twice, so that nothing else is wrong, but that names may be no columns.
func checkWords(t *testing.T, grammar bit, start spots, list []string) {
	t.Helper()
	at, wrong, generals := start, 0, false
	var text strings.Builder
	for i, word := range list {
		if at = at.on(word); len(at) == 0 && wrong == 0 {
			wrong = i + 1
		}
		if word == anID {
			word = fmt.Sprintf("n%d", i)
		}
		text.WriteString(word + "\n")
		generals = generals || word == "generals"
	}
	if wrong == 0 && !at[grammar.to] {
		wrong = len(list) + 1
	}
	_, err := ReadLines(text.String())
	switch fault, ok := err.(*api.Fault); {
	case ok && fault.Err == api.ErrText && fault.At == wrong:
	case ok && fault.Err == api.ErrName && (wrong == 0 || generals && fault.At < wrong):
	case err == nil && wrong == 0:
	default:
		t.Fatalf("%q: %s, want %d", text.String(), faultText(err), wrong)
	}
}
