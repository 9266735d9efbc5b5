package tongue

import (
	"errors"
	"strconv"
	"strings"
	"testing"

	"optima/api"
)

// grammar is P40's, word by word, but for what an item's number is called here.
const grammar = `
text      = { statement ";" }
statement = "set" name "=" set
          | "param" name [ index ] "=" sum
          | "param" name index ":" { "[" item { "," item } "]" signed } [ "default" signed ]
          | "var" name [ index ] ( "binary" | [ "integer" ] [ ">=" sum ] [ "<=" sum ] )
          | ( "minimize" | "maximize" ) name ":" sum
          | "subject" name [ index ] ":" sum ( "<=" sum [ "<=" sum ] | ">=" sum [ ">=" sum ] | "=" sum )
index     = "{" name "in" set { "," name "in" set } [ ":" either ] "}"
set       = part { ( "union" | "inter" | "minus" ) part }
part      = "{" [ item { "," item } ] "}" | sum ".." sum | name
item      = name | [ "-" ] whole
signed    = [ "-" ] number
either    = both { "or" both }
both      = unless { "and" unless }
unless    = "not" unless | sum ( "<" | "<=" | "=" | "<>" | ">=" | ">" ) sum
sum       = product { ( "+" | "-" ) product }
product   = factor { ( "*" | "/" ) factor }
factor    = number | symbol | "-" factor | "(" sum ")" | "sum" index product
          | "if" either "then" sum "else" sum | name [ "[" sum { "," sum } "]" ]
`

// rules are a grammar without braces and brackets: each name has its ways, each of them a row of names and of tokens.
type rules struct {
	ways  map[string][][]string
	least map[string]int // how few tokens a name can make; a token itself has 0 here, and is 1
	words []string       // what is left of the grammar while it is read
}

func readRules() *rules {
	g := &rules{ways: map[string][][]string{}, least: map[string]int{}, words: strings.Fields(grammar)}
	for len(g.words) > 0 {
		head := g.words[0]
		g.words = g.words[2:]
		g.ways[head] = g.choices(head)
	}
	for head := range g.ways {
		g.least[head] = 1000
	}
	for range g.ways {
		for head, ways := range g.ways {
			for _, way := range ways {
				g.least[head] = min(g.least[head], g.size(way))
			}
		}
	}
	return g
}

func (g *rules) size(way []string) int {
	size := 0
	for _, word := range way {
		if g.ways[word] == nil {
			size++
		} else {
			size += g.least[word]
		}
	}
	return size
}

// choices reads up to what ends a group, or the next rule.
func (g *rules) choices(head string) [][]string {
	out := [][]string{nil}
	for len(g.words) > 0 && (len(g.words) == 1 || g.words[1] != "=") {
		word := g.words[0]
		g.words = g.words[1:]
		switch word {
		case "}", "]", ")":
			return out
		case "|":
			out = append(out, nil)
			continue
		case "{", "[", "(":
			inner := g.choices(head)
			name := head + "." + strconv.Itoa(len(g.ways)) // no rule has it
			g.ways[name] = inner
			if word == "{" {
				for i, way := range inner {
					inner[i] = append(way, name)
				}
			}
			if word != "(" {
				g.ways[name] = append(g.ways[name], []string{})
			}
			word = name
		}
		out[len(out)-1] = append(out[len(out)-1], word)
	}
	return out
}

// fits is whether a token is one that the grammar names so.
func fits(named, piece string) bool {
	first := piece[0]
	switch named {
	case "name":
		return isLetter(first) && !isKeyword(piece)
	case "number":
		return isDigit(first)
	case "whole":
		return isDigit(first) && !strings.Contains(piece, ".")
	case "symbol":
		return first == '\''
	}
	return named == `"`+piece+`"`
}

// state is a way of a rule that began at some token, and how much of it is behind.
type state struct {
	head      string
	way, done int
	from      int
}

// viable is how many of the tokens can stand there, and whether they are a text (Earley's way: all that could be is kept at each token).
func (g *rules) viable(pieces []string) (int, bool) {
	sets := make([][]state, len(pieces)+1)
	seen := map[int]map[state]bool{}
	add := func(at int, s state) {
		if seen[at] == nil {
			seen[at] = map[state]bool{}
		}
		if !seen[at][s] {
			seen[at][s] = true
			sets[at] = append(sets[at], s)
		}
	}
	enter := func(at int, head string) {
		for way := range g.ways[head] {
			add(at, state{head: head, way: way, from: at})
		}
	}
	enter(0, "text")
	for at := 0; at <= len(pieces); at++ {
		for changed := -1; changed != len(sets[at]); { // empty rules may end before they are asked for
			changed = len(sets[at])
			for i := 0; i < len(sets[at]); i++ {
				s := sets[at][i]
				way := g.ways[s.head][s.way]
				if s.done == len(way) {
					for j := 0; j < len(sets[s.from]); j++ {
						b := sets[s.from][j]
						if bw := g.ways[b.head][b.way]; b.done < len(bw) && bw[b.done] == s.head {
							b.done++
							add(at, b)
						}
					}
				} else if g.ways[way[s.done]] != nil {
					enter(at, way[s.done])
				} else if at < len(pieces) && fits(way[s.done], pieces[at]) {
					s.done++
					add(at+1, s)
				}
			}
		}
		if at < len(pieces) && len(sets[at+1]) == 0 {
			return at, false
		}
	}
	for _, s := range sets[len(pieces)] {
		if s.head == "text" && s.from == 0 && s.done == len(g.ways["text"][s.way]) {
			return len(pieces), true
		}
	}
	return len(pieces), false
}

// scatter gives numbers that have no order to speak of, the same in each run.
type scatter uint64

func (s *scatter) below(n int) int {
	*s = *s*6364136223846793005 + 1442695040888963407
	return int(uint64(*s>>33) % uint64(n))
}

func (s *scatter) of(words string) string {
	l := strings.Fields(words)
	return l[s.below(len(l))]
}

// derive is tokens that a rule makes; deep ones keep to the shortest ways.
func (s *scatter) derive(g *rules, head string, left int) []string {
	ways := g.ways[head]
	if ways == nil {
		return []string{s.tokenOf(head)}
	}
	way := ways[s.below(len(ways))]
	if left <= 0 {
		for _, w := range ways {
			if g.size(w) == g.least[head] {
				way = w
			}
		}
	}
	var out []string
	for _, word := range way {
		out = append(out, s.derive(g, word, left-1)...)
	}
	return out
}

func (s *scatter) tokenOf(named string) string {
	switch named {
	case "name":
		return s.of("a b x1 _ Sum")
	case "number":
		return s.of("0 1 2.50 007")
	case "whole":
		return s.of("0 1 12")
	case "symbol":
		return s.of("'a' 'set'")
	}
	return strings.Trim(named, `"`)
}

const someTokens = `set param var integer binary minimize maximize subject in sum if then else and or not default union inter minus
	.. <= >= <> { } [ ] ( ) ; : , + - * / = < > a b 1 2.5 'c'`

// bent is the tokens with a few of them changed.
func (s *scatter) bent(pieces []string) []string {
	out := append([]string(nil), pieces...)
	for range s.below(3) {
		if len(out) == 0 {
			break
		}
		i := s.below(len(out))
		switch s.below(5) {
		case 0:
			out = append(out[:i], out[i+1:]...)
		case 1:
			out[i] = s.of(someTokens)
		case 2:
			out = append(out[:i], append([]string{s.of(someTokens)}, out[i:]...)...)
		case 3:
			j := s.below(len(out))
			out[i], out[j] = out[j], out[i]
		case 4:
			out = out[:i]
		}
	}
	return out
}

// joined is a text of the tokens, and where each of them begins, and the text ends.
func (s *scatter) joined(pieces []string) (string, []int) {
	var text strings.Builder
	var at []int
	for _, piece := range pieces {
		gap := []string{" ", "\n", "\t \r\n", " # a 'b\n", "  "}[s.below(5)]
		text.WriteString(gap)
		at = append(at, text.Len())
		text.WriteString(piece)
	}
	text.WriteString([]string{"", " ", " # end", "\n"}[s.below(4)])
	return text.String(), append(at, text.Len())
}

// TestGrammar holds Read against the grammar, gone through in a way that knows nothing of Read's.
func TestGrammar(t *testing.T) {
	g := readRules()
	s := scatter(4)
	good, bad := 0, 0
	for range 6000 {
		pieces := s.derive(g, "text", 6+s.below(14))
		if len(pieces) > 60 {
			pieces = pieces[:60]
		}
		pieces = s.bent(pieces)
		text, at := s.joined(pieces)
		count, whole := g.viable(pieces)
		n, err := Read(text)
		if whole {
			good++
			if err != nil || n == nil {
				t.Fatalf("%q: %v at %d", text, err, placeOf(err))
			}
			continue
		}
		bad++
		if n != nil || !errors.Is(err, api.ErrText) || placeOf(err) != at[count] {
			t.Fatalf("%q: %v at %d, want %d", text, err, placeOf(err), at[count])
		}
	}
	if good < 500 || bad < 500 {
		t.Errorf("%d texts, %d that are none: too few", good, bad)
	}
}
