package chain

import (
	"fmt"
	"math/rand"
	"strings"
	"testing"

	"anvil/api"
	"anvil/db"
	"anvil/seek"
)

// A plain telling of the chapter, to hold the call against: it takes rules and files as those below tell them.

type plainChain struct {
	rules    []api.Rule
	implicit []int
	there    func(name string) bool
	tries    int
	out      bool
	deepest  int
}

type plainCandidate struct {
	rule       int
	head, stem string
}

func plainOf(w world) *plainChain {
	d := db.New(w.b, w.plain)
	return &plainChain{rules: d.Rules(), implicit: d.Implicit(), there: func(name string) bool {
		_, found := seek.Find(w.b, w.dirs, w.f, name)
		return found || d.Named(name)
	}}
}

func plainStem(pattern, word string) (string, bool) {
	for i := range pattern {
		if pattern[i] == '%' {
			ahead, behind := pattern[:i], pattern[i+1:]
			ok := len(word) >= len(ahead)+len(behind) && word[:len(ahead)] == ahead && word[len(word)-len(behind):] == behind
			if !ok {
				return "", false
			}
			return word[len(ahead) : len(word)-len(behind)], true
		}
	}
	return "", pattern == word
}

// candidates takes the shortest out of what is left again and again.
func (p *plainChain) candidates(target, head, word string) []plainCandidate {
	var all, kept, sorted []plainCandidate
	var anything []bool
	others := false
	for _, at := range p.implicit {
		for _, pattern := range p.rules[at].Targets {
			c := plainCandidate{rule: at, head: head}
			matches := false
			if strings.Contains(pattern, "/") {
				c.head = ""
				c.stem, matches = plainStem(pattern, target)
			} else {
				c.stem, matches = plainStem(pattern, word)
			}
			if matches {
				all = append(all, c)
				anything = append(anything, pattern == "%")
				others = others || pattern != "%"
			}
		}
	}
	for i, c := range all {
		if !others || !anything[i] || p.rules[c.rule].Terminal {
			kept = append(kept, c)
		}
	}
	for size := 0; len(sorted) < len(kept); size++ {
		for _, c := range kept {
			if len(c.stem) == size {
				sorted = append(sorted, c)
			}
		}
	}
	return sorted
}

func plainPut(l []string, c plainCandidate) []string {
	var names []string
	for _, name := range l {
		if strings.Contains(name, "%") {
			name = c.head + strings.Replace(name, "%", c.stem, 1)
		}
		names = append(names, name)
	}
	return names
}

func (p *plainChain) step(l []plainCandidate, used []int, second bool) (api.Found, bool) {
	for _, c := range l {
		skip := second && p.rules[c.rule].Terminal
		for _, u := range used {
			skip = skip || u == c.rule
		}
		if skip {
			continue
		}
		p.tries++
		p.out = p.tries >= 2000
		if p.out {
			return api.Found{}, false
		}
		a := api.Found{Rule: c.rule, Stem: c.head + c.stem, Prereqs: plainPut(p.rules[c.rule].Prereqs, c), Orders: plainPut(p.rules[c.rule].Orders, c)}
		fails := false
		for _, name := range append(append([]string{}, a.Prereqs...), a.Orders...) {
			if p.there(name) {
				continue
			}
			found := false
			if second {
				_, found = p.search(name, append(append([]int{}, used...), c.rule))
			}
			if !found {
				fails = true
				break
			}
			if !strings.Contains(" "+strings.Join(a.Mid, " ")+" ", " "+name+" ") {
				a.Mid = append(a.Mid, name)
			}
		}
		if !fails {
			return a, true
		}
	}
	return api.Found{}, false
}

func (p *plainChain) steps(l []plainCandidate, used []int) (api.Found, bool) {
	if len(used) > p.deepest {
		p.deepest = len(used)
	}
	a, found := p.step(l, used, false)
	if !found && len(used) < 6 {
		a, found = p.step(l, used, true)
	}
	return a, found
}

func (p *plainChain) search(target string, used []int) (api.Found, bool) {
	cut := strings.LastIndex(target, "/") + 1
	a, found := p.steps(p.candidates(target, target[:cut], target[cut:]), used)
	open := strings.Index(target, "(")
	if !found && open > 0 && strings.HasSuffix(target, ")") {
		a, found = p.steps(p.candidates(target[open:], "", target[open:]), used)
	}
	return a, found
}

// hold holds what is found of the target against the plain telling, and tells that.
func hold(t *testing.T, w world, target string) (api.Found, *plainChain) {
	t.Helper()
	p := plainOf(w)
	want, found := p.search(target, nil)
	if !found {
		want = api.Found{Rule: -1}
	}
	if got := w.search(target); shown(got) != shown(want) || fmt.Sprint(got) != fmt.Sprint(want) {
		t.Fatalf("Search of %q: %q, not %q; %+v", target, shown(got), shown(want), w)
	}
	return want, p
}

// counts is how often the plain telling came to this or that.
type counts struct{ found, mid, none, member, deep, out, headed int }

func (c *counts) add(target string, a api.Found, p *plainChain) {
	one := func(n *int, is bool) {
		if is {
			*n++
		}
	}
	one(&c.found, a.Rule >= 0 && len(a.Mid) == 0)
	one(&c.mid, len(a.Mid) > 0)
	one(&c.none, a.Rule < 0 && !p.out)
	one(&c.out, p.out)
	one(&c.member, a.Rule >= 0 && strings.HasPrefix(target, "l(") && strings.HasPrefix(p.rules[a.Rule].Targets[0], "("))
	one(&c.deep, a.Rule >= 0 && p.deepest > 2)
	one(&c.headed, a.Rule >= 0 && strings.Contains(a.Stem, "/"))
}

func (c counts) want(t *testing.T, least counts) {
	t.Helper()
	t.Logf("%+v", c)
	if c.found < least.found || c.mid < least.mid || c.none < least.none || c.out < least.out || c.member < least.member || c.deep < least.deep || c.headed < least.headed {
		t.Errorf("too few: %+v", c)
	}
}

// grower makes rules and names of a few words, so that they often fit.
type grower struct {
	*rand.Rand
	patterns, needs, names []string
}

func (g grower) some(words []string, most int) []string {
	var l []string
	for range g.Intn(most + 1) {
		l = append(l, words[g.Intn(len(words))])
	}
	return l
}

func (g grower) rule() api.Rule {
	r := api.Rule{Pattern: true, Has: true, Terminal: g.Intn(6) == 0, Recipe: []string{"x"}}
	r.Targets = append(g.some(g.patterns, 1), g.patterns[g.Intn(len(g.patterns))])
	r.Prereqs = g.some(g.needs, 2)
	if g.Intn(3) == 0 {
		r.Orders = g.some(g.needs, 2)
	}
	if g.Intn(12) == 0 {
		r = api.Rule{Targets: []string{g.names[g.Intn(len(g.names))]}, Prereqs: g.some(g.names, 2)}
	}
	return r
}

func (g grower) world(t *testing.T, rules, files int) world {
	w := world{plain: g.Intn(4) > 0}
	for range 1 + g.Intn(rules) {
		w.b.Rules = append(w.b.Rules, g.rule())
	}
	l := []string{"d/", "s/", "l(d/"}
	for range g.Intn(files + 1) {
		name := g.names[g.Intn(len(g.names))]
		if name != "" && !strings.HasSuffix(name, "/") {
			l = append(l, name)
		}
	}
	w.f = planted(t, l...)
	if g.Intn(4) == 0 {
		w.dirs = "s:none"
	}
	if g.Intn(4) == 0 {
		w.b.Paths = []api.Pair{{Name: g.patterns[g.Intn(len(g.patterns))], Value: "d s"}}
	}
	return w
}

func TestP2101AgainstThePlainTelling(t *testing.T) {
	g := grower{
		rand.New(rand.NewSource(21)),
		strings.Fields("% %.a %.b %.c %.d x% %x %.a.b d/% d/%.a %/x.a (%) (%.a) l(%) %) (d/%) l% %.b.a"),
		strings.Fields("% %.a %.a %.b %.b %.c %.c %.d %.d x d/x.a d/% s/%.b l(%) l(%.a) (%) no %.e %.e x%"),
		strings.Fields("x x.a x.b x.c x.d x.e d/x d/x.a d/x.b d/x.c s/x.b s/x.e d/x.e l(x) l(x.a) l(d/x.a) d/l(x) (x) (x.a) x.a.b x.b.a xx xx.a no .a"),
	}
	g.names = append(g.names, "", "d/", "l()")
	var c counts
	for range 12000 {
		w := g.world(t, 8, 4)
		for range 6 {
			target := g.names[g.Intn(len(g.names))]
			a, p := hold(t, w, target)
			c.add(target, a, p)
		}
	}
	c.want(t, counts{found: 5000, mid: 1500, none: 5000, member: 300, deep: 500, headed: 500})
}

// Rules of a few letters lead on to one another in so many ways that many searches are counted out.
func TestP2102AgainstThePlainTelling(t *testing.T) {
	g := rand.New(rand.NewSource(2102))
	letter := func(of string) string { return "%." + string(of[g.Intn(len(of))]) }
	var c counts
	for range 1500 {
		var l []string
		for range 15 + g.Intn(30) {
			s := letter("abcdefgh") + ": " + letter("abcdefgh")
			if g.Intn(3) == 0 {
				s = letter("abcdefgh") + " " + s
			}
			if g.Intn(2) == 0 {
				s += " " + letter("abcdefghnop")
			}
			if g.Intn(12) == 0 {
				s = strings.Replace(s, ": ", ":: ", 1)
			}
			l = append(l, s+"; x")
		}
		for range g.Intn(4) {
			l = append(l, letter("efgh")+": "+letter("nop")+" | "+letter("nop")+"; y")
		}
		g.Shuffle(len(l), func(i, j int) { l[i], l[j] = l[j], l[i] })
		w := bare(planted(t, "x."+string("nop"[g.Intn(3)]), "x.p"), l...)
		a, p := hold(t, w, "x.a")
		c.add("x.a", a, p)
	}
	c.want(t, counts{mid: 100, none: 100, out: 100, deep: 100})
}
