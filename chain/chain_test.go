package chain

import (
	"bytes"
	"errors"
	"fmt"
	"reflect"
	"slices"
	"strings"
	"sync"
	"testing"
	"unsafe"

	"anvil/api"
	"anvil/ar"
	"anvil/db"
	"anvil/read"
	"anvil/vars"
	"anvil/vfs"
)

// planted is a file system of files, "x", "x=data", and directories, "d/"; what leads to one stands ahead of it.
func planted(t *testing.T, l ...string) *vfs.FS {
	t.Helper()
	f, e := vfs.New(api.Tree{Room: api.MaxRoom})
	for _, s := range l {
		name, data, _ := strings.Cut(s, "=")
		if e == api.OK && strings.HasSuffix(name, "/") {
			e = f.Mkdir(name)
		} else if e == api.OK {
			e = f.Write(name, []byte(data), false)
		}
		if e != api.OK {
			t.Fatalf("%q: %d", s, e)
		}
	}
	return f
}

// archive tells the bytes of one with these members.
func archive(t *testing.T, names ...string) string {
	t.Helper()
	var l []api.Member
	for _, n := range names {
		l = append(l, api.Member{Name: n, Date: 7})
	}
	b, e := ar.Write(l)
	if e != api.OK {
		t.Fatalf("%q: %d", names, e)
	}
	return string(b)
}

// line makes the rule of "targets : prereqs | orders ; recipe" (or with ::, and with nothing from the bar or the ; on).
func line(s string) api.Rule {
	s, recipe, has := strings.Cut(s, ";")
	left, right, _ := strings.Cut(s, ":")
	right, double := strings.CutPrefix(right, ":")
	prereqs, orders, _ := strings.Cut(right, "|")
	r := api.Rule{Targets: strings.Fields(left), Prereqs: strings.Fields(prereqs), Orders: strings.Fields(orders), Has: has}
	if has {
		r.Recipe = []string{strings.TrimSpace(recipe)}
	}
	r.Pattern = strings.Contains(left, "%")
	r.Double, r.Terminal = double && !r.Pattern, double && r.Pattern
	return r
}

func base(l ...string) api.Base {
	var b api.Base
	for _, s := range l {
		b.Rules = append(b.Rules, line(s))
	}
	return b
}

// shown tells an answer: "rule stem: prereqs | orders < mid"; "none", if nothing is found.
func shown(a api.Found) string {
	if a.Rule == -1 && a.Stem == "" && len(a.Prereqs)+len(a.Orders)+len(a.Mid) == 0 {
		return "none"
	}
	s := fmt.Sprintf("%d %s:", a.Rule, a.Stem)
	for _, x := range []struct {
		sign  string
		words []string
	}{{" ", a.Prereqs}, {" | ", a.Orders}, {" < ", a.Mid}} {
		if len(x.words) > 0 {
			s += x.sign + strings.Join(x.words, " ")
		}
	}
	return s
}

// world is what a search looks at.
type world struct {
	f     *vfs.FS
	b     api.Base
	plain bool
	dirs  string
}

func (w world) search(target string) api.Found {
	return Search(db.New(w.b, w.plain), w.b, w.dirs, w.f, target)
}

// bare is a world without the built-in rules.
func bare(f *vfs.FS, l ...string) world { return world{f: f, b: base(l...), plain: true} }

func (w world) want(t *testing.T, target, want string) {
	t.Helper()
	if got := shown(w.search(target)); got != want {
		t.Errorf("Search of %q: %q, not %q", target, got, want)
	}
}

func TestTheChaptersExamples(t *testing.T) {
	built := world{f: planted(t, "x.c", "d/", "d/x.c")}
	built.want(t, "x.o", "0 x: x.c")
	built.want(t, "x", "2 x: x.c")
	built.want(t, "d/x.o", "0 d/x: d/x.c")
	built.want(t, "lib.a(x.o)", "3 x.o: x.o < x.o")
	world{f: planted(t, "y.z"), b: base("%.c: %.z ; x")}.want(t, "y.o", "1 y: y.c < y.c")
}

func TestP2101TheMatchAnythingsAreTriedInOrder(t *testing.T) {
	world{f: planted(t, "x.o", "x.c")}.want(t, "x", "1 x: x.o")
	world{f: planted(t, "x.c", "x.o.c")}.want(t, "x", "2 x: x.c")
	// Of x.o, that is not there, the chain is longer: it is tried behind x.c, which is.
	world{f: planted(t, "x.c"), b: base("%.o: %.m ; a", "%.m: ; b")}.want(t, "x", "4 x: x.c")
	world{f: planted(t, "x.m"), b: base("%.o: %.m ; a")}.want(t, "x", "2 x: x.o < x.o")
}

func TestP2101Names(t *testing.T) {
	w := bare(planted(t, "d/", "d/.t", ".t"), "%: %.t ; a", "%.u: ; b", "e/%.v: ; c", "f%/: ; d")
	w.want(t, "", "0 : .t")
	w.want(t, "d/", "0 d/: d/.t")
	w.want(t, "e/", "none")
	w.want(t, "/", "0 /: /.t")
	w.want(t, "e/x/", "none")
	w.want(t, "d/.u", "1 d/:")
	w.want(t, ".u", "1 :")
	w.want(t, "//x.u", "1 //x:")
	w.want(t, "a/b/x.u", "1 a/b/x:")
	w.want(t, "./x.u", "1 ./x:")
	w.want(t, "e/x.v", "2 x:")
	w.want(t, "x.v", "none")
	w.want(t, "fx/", "3 x:")
	w.want(t, "none", "none")
	bare(planted(t, "x.c", "x"), "%.u: ; b").want(t, "x", "none")
	bare(planted(t, "x.c", "x")).want(t, "x.o", "none")
}

// The stem is what the % stands for, and of a pattern without a slash the head goes ahead of what has a %.
func TestP2101StemsAndHeads(t *testing.T) {
	all := planted(t, "s/", "s/k.c", "d/", "d/s/", "d/s/k.c", "d/k.c", "k.c", "d/kk", "kk")
	for _, x := range [][3]string{
		{"%.u: %.c ; a", "d/k.u", "0 d/k: d/k.c"},
		{"%.u: s/%.c ; a", "d/k.u", "0 d/k: d/s/k.c"},
		{"%.u: s/%.c ; a", "k.u", "0 k: s/k.c"},
		{"%.u: s/k.c ; a", "d/k.u", "0 d/k: s/k.c"},
		{"%.u: | k.c %.c s/%.c ; a", "d/k.u", "0 d/k: | k.c d/k.c d/s/k.c"},
		{"d/%.u: %.c ; a", "d/k.u", "0 k: k.c"},
		{"d/%.u: d/%.c ; a", "d/k.u", "0 k: d/k.c"},
		{"d%.u: d%.c ; a", "d/k.u", "none"},
		{"%/k.u: %/k.c ; a", "d/k.u", "0 d: d/k.c"},
		{"/%: ; a", "/k", "0 k:"},
		{"%/: %/k.c ; a", "d/", "0 d: d/k.c"},
		{"%k: %k ; a", "d/kk", "0 d/k: d/kk"},
		{"k%: k% ; a", "d/kk", "0 d/k: d/kk"},
		{"%k%: k% ; a", "d/xk%", "none"},
		{"%k%: kk ; a", "d/xk%", "0 d/x: kk"},
		{"a%a: ; a", "d/a", "none"},
		{"a%a: kk ; a", "d/aa", "0 d/: kk"},
		{"a%a: %kk ; a", "d/aa", "0 d/: d/kk"},
		{"%.u: k%k% ; a", "d/.u", "none"},
	} {
		bare(all, x[0]).want(t, x[1], x[2])
	}
	bare(planted(t, "d/", "d/kxk%"), "%.u: k%k% ; a").want(t, "d/x.u", "0 d/x: d/kxk%")
}

// A pattern that has no % matches the same word; reading makes none such.
func TestP2101PatternsWithoutAPercent(t *testing.T) {
	w := bare(planted(t, "d/", "d/k", "k"), "%: %.no ; a")
	w.b.Rules = append(w.b.Rules, api.Rule{Targets: []string{"x"}, Prereqs: []string{"%k"}, Has: true, Pattern: true}, api.Rule{Targets: []string{"d/y"}, Prereqs: []string{"%k"}, Has: true, Pattern: true})
	w.want(t, "x", "1 : k")
	w.want(t, "d/x", "1 d/: d/k")
	w.want(t, "d/y", "2 : k")
	w.want(t, "y", "none")
}

func TestP2101TheShortestStemFirst(t *testing.T) {
	f := planted(t)
	w := bare(f, "%c: ; a", "%.c: ; b", "a%.c: ; c", "%b.c: ; d", "ab%c: ; e")
	w.want(t, "ab.c", "2 b:")
	w.want(t, "b.c", "3 :")
	w.want(t, "x.c", "1 x:")
	w.want(t, "xc", "0 x:")
	w.want(t, "abc", "4 :")
	// Of those as long the first stays first.
	bare(f, "ab%: ; a", "%.c: ; b", "%.c: no ; c").want(t, "ab.c", "0 .c:")
	bare(f, "%.c: ; b", "ab%: ; a").want(t, "ab.c", "0 ab:")
	bare(f, "%.c: no ; b", "%.c: | no ; c", "a%c: ; d", "%.c: %.no ; e").want(t, "ab.c", "2 b.:")
	// How long the head is doesn't count.
	bare(f, "d/%.c: no ; a", "%b.c: ; b", "d%c: ; c").want(t, "d/ab.c", "1 d/a:")
	bare(f, "%.c: ; a", "d/a%: ; b").want(t, "d/ab.c", "0 d/ab:")
	bare(f, "long/%c: ; a", "%: ; b", "%/abcd.c: ; c").want(t, "long/abcd.c", "2 long:")
}

func TestP2101OfManyAsLongTheFirstStaysFirst(t *testing.T) {
	patterns := []string{"%.t", "x%.t", "xy%.t", "x%t", "%t"}
	for from := range 60 {
		named := "z:"
		var l []string
		for i := range 60 {
			l = append(l, fmt.Sprintf("%s: n%d ; a", patterns[i*i%5], i))
			if i >= from {
				named += fmt.Sprintf(" n%d", i)
			}
		}
		want, stem := 0, "xyzzy"
		for i, s := range l {
			pattern, _, _ := strings.Cut(s, ":")
			ahead, behind, _ := strings.Cut(pattern, "%")
			if rest := strings.TrimSuffix(strings.TrimPrefix("xyz.t", ahead), behind); i >= from && len(rest) < len(stem) {
				want, stem = i, rest
			}
		}
		bare(planted(t), append(l, named)...).want(t, "xyz.t", fmt.Sprintf("%d %s: n%d", want, stem, want))
	}
}

func TestP2101MoreThanOneTargetPatternMatches(t *testing.T) {
	f := planted(t, "y.1", "xy.1", "x.1")
	bare(f, "%.t x%.t: %.1 ; a").want(t, "xy.t", "0 y: y.1")
	bare(f, "x%.t %.t: %.1 ; a").want(t, "xy.t", "0 y: y.1")
	bare(f, "no%.t %.t: %.1 ; a").want(t, "xy.t", "0 xy: xy.1")
	bare(f, "%y.t x%.t: %.1 ; a").want(t, "xy.t", "0 x: x.1")
	bare(planted(t, "xy.1"), "x%.t %.t: %.1 ; a").want(t, "xy.t", "0 xy: xy.1")
	// The other rule's stem is between the two.
	bare(planted(t, "xyz.1"), "xy%.t %.t: %.1 ; a", "x%.t: ; b").want(t, "xyz.t", "1 yz:")
	bare(planted(t, "z.1"), "xy%.t %.t: %.1 ; a", "x%.t: ; b").want(t, "xyz.t", "0 z: z.1")
}

func TestP2101MatchAnythings(t *testing.T) {
	f := planted(t, "x.c")
	for _, x := range [][]string{
		{"x.o", "1 x:", "%: ; a", "%.o: ; b"},
		{"x.o", "none", "%: ; a", "%.o:: no ; b"},
		{"x.o", "0 x.o:", "%:: ; a", "%.o: no ; b"},
		{"x.o", "1 x:", "%:: ; a", "%.o: ; b"},
		{"x.o", "1 x.o:", "%: ; a", "%:: ; b", "%.o: no ; c"},
		{"x.o", "0 x.o: x.c", "%: x.c ; a", "%:: ; b"},
		{"x.o", "1 x.o:", "%: no ; a", "%:: ; b"},
		{"x.o", "1 x.o:", "%:: no ; a", "%: ; b"},
		{"x.o", "0 x.o:", "%: ; a", "%.p: ; b"},
		{"d/x.o", "0 d/x.o:", "%: ; a", "d/%.p: ; b"},
		{"d/x.o", "none", "%: ; a", "d/%:: no ; b"},
		{"d/x.o", "0 d/x.o:", "%:: ; a", "d/%: no ; b"},
		{"x.o", "none", "% %.o:: no ; a", "%: ; b"},
		{"x.o", "0 x: no < no", "% %.o: no ; a", "%: ; b"},
		{"x.o", "0 x:", "% %.o: ; a"},
		{"x.o", "0 x.o:", "% %.p: ; a"},
		{"x.o", "none", "%: ; a", "%.o:: no ; b"},
		{"(x)", "1 x:", "%: ; a", "(%): ; b"},
		{"%", "0 %:", "%: ; a"},
		{"%", "1 :", "%: ; a", "%%: ; b"},
	} {
		bare(f, x[2:]...).want(t, x[0], x[1])
	}
	// A rule in use, too, is one whose pattern is none.
	bare(f, "%.o: %.o.o ; a", "%: x.c ; b").want(t, "x.o", "none")
}

func TestP2101PrerequisitesAndOrders(t *testing.T) {
	f := planted(t, "x.1", "x.2", "n")
	for _, x := range [][]string{
		{"0 x:", "%.t: ; a"},
		{"0 x: x.1 n x.2", "%.t: %.1 n %.2 ; a"},
		{"0 x: x.1 | n x.2", "%.t: %.1 | n %.2 ; a"},
		{"0 x: | x.1", "%.t: | %.1 ; a"},
		{"0 x: x.1 x.1 n n | x.1 n n", "%.t: %.1 %.1 n n | %.1 n n ; a"},
		{"1 x:", "%.t: %.1 | %.no ; a", "%.t: | ; b"},
		{"1 x:", "%.t: %.no | %.1 ; a", "%.t: | ; b"},
		{"1 x:", "%.t: n no | %.1 ; a", "%.t: ; b"},
		{"1 x:", "%.t: | n no %.1 ; a", "%.t: ; b"},
	} {
		bare(f, x[1:]...).want(t, "x.t", x[0])
	}
}

func TestP2101WhatIsThere(t *testing.T) {
	f := planted(t, "file", "dir/", "s/", "s/in.s", "t/", "t/in.t", "lib.a="+archive(t, "m"))
	for _, x := range [][3]string{{"file", "file"}, {"dir", "dir"}, {"./file", "./file"}, {"lib.a(m)", "lib.a(m)"}, {"in.s", "in.s"}, {"in.t", "in.t"}, {"named", "named"}, {"of", "of"}, {"order", "order"}} {
		w := bare(f, "%.t: "+x[0]+" ; a", "named: of | order")
		w.b.Paths = []api.Pair{{Name: "%.s", Value: "no s"}}
		w.dirs = "no:t"
		w.want(t, "x.t", "0 x: "+x[1])
	}
	for _, x := range []string{"no", "lib.a(n)", "in.s", "in.t", "%.1", ".PHONY", "p", "file/"} {
		w := bare(f, "%.t: "+x+" ; a", ".PHONY: p", "%.u: x.1 ; b")
		w.b.Paths = []api.Pair{{Name: "%.1", Value: "s"}}
		w.dirs = "s/no"
		if x == "file/" {
			// The name of a file with a slash behind it is that file's.
			w.want(t, "x.t", "0 x: file/")
			continue
		}
		w.want(t, "x.t", "none")
	}
	// The places of what is found elsewhere are not told: it has its own name.
	w := world{f: f, b: api.Base{Paths: []api.Pair{{Name: "%", Value: "s"}}, Rules: base("%.t: %.s ; a").Rules}, plain: true}
	w.want(t, "in.t", "0 in: in.s")
}

func TestP2101WhatIsThereComesAheadOfWhatIsMade(t *testing.T) {
	f := planted(t, "x.1")
	bare(f, "%.t: %.m ; a", "%.m: %.1 ; b", "%.t: %.1 ; c").want(t, "x.t", "2 x: x.1")
	bare(f, "%.t: %.m ; a", "%.m: %.1 ; b", "%.t: %.no ; c").want(t, "x.t", "0 x: x.m < x.m")
	// Even a longer stem, and a match-anything.
	bare(f, "x%: m ; a", "%: ; z", "m%: ; b", "%.t: %.1 ; c").want(t, "x.t", "3 x: x.1")
	bare(f, "%.t: m ; a", "%m: ; b", "%::  x.1 ; c").want(t, "x.t", "2 x.t: x.1")
	// In a search within, too.
	bare(f, "%.t: %.m ; a", "%.m: %.n ; b", "%.n: ; c", "%.m: %.1 ; d").want(t, "x.t", "0 x: x.m < x.m")
}

func TestP2101TerminalRules(t *testing.T) {
	f := planted(t, "x.1")
	bare(f, "%.t:: %.1 ; a").want(t, "x.t", "0 x: x.1")
	bare(f, "%.t:: %.m ; a", "%.m: %.1 ; b").want(t, "x.t", "none")
	bare(f, "%.t:: %.m ; a", "%.m: %.1 ; b", "%.t: %.m | x.1; c").want(t, "x.t", "2 x: x.m | x.1 < x.m")
	bare(f, "%.t:: %.m ; a", "%.m: %.1 ; b", "%.t: %.n ; c", "%.n: ; d").want(t, "x.t", "2 x: x.n < x.n")
	// Within a chain a terminal rule is the last one.
	bare(f, "%.t: %.m ; a", "%.m:: %.1 ; b").want(t, "x.t", "0 x: x.m < x.m")
	bare(f, "%.t: %.m ; a", "%.m:: %.n ; b", "%.n: %.1 ; c").want(t, "x.t", "none")
}

func TestP2101RulesInUse(t *testing.T) {
	f := planted(t, "x.1", "x.1.1")
	bare(f, "%.a: %.b ; a", "%.b: %.a ; b").want(t, "x.a", "none")
	bare(f, "%.a: %.a ; a").want(t, "x.a", "none")
	// The second step would be by the rule in use.
	bare(f, "%.a: %.1.a ; a").want(t, "x.a", "none")
	bare(planted(t, "x.1.a"), "%.a: %.1.a ; a").want(t, "x.a", "0 x: x.1.a")
	bare(planted(t, "x.1.1.a"), "%.a: %.1.a ; a").want(t, "x.a", "none")
	bare(planted(t, "x.1.1.a"), "%.a: %.1.a ; a", "%.a: %.1.a | ; b", "%.a: %.1.a %.1.a ; c").want(t, "x.a", "1 x: x.1.a < x.1.a")
	// What was in use for one prerequisite isn't any more for the next one.
	bare(f, "%.t: x.m y.m ; a", "%.m: x.1 ; b").want(t, "x.t", "0 x: x.m y.m < x.m y.m")
	bare(f, "%.t: x.m x.n ; a", "%.m: %.n ; b", "%.n: x.1 ; c").want(t, "x.t", "0 x: x.m x.n < x.m x.n")
}

// links is a chain of so many rules, from x.0 on, of which the last one's prerequisite is there.
func links(t *testing.T, n int) world {
	var l []string
	for i := range n {
		l = append(l, fmt.Sprintf("%%.%d: %%.%d ; x", i, i+1))
	}
	return bare(planted(t, fmt.Sprintf("x.%d", n)), l...)
}

func TestP2101HowLongAChainMayBe(t *testing.T) {
	for n := 2; n <= api.MaxChain+1; n++ {
		links(t, n).want(t, "x.0", "0 x: x.1 < x.1")
	}
	links(t, 1).want(t, "x.0", "0 x: x.1")
	links(t, api.MaxChain+2).want(t, "x.0", "none")
	links(t, api.MaxChain+2).want(t, "x.1", "1 x: x.2 < x.2")
	// With as many in use as may be another way is looked for, of which all is there.
	w := links(t, api.MaxChain+2)
	w.b.Rules = append(w.b.Rules, line(fmt.Sprintf("%%.%d: ; y", api.MaxChain)))
	w.want(t, "x.0", "0 x: x.1 < x.1")
	w.b.Rules[len(w.b.Rules)-1] = line(fmt.Sprintf("%%.%d: ; y", api.MaxChain+1))
	w.want(t, "x.0", "none")
}

func TestP2101Mid(t *testing.T) {
	f := planted(t, "x.1", "x.2")
	for _, x := range [][]string{
		{"0 x: x.m x.n < x.m x.n", "%.t: %.m %.n ; a", "%.m: %.1 ; b", "%.n: %.1 ; c"},
		{"0 x: x.n x.1 x.m | x.2 < x.n x.m", "%.t: %.n %.1 %.m | %.2 ; a", "%.m: %.1 ; b", "%.n: %.1 ; c"},
		{"0 x: x.m x.1 x.m | x.n x.m x.n < x.m x.n", "%.t: %.m %.1 %.m | %.n %.m %.n ; a", "%.m: %.1 ; b", "%.n: %.1 ; c"},
		{"0 x: x.1 | x.m < x.m", "%.t: %.1 | %.m ; a", "%.m: %.1 ; b"},
		{"0 x: x.m x.n < x.n", "%.t: %.m %.n ; a", "%.m: %.1 ; b", "%.n: %.1 ; c", "x.m:"},
		// What is within a search within isn't told.
		{"0 x: x.m < x.m", "%.t: %.m ; a", "%.m: %.n ; b", "%.n: %.1 ; c"},
	} {
		bare(f, x[1:]...).want(t, "x.t", x[0])
	}
}

func TestP2101APrerequisiteThatFailsBehindOthers(t *testing.T) {
	f := planted(t, "x.1")
	bare(f, "%.t: %.m %.no ; a", "%.m: %.1 ; b").want(t, "x.t", "none")
	bare(f, "%.t: %.m | %.no ; a", "%.m: %.1 ; b", "%.t: %.n ; c", "%.n: %.1 ; d").want(t, "x.t", "2 x: x.n < x.n")
	bare(f, "%.t: %.m %.n no ; a", "%.m: %.1 ; b", "%.n: %.1 ; c", "%.t: %.n ; d").want(t, "x.t", "3 x: x.n < x.n")
	bare(f, "%.t: %.no %.m ; a", "%.m: %.1 ; b").want(t, "x.t", "none")
}

func TestP2101Members(t *testing.T) {
	f := planted(t, "x.1", "lib.a="+archive(t, "m"), "d/", "d/x.1", "y")
	for _, x := range [][]string{
		// As they stand, ahead of the member alone.
		{"l(x)", "1 l:", "(%): ; a", "%(x): ; b"},
		{"l(x)", "1 x): x.1", "(%): y ; a", "l(%: x.1 ; b"},
		{"l(x)", "1 (x): m < m", "(%): y ; a", "l%: m ; b", "m%: ; c"},
		{"l(x)", "0 l(x):", "%: ; a", "(%): ; b"},
		{"k/l(x)", "0 x:", "k/l(%): ; a", "(%): ; b"},
		{"l(d/x)", "1 l(d/x:", "(%): ; a", "%): ; b"},
		// The member alone.
		{"l(x)", "0 x: x.1", "(%): %.1 ; a"},
		{"l(x)", "1 x: x.1", "l%: no ; a", "(%): %.1 ; b"},
		{"l(x)", "1 x: x.m < x.m", "l%: no ; a", "(%): %.m ; b", "%.m: %.1 ; c"},
		{"l(x)", "1 (x):", "l%:: no ; a", "%: ; b"},
		{"l(x)", "2 x:", "l%: no ; a", "%: no ; b", "(%): ; c"},
		{"l()", "0 : .1", "(%): %.1 ; a", ".1:"},
		{"l(x)(y)", "0 x)(y:", "(%): ; a"},
		{"l((x))", "0 (x):", "(%): ; a"},
		// Its head is empty, even with a slash in it.
		{"l(d/x)", "0 d/x: d/x.1", "(%): %.1 ; a"},
		{"k/l(x)", "0 x: x.1", "(%): %.1 ; a"},
		{"k/l(d/x)", "0 d/x: d/x.1", "(%): %.1 ; a"},
		{"l(d/x)", "0 x: x.1", "(d/%): %.1 ; a"},
		{"l(d/x)", "1 d/: y", "(%no): %.1 ; a", "(%x): y ; b"},
		{"l(d/x)", "1 (d/x):", "l(d/%:: no ; a", "%: ; b"},
		// Neither.
		{"l(x)", "none", "l%: no ; a", "(%): no ; b"},
		{"l(x)", "none", "(%): %.m ; b", "%.m: no ; c"},
		{"l(x)", "none", "(x%: no ; a", "x: ; b"},
		{"l(x)", "none"},
		// No members' names.
		{"(x)", "0 x: x.1", "(%): %.1 ; a"},
		{"((x)", "0 (x:", "(%): ; a"},
		{"l(x", "none", "(%): ; a", "(%: ; b"},
		{"l(x)y", "none", "(%): ; a"},
	} {
		bare(f, x[2:]...).want(t, x[0], x[1])
	}
}

// In a search within a member's name is looked for alone, too, the rules in use being in use.
func TestP2101MembersWithin(t *testing.T) {
	f := planted(t, "x.1", "lib.a="+archive(t, "m"))
	bare(f, "%.t: l(%) ; a", "(%): %.1 ; b").want(t, "x.t", "0 x: l(x) < l(x)")
	bare(f, "%.t: l(%) ; a", "(%): %.t ; b").want(t, "x.t", "none")
	bare(f, "%.t: lib.a(m) ; a", "(%): no ; b").want(t, "x.t", "0 x: lib.a(m)")
	bare(f, "%.t: lib.a(n) ; a", "(%): no ; b").want(t, "x.t", "none")
	bare(f, "%): l(x) ; a", "(%): ; b").want(t, "l(y)", "0 l(y: l(x) < l(x)")
	bare(f, "%): l(x) ; a").want(t, "l(y)", "none")
	// With as many rules in use as may be.
	w := links(t, api.MaxChain)
	w.f = planted(t)
	w.b.Rules = append(w.b.Rules, line(fmt.Sprintf("%%.%d: l(x) ; y", api.MaxChain-1)), line("(%): ; z"))
	w.want(t, "x.0", "0 x: x.1 < x.1")
	w.b.Rules[len(w.b.Rules)-1] = line("(%): no ; z")
	w.want(t, "x.0", "none")
}

func TestP2101Nothing(t *testing.T) {
	for _, w := range []world{bare(planted(t)), {f: planted(t)}, bare(planted(t), "%.t: %.no ; a", "x.t: ; b"), {}} {
		for _, target := range []string{"x.t", "", "d/", "l(x)", "none"} {
			got := w.search(target)
			if got.Rule != -1 || got.Stem != "" || len(got.Prereqs)+len(got.Orders)+len(got.Mid) > 0 {
				t.Errorf("Search of %q: %+v", target, got)
			}
		}
	}
	// Neither a rule that is no pattern nor one that has no recipe counts.
	w := bare(planted(t), "x.t: ; a", "%.t:", "%.u: ; b", "%.u:")
	w.want(t, "x.t", "none")
	w.want(t, "x.u", "none")
}

// times is a rule with so many times the same target pattern, each a candidate by itself.
func times(n int, pattern, rest string) string { return strings.Repeat(pattern+" ", n) + rest }

func TestP2102HowManyTries(t *testing.T) {
	for _, x := range []struct {
		what         string
		rules        func(n int) []string
		tries        func(n int) int // that it takes to find the target
		target, want string
	}{
		{"of what is there", func(n int) []string { return []string{times(n, "%.t", ": no ; a"), "%.t: ; b"} },
			func(n int) int { return n + 1 }, "x.t", "1 x:"},
		{"of what can be made", func(n int) []string { return []string{times(n, "%.t", ": no ; a"), "%.t: m ; b", "m%: ; c"} },
			func(n int) int { return 2*n + 3 }, "x.t", "1 x: m < m"},
		{"of terminal rules, that aren't tried twice", func(n int) []string { return []string{times(n, "%.t", ":: no ; a"), "%.t: m ; b", "m%: ; c"} },
			func(n int) int { return n + 3 }, "x.t", "1 x: m < m"},
		{"of a search within", func(n int) []string { return []string{"%.w: x.t ; z", times(n, "%.t", ": no ; a"), "%.t: ; b"} },
			func(n int) int { return n + 3 }, "x.w", "0 x: x.t < x.t"},
		{"of a search within a search within", func(n int) []string {
			return []string{"%.v: x.w ; y", "%.w: x.t ; z", times(n, "%.t", ": no ; a"), "%.t: ; b"}
		}, func(n int) int { return n + 5 }, "x.v", "0 x: x.w < x.w"},
		{"of searches within, one behind the other", func(n int) []string {
			return []string{"%.w: x.t y.t ; z", times(n, "%.t", ": no ; a"), "%.t: ; b"}
		}, func(n int) int { return 2*n + 4 }, "x.w", "0 x: x.t y.t < x.t y.t"},
		{"of a search within for the same name twice", func(n int) []string { return []string{"%.w: m | m ; z", times(n, "m%", ": no ; a"), "m%: ; b"} },
			func(n int) int { return 2*n + 4 }, "x.w", "0 x: m | m < m"},
		{"of a search within that fails", func(n int) []string {
			return []string{"%.t: f ; a", times(n, "f%", ": no ; b"), "%.t: g ; c", "g%: ; d"}
		}, func(n int) int { return 2*n + 5 }, "x.t", "2 x: g < g"},
		{"but those of rules in use", func(n int) []string { return []string{times(n, "%.t", ": k.t ; a"), "k%: ; b"} },
			func(n int) int { return n + 2 }, "x.t", "0 x: k.t < k.t"},
		{"of a member", func(n int) []string { return []string{times(n, "l%", ": no ; a"), "(%): ; b"} },
			func(n int) int { return 2*n + 1 }, "l(x)", "1 x:"},
		{"of a member within", func(n int) []string { return []string{"%.t: l(x) ; a", times(n, "(%)", ": no ; b"), "(%): | ; c"} },
			func(n int) int { return n + 3 }, "x.t", "0 x: l(x) < l(x)"},
	} {
		seen := 0
		for n := 600; n < 2010; n++ {
			for more := range 2 {
				k := x.tries(n) + more
				if k < 1996 || k > 2003 {
					continue
				}
				want, l := x.want, x.rules(n)
				if k >= 2000 {
					want = "none"
				}
				if more == 1 {
					// A terminal rule with an empty stem is tried ahead of all, once.
					l = append(l, x.target+"%:: no ; t")
				}
				if got := shown(bare(planted(t), l...).search(x.target)); got != want {
					t.Errorf("%d tries %s: %q, not %q", k, x.what, got, want)
				}
				if k == 1999 || k == 2000 {
					seen |= k - 1998
				}
			}
		}
		if seen != 3 {
			t.Errorf("1,999 tries and 2,000 %s: seen is %d", x.what, seen)
		}
	}
}

// What was counted out in a search within is so for all of it, whatever stands behind.
func TestP2102NothingIsFoundAnyMore(t *testing.T) {
	f := planted(t, "n")
	bare(f, "%.t: f ; a", times(3000, "f%", ": no ; b"), "%.t: g ; c", "g%: ; d").want(t, "x.t", "none")
	bare(f, "%.t: f ; a", times(3000, "f%", ": no ; b"), "%.t: n ; c").want(t, "x.t", "2 x: n")
	bare(f, times(1990, "l%", ": no ; a"), times(20, "(%)", ": no ; b"), "(%): ; c").want(t, "l(x)", "none")
	bare(f, times(2500, "%.t", ": no ; a")).want(t, "x.t", "none")
	// Each search counts anew.
	w := bare(f, times(1900, "%.t", ": no ; a"), "%.t: ; b")
	d := db.New(w.b, true)
	for range 3 {
		if got := shown(Search(d, w.b, "", f, "x.t")); got != "1 x:" {
			t.Errorf("one search behind the other: %q", got)
		}
	}
}

func TestP2102EverySearchEnds(t *testing.T) {
	var l []string
	for a := range 20 {
		for b := range 20 {
			l = append(l, fmt.Sprintf("%%.%c: %%.%c | %%.%c.x ; a", 'a'+a, 'a'+b, 'a'+b))
		}
	}
	w := bare(planted(t, "q.b"), l...)
	w.want(t, "q.a", "none")
	w.want(t, "q.z", "none")
	w.f = planted(t, "q.b", "q.b.x")
	w.want(t, "q.a", "1 q: q.b | q.b.x")
	w.want(t, "d/q.a", "none")
}

// sample is a world, of texts that can be written over, with a search for which all of it is looked at.
func sample(t *testing.T, lend func(string) string) (world, string) {
	w := world{f: planted(t, "s/", "s/x.1"), dirs: lend("no:s")}
	for _, r := range base("%.t: %.m %.1 n | o %.m %.1 ; a", "%.m: %.1 ; b", "z: n | o", "(%): %.m ; c", ".q.r: ; d", ".SUFFIXES: .q .r").Rules {
		for _, l := range [][]string{r.Targets, r.Prereqs, r.Orders, r.Recipe} {
			for i := range l {
				l[i] = lend(l[i])
			}
		}
		w.b.Rules = append(w.b.Rules, r)
	}
	w.b.Paths = []api.Pair{{Name: lend("%.1"), Value: lend("no s")}}
	return w, lend("x.t")
}

const sampleWant = "0 x: x.m x.1 n | o x.m x.1 < x.m"

func asItStands(s string) string { return s }

func TestP2103NothingIsChanged(t *testing.T) {
	w, target := sample(t, asItStands)
	room := make([]api.Pair, 1, 5)
	copy(room, w.b.Paths)
	w.b.Paths = room
	for i := range w.b.Rules {
		r := &w.b.Rules[i]
		for _, l := range []*[]string{&r.Targets, &r.Prereqs, &r.Orders, &r.Recipe} {
			*l = append(*l, "#", "#", "#")[:len(*l)]
		}
	}
	d := db.New(w.b, false)
	told := func() string {
		s := fmt.Sprintf("%+v %v %v %+v %+v", d.Rules(), d.Implicit(), w.b, w.f.Tree(), room[:5])
		for _, r := range w.b.Rules {
			for _, l := range [][]string{r.Targets, r.Prereqs, r.Orders, r.Recipe} {
				s += fmt.Sprintf(" %q", l[:cap(l)])
			}
		}
		return s
	}
	before := told()
	for _, name := range []string{target, "d/x.t", "l(x)", "x.o", "x", "none", "", "x.q"} {
		Search(d, w.b, w.dirs, w.f, name)
	}
	if got := shown(Search(d, w.b, w.dirs, w.f, target)); got != sampleWant {
		t.Errorf("the sample: %q", got)
	}
	if got := told(); got != before {
		t.Errorf("what was handed in is %s, not %s", got, before)
	}
}

func TestP2103NothingIsKept(t *testing.T) {
	var lent [][]byte
	w, target := sample(t, func(s string) string {
		b := []byte(s)
		lent = append(lent, b)
		return unsafe.String(unsafe.SliceData(b), len(b))
	})
	d := db.New(w.b, false)
	got := Search(d, w.b, w.dirs, w.f, target)
	for _, b := range lent {
		copy(b, bytes.Repeat([]byte("#"), len(b)))
	}
	for _, r := range w.b.Rules {
		for _, l := range [][]string{r.Targets, r.Prereqs, r.Orders} {
			for i := range l {
				l[i] = "#"
			}
		}
	}
	w.f.Write("x.t", nil, false)
	w.f.Remove("s/x.1")
	if shown(got) != sampleWant {
		t.Errorf("what was written over shows: %q", shown(got))
	}
	// What is answered hangs on what is there when it is asked.
	v := bare(planted(t, "x.1"), "%.t: %.1 ; a", "%.t: %.2 ; b")
	d = db.New(v.b, true)
	for range 2 {
		if got := shown(Search(d, v.b, "", v.f, "x.t")); got != "0 x: x.1" {
			t.Errorf("ahead: %q", got)
		}
		v.f.Remove("x.1")
		v.f.Write("x.2", nil, false)
		if got := shown(Search(d, v.b, "", v.f, "x.t")); got != "1 x: x.2" {
			t.Errorf("behind: %q", got)
		}
		v.f.Remove("x.2")
		if got := shown(Search(d, v.b, "", v.f, "x.t")); got != "none" {
			t.Errorf("without: %q", got)
		}
		v.f.Write("x.1", nil, false)
	}
}

// wantApart looks that none of the texts stands in memory of another one.
func wantApart(t *testing.T, what string, l []string) {
	t.Helper()
	for i, a := range l {
		for _, b := range l[:i] {
			p, q := uintptr(unsafe.Pointer(unsafe.StringData(a))), uintptr(unsafe.Pointer(unsafe.StringData(b)))
			if len(a) > 0 && len(b) > 0 && p < q+uintptr(len(b)) && q < p+uintptr(len(a)) {
				t.Errorf("%s: %q shares memory with %q", what, a, b)
			}
		}
	}
}

func textsOf(l ...api.Found) (texts []string) {
	for _, a := range l {
		texts = slices.Concat(texts, []string{a.Stem}, a.Prereqs, a.Orders, a.Mid)
	}
	return texts
}

func TestP2103WhatIsAnsweredIsNewMemory(t *testing.T) {
	w, target := sample(t, strings.Clone)
	given := []string{target, w.dirs, "d/x.t", "l(x)", "d/.t"}
	for i := range given {
		given[i] = strings.Clone(given[i])
	}
	for _, r := range w.b.Rules {
		given = slices.Concat(given, r.Targets, r.Prereqs, r.Orders)
	}
	for _, n := range []string{"d/x.1", "d/.1"} {
		w.b.Rules = append(w.b.Rules, api.Rule{Targets: []string{n}})
	}
	d := db.New(w.b, false)
	for at, want := range map[int]string{0: sampleWant, 2: "0 d/x: d/x.m d/x.1 n | o d/x.m d/x.1 < d/x.m", 3: "3 x: x.m < x.m", 4: "0 d/: d/.m d/.1 n | o d/.m d/.1 < d/.m"} {
		one, other := Search(d, w.b, w.dirs, w.f, given[at]), Search(d, w.b, w.dirs, w.f, given[at])
		wantApart(t, given[at], slices.Concat(given, textsOf(one, other)))
		for _, l := range []*[]string{&one.Prereqs, &one.Orders, &one.Mid} {
			*l = append((*l)[:0:cap(*l)], slices.Repeat([]string{"#"}, cap(*l))...)
		}
		if got := shown(other); got != want {
			t.Errorf("one answer written over, the other is %q, not %q", got, want)
		}
		if got := shown(Search(d, w.b, w.dirs, w.f, given[at])); got != want {
			t.Errorf("one answer written over, the next is %q, not %q", got, want)
		}
	}
	v := bare(w.f, "%.t: m | m ; a", "m%: ; b")
	wantApart(t, "m", textsOf(v.search("x.t")))
	// The lists of one answer have none of their memory in common either.
	a := Search(d, w.b, w.dirs, w.f, target)
	lists := [][]string{a.Prereqs, a.Orders, a.Mid}
	for k, l := range lists {
		for i := range l[:cap(l)] {
			l[:cap(l)][i] = fmt.Sprint(k, i)
		}
	}
	for k, l := range lists {
		for i := range l {
			if l[i] != fmt.Sprint(k, i) {
				t.Errorf("list %d has memory of another", k)
			}
		}
	}
}

func TestP2103TheSameSideBySide(t *testing.T) {
	w, target := sample(t, asItStands)
	d := db.New(w.b, false)
	var all sync.WaitGroup
	for range 8 {
		all.Go(func() {
			for range 50 {
				if got := shown(Search(d, w.b, w.dirs, w.f, target)); got != sampleWant {
					t.Errorf("side by side: %q", got)
				}
			}
		})
	}
	all.Wait()
}

func TestNothingToLookAt(t *testing.T) {
	none := api.Found{Rule: -1}
	if got := Search(nil, api.Base{}, "", nil, "x.o"); !reflect.DeepEqual(got, none) {
		t.Errorf("of nought: %+v", got)
	}
	if got := Search(&db.DB{}, api.Base{}, "", nil, "l(x)"); !reflect.DeepEqual(got, none) {
		t.Errorf("of an empty base: %+v", got)
	}
	world{b: base("x.c: y")}.want(t, "x.o", "1 x: x.c")
	world{b: base("x.c: y")}.want(t, "y", "none")
}

// Of rules that reading never tells any answer is right, by a call that ends.
func TestP1909OtherBases(t *testing.T) {
	f := planted(t, "x.1", "x")
	words := []string{"", "%", "x", "/", "%/", "(%)", "x.1", "%%", "l(x)", ".SUFFIXES"}
	var rules []api.Rule
	for i, w := range words {
		for j, v := range words {
			rules = append(rules, api.Rule{Targets: []string{w, v}, Prereqs: []string{v}, Has: true, Pattern: i%2 == j%2, Terminal: i%3 == 0}, api.Rule{Pattern: true, Has: true}, api.Rule{Targets: []string{w}, Orders: []string{v}, Pattern: true, Has: true, Builtin: true, Static: "x"})
		}
	}
	b := api.Base{Rules: rules, Paths: []api.Pair{{}, {Name: "%"}}}
	for _, d := range []*db.DB{db.New(b, false), db.New(b, true), db.New(api.Base{}, false)} {
		for _, w := range words {
			Search(d, b, w, f, w)
			Search(d, api.Base{}, w, nil, "d/"+w)
		}
	}
}

// Within the package an error says of which names nothing was found, and why.
func TestWhatIsNotFoundIsAWrappedError(t *testing.T) {
	d := db.New(base("%.t: %.m ; a", times(2000, "%.m", ": no ; b"), "%.u: no ; c"), true)
	g := func() *ground {
		return &ground{rules: d.Rules(), places: d.Implicit(), look: d.Named, asked: map[string]int{}}
	}
	for name, want := range map[string]error{"x.t": errCounted, "x.u": errNothing, "none": errNothing} {
		_, err := search{ground: g()}.of(name)
		if !errors.Is(err, want) || err.Error() != (&fault{name, want}).Error() && name != "x.t" {
			t.Errorf("of %q: %v", name, err)
		}
	}
	_, err := search{ground: g()}.of("x.t")
	if want := "x.t: x.m: " + errCounted.Error(); err == nil || err.Error() != want {
		t.Errorf("%v, not %q", err, want)
	}
}

// The makefiles' own way to a search.
func TestOfWhatWasRead(t *testing.T) {
	f := planted(t, "src/", "src/a.l", "b.c")
	s := vars.New()
	b, at, _, e := read.Read(s, f, "m", "vpath %.l src\n.l.c:\n\tlex $<\n.SUFFIXES: .l\n%.o: %.s\n\tas $<\nlib(%): %\n\tar\n%.x:: b.c a.l | %.o\n\tx\n", 1000)
	if e != api.OK {
		t.Fatal(at, e)
	}
	w := world{f: f, b: b}
	w.want(t, "a.c", "0 a: a.l")
	w.want(t, "a.o", "5 a: a.c < a.c")
	w.want(t, "b.o", "5 b: b.c")
	w.want(t, "lib(b.o)", "3 b.o: b.o < b.o")
	w.want(t, "d/lib(b.o)", "8 b.o: b.o < b.o")
	w.want(t, "q.x", "none")
}
