package rule

import (
	"fmt"
	"math/rand"
	"regexp"
	"slices"
	"strings"
	"testing"

	"anvil/api"
)

// A plain telling of the chapter, to hold the calls against: what references have is masked ahead, so that regular expressions can tell the rest.

// masked tells s with an x in the place of each byte that no separator can be.
func masked(s string) string {
	out := []byte(s)
	for at := 0; at < len(s); at++ {
		if s[at] != '$' || at+1 == len(s) {
			continue
		}
		end := behindReference(s, at+1)
		for i := at; i < end; i++ {
			out[i] = 'x'
		}
		at = end - 1
	}
	return string(out)
}

// behindReference tells the place behind the reference whose $ has the byte at at behind it.
func behindReference(s string, at int) int {
	pair := map[byte]string{'(': "()", '{': "{}"}[s[at]]
	if pair == "" {
		return at + 1
	}
	deep := 0
	for i := at; i < len(s); i++ {
		deep += strings.Count(s[i:i+1], pair[:1]) - strings.Count(s[i:i+1], pair[1:])
		if deep == 0 {
			return i + 1
		}
	}
	return len(s)
}

var (
	assigning = regexp.MustCompile(`(?s)^([^=:]*)(=|:=|::=)(.*)$`)
	scoping   = regexp.MustCompile(`(?s)^[^=:;]*(=|:=|::=)`)
	ruling    = regexp.MustCompile(`(?s)^([^=:]*)(::?)(.*)$`)
	modifying = regexp.MustCompile(`(?s)^(.*?)[ \t\n]*([+?!]?)$`)
)

func plainTake(line string) api.Head {
	mask := masked(line)
	if m := assigning.FindStringSubmatchIndex(mask); m != nil {
		h := api.Head{Kind: 1, Left: strings.Trim(line[:m[3]], " \t\n"), Right: strings.TrimLeft(line[m[6]:], " \t\n"), Set: api.SetSimple}
		if mask[m[4]:m[5]] == "=" {
			parts := modifying.FindStringSubmatch(h.Left)
			h.Left, h.Set = parts[1], map[string]int{"": api.SetRecursive, "+": api.SetAppend, "?": api.SetDefault, "!": api.SetShell}[parts[2]]
		}
		return h
	}
	m := ruling.FindStringSubmatchIndex(mask)
	if m == nil {
		return api.Head{Left: line}
	}
	h := api.Head{Kind: 2, Left: line[:m[3]], Double: m[5]-m[4] == 2}
	behind := line[m[6]:]
	if scoping.MatchString(masked(behind)) {
		v := plainTake(behind)
		h.Kind, h.Name, h.Right, h.Set = 3, v.Left, v.Right, v.Set
		return h
	}
	right, recipe, has := strings.Cut(masked(behind), ";")
	h.Right, h.Has = behind[:len(right)], has
	if has {
		h.Recipe = strings.TrimLeft(behind[len(behind)-len(recipe):], " \t\n")
	}
	return h
}

func holdTake(t *testing.T, line string) {
	t.Helper()
	if got, want := Take(line), plainTake(line); got != want {
		t.Fatalf("Take(%q): %+v, not %+v", line, got, want)
	}
}

// eachText calls f with each text of at most most of the pieces.
func eachText(pieces []string, most int, f func(string)) {
	var grow func(s string, left int)
	grow = func(s string, left int) {
		f(s)
		for _, p := range pieces {
			if left > 0 {
				grow(s+p, left-1)
			}
		}
	}
	grow("", most)
}

func TestP1701AgainstAPlainTelling(t *testing.T) {
	eachText(strings.Split("a =:;+$", ""), 6, func(s string) { holdTake(t, s) })
	eachText(strings.Split("=:$(){};", ""), 5, func(s string) { holdTake(t, s) })
	eachText([]string{"=", ":", "?", "!", "+", " ", "\t", "\n", "$", "v"}, 5, func(s string) { holdTake(t, s) })
	r := rand.New(rand.NewSource(1))
	pieces := []string{"a", " ", "\t", "\n", "=", ":", ":=", "::=", "::", "+=", "?=", "!=", ";", "$", "$(", "${", "(", ")", "{", "}", "$$", "$(a:b=c)", "\xff", "%", "|"}
	for range 200000 {
		holdTake(t, grown(r, pieces, 20))
	}
}

// grown tells a text of up to most pieces that are picked by r.
func grown(r *rand.Rand, pieces []string, most int) string {
	var b strings.Builder
	for range r.Intn(most + 1) {
		b.WriteString(pieces[r.Intn(len(pieces))])
	}
	return b.String()
}

var dots = regexp.MustCompile(`^(\./+)+`)

func plainName(w string) string {
	if w = dots.ReplaceAllString(w, ""); w == "" {
		return "."
	}
	return w
}

func TestP1702NameAgainstAPlainTelling(t *testing.T) {
	eachText([]string{".", "/", "a"}, 9, func(w string) {
		if got, want := Name(w), plainName(w); got != want {
			t.Fatalf("Name(%q): %q, not %q", w, got, want)
		}
	})
}

// plainGroup takes the first word, or the row that begins there, and goes on behind it.
func plainGroup(l []string) []string {
	if len(l) == 0 {
		return nil
	}
	name, first, has := strings.Cut(l[0], "(")
	end := slices.IndexFunc(l, func(w string) bool { return strings.HasSuffix(w, ")") })
	if !has || name == "" || end < 1 {
		return append([]string{l[0]}, plainGroup(l[1:])...)
	}
	inside := slices.Concat([]string{first}, l[1:end], []string{strings.TrimSuffix(l[end], ")")})
	var out []string
	for _, m := range inside {
		if m != "" {
			out = append(out, fmt.Sprintf("%s(%s)", name, m))
		}
	}
	return append(out, plainGroup(l[end+1:])...)
}

func TestP1702GroupAgainstAPlainTelling(t *testing.T) {
	eachText([]string{" a", " ", " (", " )", " a(", " a(b", " b)", " (a", " a(b)", " a(b)c", " ()"}, 5, func(s string) {
		l := strings.Split(s, " ")[1:]
		if got, want := Group(l), plainGroup(l); !slices.Equal(got, want) {
			t.Fatalf("Group(%q): %q, not %q", l, got, want)
		}
	})
	eachText([]string{"a", "(", ")", " "}, 8, func(s string) {
		l := strings.Fields(s)
		if got, want := Group(l), plainGroup(l); !slices.Equal(got, want) {
			t.Fatalf("Group(%q): %q, not %q", l, got, want)
		}
	})
}

func plainNames(l []string) []string {
	var out []string
	for _, w := range l {
		out = append(out, plainName(w))
	}
	return out
}

// plainStatic tells what stands ahead of the colon of a static pattern and behind it, by words that are put together again.
func plainStatic(l []string) (ahead, behind []string, is bool) {
	at := slices.IndexFunc(l, func(w string) bool { return !strings.Contains(w, "(") && strings.Contains(w, ":") })
	if at < 0 {
		return nil, l, false
	}
	first, rest, _ := strings.Cut(strings.Join(l[at:], " "), ":")
	return strings.Fields(strings.Join(append(slices.Clone(l[:at]), first), " ")), strings.Fields(rest), true
}

func plainMatches(pattern, word string) bool {
	ahead, behind, _ := strings.Cut(pattern, "%")
	return regexp.MustCompile("(?s)^" + regexp.QuoteMeta(ahead) + ".*" + regexp.QuoteMeta(behind) + "$").MatchString(word)
}

func hasMark(w string) bool { return strings.Contains(w, "%") }

func plainMake(left, right string, double bool) (api.Rule, []string, api.Errno) {
	targets := plainNames(plainGroup(strings.Fields(left)))
	if len(targets) == 0 {
		return api.Rule{}, nil, api.ErrSep
	}
	r := api.Rule{Targets: targets, Double: double}
	ahead, behind, is := plainStatic(plainGroup(strings.Fields(right)))
	if is {
		ahead = plainNames(ahead)
		if len(ahead) != 1 || !hasMark(ahead[0]) {
			return api.Rule{}, nil, api.ErrMany
		}
		if slices.ContainsFunc(targets, func(w string) bool { return hasMark(w) || !plainMatches(ahead[0], w) }) {
			return api.Rule{}, nil, api.ErrMixed
		}
		r.Static = ahead[0]
	} else if slices.ContainsFunc(targets, hasMark) {
		if slices.ContainsFunc(targets, func(w string) bool { return !hasMark(w) }) {
			return api.Rule{}, nil, api.ErrMixed
		}
		r.Pattern, r.Terminal, r.Double, targets = true, double, false, nil
	}
	r.Prereqs = plainNames(behind)
	if bar := slices.Index(r.Prereqs, "|"); bar >= 0 {
		r.Prereqs, r.Orders = r.Prereqs[:bar], r.Prereqs[bar+1:]
	}
	return r, targets, api.OK
}

func holdMake(t *testing.T, left, right string, double bool) {
	t.Helper()
	got, l, e := Make(left, right, double)
	want, wantTargets, wantErr := plainMake(left, right, double)
	if e != wantErr || !sameRule(got, want) || !slices.Equal(l, wantTargets) {
		t.Fatalf("Make(%q, %q, %v): %+v, %q, %d, not %+v, %d", left, right, double, got, l, int(e), want, int(wantErr))
	}
}

func TestP1703AgainstAPlainTelling(t *testing.T) {
	lefts := []string{"", "a", "a.o", "a b", "%", "%.o %", "% a", "l(a b)", "./a", "l( )", "l(%)", "a.o ./b.o"}
	eachText([]string{"%", ":", " ", "|", "a", "(", ")"}, 5, func(right string) {
		for i, left := range lefts {
			holdMake(t, left, right, (len(right)+i)%2 == 0)
		}
	})
	r := rand.New(rand.NewSource(2))
	pieces := []string{"a", "a.o", "%", "%.o", " ", " ", " ", "\t", "\n", ":", " : ", " | ", "|", "(", ")", "l(", "./", "/", ".", "x", "l(%)", "l(a) "}
	for range 100000 {
		holdMake(t, grown(r, pieces, 6), grown(r, pieces, 12), r.Intn(2) == 0)
	}
}
