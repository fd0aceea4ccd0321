package seek

import (
	"math/rand"
	"strings"
	"testing"

	"anvil/api"
	"anvil/ar"
	"anvil/vfs"
)

// A plain telling of the chapter, to hold the calls against: it knows the tree as a list of nodes.

type plainSeek struct {
	tree api.Tree
	b    api.Base
	dirs string
}

func plainSplit(name string) (string, string, bool) {
	at := strings.Index(name, "(")
	if at < 1 || name[len(name)-1] != ')' {
		return "", "", false
	}
	return name[:at], name[at+1 : len(name)-1], true
}

// plainClean takes one name after the other off the front.
func plainClean(p string) string {
	clean := ""
	for _, name := range strings.Split(p, "/") {
		switch {
		case name == "" || name == ".":
		case name == "..":
			clean = clean[:max(strings.LastIndex(clean, "/"), 0)]
		case clean == "":
			clean = name
		default:
			clean += "/" + name
		}
	}
	return clean
}

func (p plainSeek) node(name string) (api.Node, bool) {
	name = plainClean(name)
	for _, n := range p.tree.Nodes {
		if n.Path == name {
			return n, true
		}
	}
	return api.Node{Dir: true}, name == ""
}

func (p plainSeek) time(name string) (int, bool) {
	archive, member, is := plainSplit(name)
	n, there := p.node(archive)
	if is && there && !n.Dir {
		l, _ := ar.Parse(n.Data)
		for _, m := range l {
			if m.Name == member {
				return m.Date, true
			}
		}
	}
	n, there = p.node(name)
	return n.Time, there
}

func plainMatch(pattern, name string) bool {
	ahead, behind, open := strings.Cut(pattern, "%")
	if !open {
		return pattern == name
	}
	return len(ahead)+len(behind) <= len(name) && name[:len(ahead)] == ahead && name[len(name)-len(behind):] == behind
}

func (p plainSeek) find(name string) (string, bool) {
	if _, there := p.time(name); there {
		return name, true
	}
	if _, _, is := plainSplit(name); is {
		return name, false
	}
	var words []string
	for _, x := range p.b.Paths {
		if plainMatch(x.Name, name) {
			words = append(words, strings.Fields(x.Value)...)
		}
	}
	words = append(words, strings.FieldsFunc(p.dirs, func(r rune) bool { return strings.ContainsRune(" \t\n:", r) })...)
	for _, w := range words {
		place := plainClean(w + "/" + name)
		if _, there := p.time(place); there {
			return place, true
		}
	}
	return name, false
}

// hold holds what is told of the name against the plain telling, and says whether it was found, and elsewhere.
func (p plainSeek) hold(t *testing.T, f *vfs.FS, name string) (found, elsewhere bool) {
	t.Helper()
	a, m, is := plainSplit(name)
	if archive, member, ok := Split(name); archive != a || member != m || ok != is {
		t.Fatalf("Split(%q): %q, %q, %v", name, archive, member, ok)
	}
	n, known := p.time(name)
	if got, ok := Time(f, name); got != n || ok != known {
		t.Fatalf("Time(%q): %d, %v, not %d, %v", name, got, ok, n, known)
	}
	place, there := p.find(name)
	if got, ok := Find(p.b, p.dirs, f, name); got != place || ok != there {
		t.Fatalf("Find of %q, %q, %q: %q, %v, not %q, %v", p.b.Paths, p.dirs, name, got, ok, place, there)
	}
	return there, place != name
}

// odd is a file system whose files have brackets and dots in their names.
func odd(t *testing.T) *vfs.FS {
	t.Helper()
	lib := archive(t, "a 11", "b 12", "a 13", ") 14", "( 15", "a) 16", "(a 17", ". 18", "a(b 19")
	return planted(t, "a="+lib, "b/", "b/a="+lib, "b/b", "a(a)", "a(b", "b(a)", "b/(b)", "b/a()", "(a)", "(/a)", "((", "b(/b)", "a)(/(", ".a", "b/ab", "b/bb", "a)(/ab", "a)(/a/b", "b(/)", "b(/(")
}

func TestP2001ToP2003AllShortNames(t *testing.T) {
	f := odd(t)
	told := [2]int{}
	for _, p := range []plainSeek{{b: paths("%=b", "a%=(", "(%)=b a"), dirs: "a)(:b("}, {dirs: "b:("}, {b: paths("%a=/b .", "b=b")}} {
		p.tree = f.Tree()
		each := func(name string) {
			found, elsewhere := p.hold(t, f, name)
			if found {
				told[0]++
			}
			if found && elsewhere {
				told[1]++
			}
		}
		short("ab()/.", 6, "", each)
	}
	if told[0] < 3000 || told[1] < 400 {
		t.Errorf("%d names were found, %d elsewhere", told[0], told[1])
	}
}

// short hands on each text of at most so many of the bytes.
func short(bytes string, most int, ahead string, each func(string)) {
	each(ahead)
	if len(ahead) == most {
		return
	}
	for i := range len(bytes) {
		short(bytes, most, ahead+bytes[i:i+1], each)
	}
}

// grown tells a text of pieces.
func grown(r *rand.Rand, most int, pieces ...string) string {
	s := ""
	for range r.Intn(most + 1) {
		s += pieces[r.Intn(len(pieces))]
	}
	return s
}

func TestP2001ToP2003AgainstThePlainTelling(t *testing.T) {
	g := grower{rand.New(rand.NewSource(20)), nil}
	elsewhere := 0
	for range 40000 {
		f := grownFiles(t, g.Rand)
		p := plainSeek{tree: f.Tree()}
		g.nodes = p.tree.Nodes
		p.dirs = g.words()
		for range g.Intn(4) {
			p.b.Paths = append(p.b.Paths, api.Pair{Name: grown(g.Rand, 3, "%", "%", "a", "b", "(", ")", "a/"), Value: g.words()})
		}
		for range 10 {
			if found, other := p.hold(t, f, g.name()); found && other {
				elsewhere++
			}
		}
	}
	if elsewhere < 3000 {
		t.Errorf("%d names were found elsewhere", elsewhere)
	}
}

// grower makes names that are often some of the nodes' or parts of those.
type grower struct {
	*rand.Rand
	nodes []api.Node
}

func (g grower) some() string {
	if len(g.nodes) == 0 || g.Intn(4) == 0 {
		return grown(g.Rand, 3, "a", "b", "(", ")", "/", "..", ".", "a(b)")
	}
	return g.nodes[g.Intn(len(g.nodes))].Path
}

func (g grower) words() string {
	s := grown(g.Rand, 1, " ", ":", "\t")
	for range g.Intn(4) {
		s += g.some() + grown(g.Rand, 2, "/", " ", ":", "\t", "\n")
	}
	return s
}

func (g grower) name() string {
	name := g.some()
	if at := strings.Index(name, "/"); at >= 0 && g.Intn(3) > 0 {
		name = name[at+g.Intn(2):]
	}
	return name
}

// grownFiles is a file system of what can be made of some names, one behind the other: files, archives, directories.
func grownFiles(t *testing.T, r *rand.Rand) *vfs.FS {
	t.Helper()
	f, e := vfs.New(api.Tree{Room: api.MaxRoom})
	if e != api.OK {
		t.Fatal(e)
	}
	for range r.Intn(14) {
		name := grown(r, 1, "a/", "b/", "a/b/", "(/", "a(/") + grown(r, 2, "a", "b", "(", ")")
		switch r.Intn(4) {
		case 0:
			f.Mkdir(name)
		case 1:
			f.Write(name, []byte(name), false)
		case 2:
			lib := archive(t, grown(r, 2, "a", "b", "(")+"x 5", "a 6", "b 7", "a 8")
			f.Write(name, []byte(lib), false)
		default:
			for at := range len(name) {
				if name[at] == '/' {
					f.Mkdir(name[:at])
				}
			}
			f.Touch(name)
		}
	}
	return f
}
