package seek

import (
	"bytes"
	"errors"
	"fmt"
	"strings"
	"sync"
	"testing"
	"unsafe"

	"anvil/api"
	"anvil/ar"
	"anvil/vfs"
)

// planted is a file system of nodes: "d/" is a directory, "x" a file, "x=data" one of that data; each has its place in the list, from 1 on, as its time, and those that lead to it are made with it, at 900.
func planted(t *testing.T, l ...string) *vfs.FS {
	t.Helper()
	nodes := map[string]api.Node{}
	var paths []string
	put := func(n api.Node) {
		if _, there := nodes[n.Path]; !there {
			paths = append(paths, n.Path)
		}
		nodes[n.Path] = n
	}
	for at, s := range l {
		name, data, _ := strings.Cut(s, "=")
		for i := range len(name) {
			if _, there := nodes[name[:i]]; name[i] == '/' && !there {
				put(api.Node{Path: name[:i], Dir: true, Time: 900})
			}
		}
		n := api.Node{Path: strings.TrimSuffix(name, "/"), Dir: strings.HasSuffix(name, "/"), Time: at + 1}
		if !n.Dir {
			n.Data = []byte(data)
		}
		put(n)
	}
	tree := api.Tree{Clock: 1000, Room: api.MaxRoom}
	for _, p := range rising(paths) {
		tree.Nodes = append(tree.Nodes, nodes[p])
	}
	f, e := vfs.New(tree)
	if e != api.OK {
		t.Fatalf("New of %q: %d", l, e)
	}
	return f
}

func rising(l []string) []string {
	for i := range l {
		for j := range i {
			if l[i] < l[j] {
				l[i], l[j] = l[j], l[i]
			}
		}
	}
	return l
}

// archive tells the bytes of one with these members, each of which is "name date".
func archive(t *testing.T, l ...string) string {
	t.Helper()
	var members []api.Member
	for _, s := range l {
		var m api.Member
		if _, err := fmt.Sscan(s, &m.Name, &m.Date); err != nil {
			t.Fatalf("%q: %v", s, err)
		}
		m.Data = []byte("of " + m.Name)
		members = append(members, m)
	}
	b, e := ar.Write(members)
	if e != api.OK {
		t.Fatalf("Write of %q: %d", l, e)
	}
	return string(b)
}

func wantSplit(t *testing.T, name, archive, member string, is bool) {
	t.Helper()
	if a, m, ok := Split(name); a != archive || m != member || ok != is {
		t.Errorf("Split(%q): %q, %q, %v, not %q, %q, %v", name, a, m, ok, archive, member, is)
	}
}

func wantTime(t *testing.T, f *vfs.FS, name string, want int, known bool) {
	t.Helper()
	if n, ok := Time(f, name); n != want || ok != known {
		t.Errorf("Time(%q): %d, %v, not %d, %v", name, n, ok, want, known)
	}
}

func wantFound(t *testing.T, b api.Base, dirs string, f *vfs.FS, name, want string, ok bool) {
	t.Helper()
	if got, there := Find(b, dirs, f, name); got != want || there != ok {
		t.Errorf("Find of %q, %q, %q: %q, %v, not %q, %v", b.Paths, dirs, name, got, there, want, ok)
	}
}

// paths is a base of pairs, each of which is "pattern=value".
func paths(l ...string) api.Base {
	var b api.Base
	for _, s := range l {
		name, value, _ := strings.Cut(s, "=")
		b.Paths = append(b.Paths, api.Pair{Name: name, Value: value})
	}
	return b
}

func TestTheChaptersExamples(t *testing.T) {
	f := planted(t, "src/x.c", "lib.a="+archive(t, "x.o 77"))
	wantFound(t, paths("%.c=src"), "", f, "x.c", "src/x.c", true)
	wantFound(t, paths("%.c=src"), "", f, "x.h", "x.h", false)
	wantFound(t, api.Base{}, "a:src", f, "x.c", "src/x.c", true)
	wantTime(t, f, "lib.a(x.o)", 77, true)
}

func TestP2001Split(t *testing.T) {
	for _, x := range []struct{ name, archive, member string }{
		{"a(b)", "a", "b"}, {"a()", "a", ""}, {"a(b)(c)", "a", "b)(c"}, {"a(b))", "a", "b)"}, {"a((b)", "a", "(b"}, {"a(b(c)", "a", "b(c"},
		{"a((b))", "a", "(b)"}, {"lib/x.a(d/y.o)", "lib/x.a", "d/y.o"}, {"a(b c)", "a", "b c"}, {" (b)", " ", "b"}, {")(b)", ")", "b"}, {"a)(b)", "a)", "b"},
		{"a( b )", "a", " b "}, {"a(\n)", "a", "\n"}, {"\x00(\x00)", "\x00", "\x00"}, {"%(%)", "%", "%"}, {"a/(b)", "a/", "b"}, {"./a(./b)", "./a", "./b"}, {"\xff(\xfe)", "\xff", "\xfe"}, {"a())", "a", ")"}, {"a(()", "a", "("},
	} {
		wantSplit(t, x.name, x.archive, x.member, true)
	}
	for _, name := range []string{"", "a", "(", ")", "()", "(a)", "a(", "a)", "(a", "a(b", "a(b)c", "a(b) ", "ab)", "(a(b)", "((b)", "(a)(b)", "()()", "(()", "(%)", ")(", "))", "a((", "a)b(", "a[b]", "a(b]", "a{b}"} {
		wantSplit(t, name, "", "", false)
	}
}

func TestP2002TimeOfFiles(t *testing.T) {
	f := planted(t, "d/", "x", "d/y", "e/f/z", "(a)", "a(b", "nought=", "-")
	for name, want := range map[string]int{
		"d": 1, "x": 2, "d/y": 3, "e/f/z": 4, "(a)": 5, "a(b": 6, "nought": 7, "-": 8, "e": 900, "e/f": 900,
		"": 0, "/": 0, ".": 0, "..": 0, "./x": 2, "d/../x": 2, "/x": 2, "../x": 2, "d/": 1, "x/": 2, "d//y": 3, "none/../x": 2, "x/../d": 1, "./": 0,
	} {
		wantTime(t, f, name, want, true)
	}
	for _, name := range []string{"none", "d/none", "none/x", "x/y", "X", " x", "x ", "*", "a", "b", "x\n", "x\x00", "x\n/../none", "\n", strings.Repeat("n", api.MaxName+1), strings.Repeat("d/", api.MaxPath) + "x"} {
		wantTime(t, f, name, 0, false)
	}
	long := strings.Repeat("n", api.MaxName)
	wantTime(t, planted(t, long), long, 1, true)
	wantTime(t, planted(t, long), long+"n", 0, false)
}

// A file's time may be 0, and it is there all the same.
func TestP2002TimesOfNought(t *testing.T) {
	f, e := vfs.New(api.Tree{Nodes: []api.Node{{Path: "a", Data: []byte(archive(t, "m 0", "n 3"))}, {Path: "d", Dir: true}}, Room: 1000})
	if e != api.OK {
		t.Fatal(e)
	}
	for _, name := range []string{"a", "d", "", "a(m)"} {
		wantTime(t, f, name, 0, true)
	}
	wantTime(t, f, "a(n)", 3, true)
	wantTime(t, f, "a(o)", 0, false)
	wantFound(t, api.Base{}, "", f, "a(m)", "a(m)", true)
}

func TestP2002TimeOfMembers(t *testing.T) {
	long := strings.Repeat("long", 9)
	lib := archive(t, "x.o 77", "y.o 5", "x.o 78", "( 6", ") 7", "y.o 4", "b(c 8", "b)(c 9", long+" 10", "late 999999999999")
	f := planted(t, "lib.a="+lib, "d/", "d/l="+lib, "text=no archive", "nought=", "bare="+archive(t), "cut="+lib[:len(lib)-1], "more="+lib+"\n", "lib.a.b(c="+lib)
	for name, want := range map[string]int{
		"lib.a(x.o)": 77, "lib.a(y.o)": 5, "lib.a(()": 6, "lib.a())": 7, "lib.a(b(c)": 8, "lib.a(b)(c)": 9, "lib.a(" + long + ")": 10, "lib.a(late)": 999999999999,
		"d/l(x.o)": 77, "./lib.a(x.o)": 77, "d/../lib.a(y.o)": 5, "/lib.a(x.o)": 77, "../d//l(x.o)": 77, "lib.a/(x.o)": 77, "text": 4, "lib.a": 1,
	} {
		wantTime(t, f, name, want, true)
	}
	for _, name := range []string{
		"lib.a(z.o)", "lib.a()", "lib.a(x)", "lib.a(X.O)", "lib.a( x.o)", "lib.a(x.o )", "lib.a(./x.o)", "lib.a(d/x.o)", "lib.a(x.o/)", "lib.a(" + long[1:] + ")", "lib.a(//)",
		"no.a(x.o)", "d(x.o)", "d(l)", "text(x.o)", "nought(x.o)", "bare(x.o)", "bare()", "nought()", "cut(x.o)", "more(x.o)", "d/no(x.o)", "text/l(x.o)", "none/l(x.o)", "/(x.o)", ".(x.o)", "..(x.o)", "\n(x.o)",
		"(x.o)", "lib.a(x.o", "lib.ax.o)", "lib.a(x.o) ", "lib.a(x.o)\n", "(lib.a(x.o)", "lib.a.b(c(x.o)", strings.Repeat("l", api.MaxName+1) + "(x.o)",
	} {
		wantTime(t, f, name, 0, false)
	}
}

// Names that stand for a member, and for a file besides.
func TestP2002FilesNamedLikeMembers(t *testing.T) {
	lib := archive(t, "x.o 77")
	f := planted(t, "lib.a="+lib, "lib.a(x.o)", "lib.a(y.o)", "no.a(x.o)", "text", "text(x.o)", "dir/", "dir(x.o)", "made(d)/", "a()", "odd(x/y)", "lib.a(x.o)(z)")
	wantTime(t, f, "lib.a(x.o)", 77, true)
	wantTime(t, f, "lib.a(y.o)", 3, true)
	wantTime(t, f, "no.a(x.o)", 4, true)
	wantTime(t, f, "text(x.o)", 6, true)
	wantTime(t, f, "dir(x.o)", 8, true)
	wantTime(t, f, "made(d)", 9, true)
	wantTime(t, f, "a()", 10, true)
	wantTime(t, f, "odd(x/y)", 11, true)
	wantTime(t, f, "lib.a(x.o)(z)", 12, true)
	wantTime(t, f, "./no.a(x.o)", 4, true)
	wantTime(t, f, "no.a(y.o)", 0, false)
	wantFound(t, api.Base{}, "dir", f, "no.a(x.o)", "no.a(x.o)", true)
}

func TestP2003WhatIsThere(t *testing.T) {
	f := planted(t, "x.c", "src/x.c", "d/", "src/d/", "lib.a="+archive(t, "m 5"), "src/e/z")
	b := paths("%=src", "x.c=src")
	for _, name := range []string{"x.c", "d", "lib.a(m)", "./x.c", "src/../x.c", "/x.c", "d/", "", ".", "/", "..", "src/x.c", "src//x.c"} {
		wantFound(t, b, "src", f, name, name, true)
		wantFound(t, api.Base{}, "", f, name, name, true)
	}
	wantFound(t, api.Base{}, "", f, "x.h", "x.h", false)
	wantFound(t, api.Base{}, "", f, "src/x.h", "src/x.h", false)
	wantFound(t, b, "src", f, ".//none", ".//none", false)
}

func TestP2003Pairs(t *testing.T) {
	f := planted(t, "src/x.c", "src/x.h", "lib/x.c", "lib/x.h", "inc/x.h", "inc/only")
	for _, x := range []struct {
		b          api.Base
		name, want string
	}{
		{paths("%.c=src"), "x.c", "src/x.c"}, {paths("%.c=lib"), "x.c", "lib/x.c"}, {paths("%.c=src lib"), "x.c", "src/x.c"}, {paths("%.c=lib src"), "x.c", "lib/x.c"},
		{paths("%.c=lib", "%.c=src"), "x.c", "lib/x.c"}, {paths("%.c=none", "%.c=src"), "x.c", "src/x.c"}, {paths("%.h=lib", "%=src"), "x.c", "src/x.c"}, {paths("x%=lib", "%.c=src"), "x.c", "lib/x.c"},
		{paths("%=none src lib"), "x.h", "src/x.h"}, {paths("%=inc"), "x.h", "inc/x.h"}, {paths("%=\t inc \n"), "only", "inc/only"}, {paths("%= none\tinc\nsrc "), "x.h", "inc/x.h"},
		{paths("x.c=src"), "x.c", "src/x.c"}, {paths("x=lib", "x.c=src"), "x.c", "src/x.c"}, {paths("%.c=src/"), "x.c", "src/x.c"}, {paths("%.c=./src"), "x.c", "src/x.c"}, {paths("%.c=/src"), "x.c", "src/x.c"},
		{paths("%.c=src/../lib"), "x.c", "lib/x.c"}, {paths("%.c=../lib//"), "x.c", "lib/x.c"}, {paths("%=src/x.c/..  lib"), "x.h", "src/x.h"},
		{paths("src/%.c=."), "src/x.c", "src/x.c"},
	} {
		wantFound(t, x.b, "", f, x.name, x.want, true)
	}
	for _, x := range []struct {
		b    api.Base
		name string
	}{
		{paths("%.h=src"), "x.c"}, {paths("%.c="), "x.c"}, {paths("%.c= \t\n"), "x.c"}, {paths("%.c=none"), "x.c"}, {paths("=src"), "x.c"}, {paths("x=src"), "x.c"}, {paths("*.c=src"), "x.c"}, {paths("X.c=src"), "x.c"},
		{paths("%.c=src:lib"), "x.c"}, {paths("%.c=:src"), "x.c"}, {paths("%.c=src/x.c"), "x.c"}, {paths("%%.c=src"), "x.c"}, {paths("src/%.c=src"), "x.c"}, {paths("%.c=src"), "x.c "}, {paths("%=src"), "x.d"}, {paths("%.c=src"), "x.c/y"},
	} {
		wantFound(t, x.b, "", f, x.name, x.name, false)
	}
}

func TestP2003Dirs(t *testing.T) {
	f := planted(t, "src/x.c", "lib/x.c", "lib/y", "src/d/", "a:b/z")
	for _, x := range []struct{ dirs, name, want string }{
		{"src", "x.c", "src/x.c"}, {"src lib", "x.c", "src/x.c"}, {"lib src", "x.c", "lib/x.c"}, {"lib:src", "x.c", "lib/x.c"}, {":src", "x.c", "src/x.c"}, {"src:", "x.c", "src/x.c"}, {"none::src", "x.c", "src/x.c"},
		{"none:src:lib", "y", "lib/y"}, {"  none \t: lib\n", "y", "lib/y"}, {":::lib:::", "y", "lib/y"}, {"src", "d", "src/d"}, {"a src", "x.c", "src/x.c"}, {"/lib", "y", "lib/y"}, {"lib/", "y", "lib/y"}, {"./lib", "y", "lib/y"}, {"..:../lib", "y", "lib/y"},
	} {
		wantFound(t, api.Base{}, x.dirs, f, x.name, x.want, true)
	}
	for _, x := range []struct{ dirs, name string }{{"", "x.c"}, {" ", "x.c"}, {":", "x.c"}, {"none", "x.c"}, {"src", "y"}, {"srclib", "x.c"}, {"src;lib", "x.c"}, {"a:b", "z"}, {"src,lib", "y"}, {"%", "x.c"}, {"*", "x.c"}, {"src/x.c", "x.c"}} {
		wantFound(t, api.Base{}, x.dirs, f, x.name, x.name, false)
	}
	many := strings.Repeat("none:", api.MaxText) + "lib"
	wantFound(t, api.Base{}, many, f, "y", "lib/y", true)
}

// The pairs come ahead of dirs, and what is there ahead of both.
func TestP2003Order(t *testing.T) {
	f := planted(t, "here", "one/here", "two/here", "one/a", "two/a", "two/b", "three/a", "three/b", "three/c")
	b := paths("%=one", "b=none three", "c%=two")
	for name, want := range map[string]string{"here": "here", "a": "one/a", "b": "three/b", "c": "three/c"} {
		wantFound(t, b, "two three", f, name, want, true)
	}
	wantFound(t, b, "two", f, "b", "three/b", true)
	wantFound(t, b, "two", f, "c", "c", false)
	wantFound(t, paths("%=two"), "one", f, "a", "two/a", true)
	wantFound(t, paths("%.x=two"), "one", f, "a", "one/a", true)
}

func TestP2003Names(t *testing.T) {
	f := planted(t, "s/x", "s/d/x", "s/d/y", "t/d/x", "x/", "q")
	for _, x := range []struct{ dirs, name, want string }{
		{"s", "d/x", "s/d/x"}, {"t s", "d/x", "t/d/x"}, {"t s", "d/y", "s/d/y"}, {"s", "./d/x", "s/d/x"}, {"s", "d//y", "s/d/y"}, {"s", "/d/x", "s/d/x"}, {"s", "d/../d/y", "s/d/y"}, {"s/d", "../d/x", "s/d/x"},
		{"s/none", "../d/y", "s/d/y"}, {"s/d", "y", "s/d/y"}, {"none", "../s/d", "../s/d"}, {"none", "d/../../q", "d/../../q"}, {"t/none", "../none/../d", "t/d"},
		{"s", "d/", "s/d"}, {"s .", "d/./y", "s/d/y"},
	} {
		wantFound(t, api.Base{}, x.dirs, f, x.name, x.want, true)
		wantFound(t, paths("%="+x.dirs), "", f, x.name, x.want, true)
	}
	for _, x := range []struct{ dirs, name string }{{"s", "d/none"}, {"s", "none/x"}, {"q", "d"}, {"t", "../none/../d"}, {"s t", "x/x"}, {"s", "y\n"}, {"s", strings.Repeat("n", api.MaxPath)}, {"s", "\x00"}, {strings.Repeat("s/", api.MaxPath), "y"}} {
		wantFound(t, api.Base{}, x.dirs, f, x.name, x.name, false)
	}
	// What leads above the root stays in it, so that the root is found.
	wantFound(t, api.Base{}, "s/d", f, "none/..", "none/..", true)
}

func TestP2003MembersAreLookedForByThemselvesAlone(t *testing.T) {
	lib := archive(t, "m 5")
	f := planted(t, "s/lib.a="+lib, "s/x(y)", "s/(y)", "s/x(y", "s/xy)", "s/(a(b)", "s/x()", "lib.b="+lib, "w(/v)")
	for _, name := range []string{"lib.a(m)", "x(y)", "x()", "lib.b(n)"} {
		wantFound(t, paths("%=s", name+"=s"), "s", f, name, name, false)
	}
	for _, name := range []string{"(y)", "x(y", "xy)", "(a(b)"} {
		wantFound(t, paths("%=s"), "", f, name, "s/"+name, true)
		wantFound(t, api.Base{}, "s", f, name, "s/"+name, true)
	}
	wantFound(t, paths("%=s"), "s", f, "s/lib.a(m)", "s/lib.a(m)", true)
	wantFound(t, paths("%=s"), "s", f, "lib.b(m)", "lib.b(m)", true)
	// Behind a word a name may come to be a member's: what Time knows of that is found.
	wantFound(t, api.Base{}, "lib.b", f, "(m)", "lib.b/(m)", true)
	wantFound(t, api.Base{}, "lib.b", f, "(n)", "(n)", false)
	wantFound(t, api.Base{}, "w(", f, "v)", "w(/v)", true)
}

func TestNoFileSystem(t *testing.T) {
	wantTime(t, nil, "x", 0, false)
	wantTime(t, nil, "a(b)", 0, false)
	wantTime(t, nil, "", 0, true)
	wantFound(t, paths("%=s"), "t", nil, "x", "x", false)
	wantFound(t, paths("%=s"), "t", &vfs.FS{}, "x", "x", false)
}

// told writes a file system and a base out.
func told(f *vfs.FS, b api.Base) string { return fmt.Sprintf("%q %+v", fmt.Sprint(f.Tree()), b) }

func TestP2004NothingIsChanged(t *testing.T) {
	f := planted(t, "s/x.c", "lib.a="+archive(t, "m 5"), "y")
	pairs := make([]api.Pair, 3, 9)
	copy(pairs, paths("%.c=none s", "%=t", "y=s").Paths)
	b := api.Base{Paths: pairs, Goal: "g", Files: []string{"m"}}
	before := told(f, b)
	for _, name := range []string{"x.c", "y", "none", "lib.a(m)", "lib.a(n)", "no.a(m)", ""} {
		Find(b, "s:t", f, name)
		Time(f, name)
		Split(name)
	}
	if got := told(f, b); got != before {
		t.Errorf("what was handed in is %s, not %s", got, before)
	}
	if spare := pairs[:9]; spare[3] != (api.Pair{}) || spare[8] != (api.Pair{}) {
		t.Errorf("the spare room is %q", spare[3:])
	}
}

// written is a text whose bytes can be written over.
func written(s string) (string, []byte) {
	b := []byte(s)
	return unsafe.String(unsafe.SliceData(b), len(b)), b
}

func TestP2004WhatIsAnsweredIsNewMemory(t *testing.T) {
	f := planted(t, "s/x.c", "y", "lib.a="+archive(t, "m 5"))
	for _, x := range []struct{ value, dirs, name, want string }{{"s", "", "x.c", "s/x.c"}, {"none", "s", "x.c", "s/x.c"}, {"s", "s", "y", "y"}, {"s", "s", "lib.a(m)", "lib.a(m)"}, {"s", "s", "none", "none"}, {".", "", "/y", "/y"}, {"s/x.c", "", "./", "./"}} {
		value, valueBytes := written(x.value)
		dirs, dirsBytes := written(x.dirs)
		name, nameBytes := written(x.name)
		pattern, patternBytes := written("%")
		got, _ := Find(api.Base{Paths: []api.Pair{{Name: pattern, Value: value}}}, dirs, f, name)
		for _, b := range [][]byte{valueBytes, dirsBytes, nameBytes, patternBytes} {
			copy(b, bytes.Repeat([]byte("!"), len(b)))
		}
		if got != x.want {
			t.Errorf("Find of %q shares memory with what was handed in: %q", x.name, got)
		}
	}
	name, nameBytes := written("lib(m)")
	a, m, _ := Split(name)
	copy(nameBytes, "!!!!!!")
	if a != "lib" || m != "m" {
		t.Errorf("Split shares memory with the name: %q, %q", a, m)
	}
}

// What is answered hangs on what is there when it is asked: nothing is kept from one call to the next.
func TestP2004NothingIsKept(t *testing.T) {
	f := planted(t, "s/x")
	wantFound(t, paths("%=s"), "", f, "x", "s/x", true)
	wantFound(t, api.Base{}, "", f, "x", "x", false)
	f.Write("x", []byte(archive(t, "m 5")), false)
	wantFound(t, paths("%=s"), "", f, "x", "x", true)
	wantTime(t, f, "x", 1001, true)
	wantTime(t, f, "x(m)", 5, true)
	f.Write("x", []byte(archive(t, "m 6")), false)
	wantTime(t, f, "x(m)", 6, true)
	f.Remove("x")
	wantTime(t, f, "x(m)", 0, false)
	wantTime(t, f, "x", 0, false)
	f.Remove("s/x")
	wantFound(t, paths("%=s"), "", f, "x", "x", false)
}

func TestP2004TheSameSideBySide(t *testing.T) {
	f := planted(t, "s/x.c", "t/x.h", "lib.a="+archive(t, "m 5"))
	b := paths("%.c=none s", "%=none")
	var all sync.WaitGroup
	for range 8 {
		all.Go(func() {
			for range 50 {
				wantFound(t, b, "t", f, "x.c", "s/x.c", true)
				wantFound(t, b, "t", f, "x.h", "t/x.h", true)
				wantTime(t, f, "lib.a(m)", 5, true)
			}
		})
	}
	all.Wait()
}

// Within the package an error says of which name there was nothing.
func TestWhatIsNotThereIsAWrappedError(t *testing.T) {
	f := planted(t, "lib.a="+archive(t, "m 5"))
	for name, want := range map[string]string{"x": "x: not there", "lib.a(n)": "lib.a(n): lib.a: not there", "(n)": "(n): not there"} {
		if _, err := changed(f, name); !errors.Is(err, errAbsent) || err.Error() != want {
			t.Errorf("of %q: %v", name, err)
		}
	}
	if _, err := found(f, "x", places(paths("%=s"), "t", "x")); !errors.Is(err, errAbsent) || err.Error() != "x: not there" {
		t.Errorf("found: %v", err)
	}
	if _, err := changed(f, "lib.a(m)"); err != nil {
		t.Errorf("of what is there: %v", err)
	}
}
