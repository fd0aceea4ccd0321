package vfs

import (
	"bytes"
	"errors"
	"fmt"
	"reflect"
	"runtime"
	"slices"
	"strings"
	"testing"
	"unsafe"

	"anvil/api"
	"anvil/path"
)

func file(p string, time int, data string) api.Node {
	return api.Node{Path: p, Time: time, Data: []byte(data)}
}

func dir(p string, time int) api.Node { return api.Node{Path: p, Dir: true, Time: time} }

// small is the tree of the chapter's example: its weight is 4.
func small() api.Tree {
	return api.Tree{Nodes: []api.Node{dir("d", 1), file("d/x", 2, "hi")}, Clock: 5, Room: 10}
}

func made(t *testing.T, tree api.Tree) *FS {
	t.Helper()
	f, e := New(tree)
	if e != api.OK || f == nil {
		t.Fatalf("New: %d", e)
	}
	return f
}

// told writes a tree out, so that nil and empty lists are the same.
func told(tree api.Tree) string {
	var b strings.Builder
	fmt.Fprintf(&b, "%d %d", tree.Clock, tree.Room)
	for _, n := range tree.Nodes {
		fmt.Fprintf(&b, " | %q %v %d %q", n.Path, n.Dir, n.Time, n.Data)
	}
	return b.String()
}

func wantTree(t *testing.T, what string, f *FS, want api.Tree) {
	t.Helper()
	if got := told(f.Tree()); got != told(want) {
		t.Errorf("%s: the tree is %s, not %s", what, got, told(want))
	}
}

// refused asks that a call has answered e and has left the tree as it was.
func refused(t *testing.T, what string, f *FS, call func() api.Errno, e api.Errno) {
	t.Helper()
	before := f.Tree()
	if got := call(); got != e {
		t.Errorf("%s: %d, not %d", what, got, e)
	}
	wantTree(t, what, f, before)
}

// many is a tree of n empty files.
func many(n int) api.Tree {
	tree := api.Tree{Clock: 3, Room: api.MaxRoom}
	for i := range n {
		tree.Nodes = append(tree.Nodes, file(fmt.Sprintf("f%05d", i), i%4, ""))
	}
	return tree
}

func TestP501New(t *testing.T) {
	name := strings.Repeat("n", api.MaxName)
	full := strings.Repeat("x", api.MaxText)
	for _, x := range []struct {
		what  string
		nodes []api.Node
		clock int
		room  int
		e     api.Errno
	}{
		{"nothing at all", nil, 0, 0, api.OK},
		{"no nodes, the greatest clock and room", nil, 1 << 40, api.MaxRoom, api.OK},
		{"a clock below 0", nil, -1, 0, api.ErrArg},
		{"a clock above its bound", nil, 1<<40 + 1, 0, api.ErrArg},
		{"a room below 0", nil, 0, -1, api.ErrArg},
		{"a room above its bound", nil, 0, api.MaxRoom + 1, api.ErrArg},
		{"the least clock of all", nil, -1 << 63, 0, api.ErrArg},
		{"the greatest room of all", nil, 0, 1<<63 - 1, api.ErrArg},
		{"an empty file", []api.Node{file("a", 0, "")}, 0, 1, api.OK},
		{"an empty file without room", []api.Node{file("a", 0, "")}, 0, 0, api.ErrSpace},
		{"a directory without room", []api.Node{dir("a", 0)}, 0, 0, api.ErrSpace},
		{"a weight of just the room", []api.Node{dir("d", 1), file("d/x", 2, "hi")}, 5, 4, api.OK},
		{"a weight of one more", []api.Node{dir("d", 1), file("d/x", 2, "hi")}, 5, 3, api.ErrSpace},
		{"a full file", []api.Node{file("a", 0, full)}, 0, api.MaxText + 1, api.OK},
		{"a full file and one byte less of room", []api.Node{file("a", 0, full)}, 0, api.MaxText, api.ErrSpace},
		{"a file of one byte too many", []api.Node{file("a", 0, full+"x")}, 0, api.MaxRoom, api.ErrLong},
		{"a long file behind a wrong path", []api.Node{file("a/", 9, ""), file("b", 0, full+"x")}, -1, 0, api.ErrLong},
		{"a wrong clock ahead of no room", []api.Node{file("a", 0, "")}, -1, 0, api.ErrArg},
		{"a wrong path ahead of no room", []api.Node{file("a", 0, "xx"), file("b/", 0, "")}, 0, 1, api.ErrArg},
		{"a directory with data", []api.Node{{Path: "d", Dir: true, Data: []byte("x")}}, 0, 9, api.ErrArg},
		{"a directory with an empty list", []api.Node{{Path: "d", Dir: true, Data: []byte{}}}, 0, 9, api.OK},
		{"a directory with much data is no file", []api.Node{{Path: "d", Dir: true, Data: []byte(full + "x")}}, 0, 9, api.ErrArg},
		{"a time of just the clock", []api.Node{file("a", 7, "")}, 7, 9, api.OK},
		{"a time above the clock", []api.Node{file("a", 8, "")}, 7, 9, api.ErrArg},
		{"a directory's time above the clock", []api.Node{dir("a", 8)}, 7, 9, api.ErrArg},
		{"a time below 0", []api.Node{file("a", -1, "")}, 7, 9, api.ErrArg},
		{"a time above the clock at the end", []api.Node{file("a", 1, ""), file("b", 8, "")}, 7, 9, api.ErrArg},
		{"the root", []api.Node{dir("", 0)}, 0, 9, api.ErrArg},
		{"the root behind another", []api.Node{dir("a", 0), dir("", 0)}, 0, 9, api.ErrArg},
		{"a file at the root", []api.Node{file("", 0, "")}, 0, 9, api.ErrArg},
		{"twice the same path", []api.Node{file("a", 0, ""), file("a", 0, "")}, 0, 9, api.ErrArg},
		{"a falling path", []api.Node{file("b", 0, ""), file("a", 0, "")}, 0, 9, api.ErrArg},
		{"a falling path behind rising ones", []api.Node{file("a", 0, ""), file("c", 0, ""), file("b", 0, "")}, 0, 9, api.ErrArg},
		{"a parent behind its child", []api.Node{file("a/b", 0, ""), dir("a", 0)}, 0, 9, api.ErrArg},
		{"rising by bytes", []api.Node{file("B", 0, ""), dir("a", 0), file("a-b", 0, ""), file("a/b", 0, ""), file("a0", 0, ""), file("\xff", 0, "")}, 0, 9, api.OK},
		{"rising by names, not by bytes", []api.Node{dir("a", 0), file("a/b", 0, ""), file("a-b", 0, "")}, 0, 9, api.ErrArg},
		{"a missing parent", []api.Node{file("a/b", 0, "")}, 0, 9, api.ErrArg},
		{"a missing parent within a directory", []api.Node{dir("a", 0), file("a/b/c", 0, "")}, 0, 9, api.ErrArg},
		{"a parent that is a file", []api.Node{file("a", 0, ""), file("a/b", 0, "")}, 0, 9, api.ErrArg},
		{"a directory within a file", []api.Node{file("a", 0, ""), dir("a/b", 0)}, 0, 9, api.ErrArg},
		{"directories within one another", []api.Node{dir("a", 0), dir("a/b", 0), dir("a/b/c", 0), file("a/b/c/d", 0, "")}, 0, 9, api.OK},
		{"a slash at the end", []api.Node{file("a/", 0, "")}, 0, 9, api.ErrArg},
		{"a slash at the beginning", []api.Node{file("/a", 0, "")}, 0, 9, api.ErrArg},
		{"two slashes", []api.Node{dir("a", 0), file("a//b", 0, "")}, 0, 9, api.ErrArg},
		{"a dot", []api.Node{dir(".", 0)}, 0, 9, api.ErrArg},
		{"two dots", []api.Node{dir("a", 0), file("a/../b", 0, "")}, 0, 9, api.ErrArg},
		{"a byte 10", []api.Node{file("a\nb", 0, "")}, 0, 9, api.ErrArg},
		{"a byte 0", []api.Node{file("a\x00b", 0, "")}, 0, 9, api.ErrArg},
		{"a long name", []api.Node{file(name, 0, "")}, 0, 9, api.OK},
		{"a name too long", []api.Node{file(name+"n", 0, "")}, 0, 9, api.ErrArg},
		{"many nodes", many(api.MaxNodes).Nodes, 3, api.MaxNodes, api.OK},
		{"many nodes, one byte less of room", many(api.MaxNodes).Nodes, 3, api.MaxNodes - 1, api.ErrSpace},
		{"too many nodes", many(api.MaxNodes + 1).Nodes, 3, api.MaxRoom, api.ErrLong},
		{"too many nodes that can't be", make([]api.Node, api.MaxNodes+1), -1, -1, api.ErrLong},
	} {
		tree := api.Tree{Nodes: x.nodes, Clock: x.clock, Room: x.room}
		f, e := New(tree)
		if e != x.e || (f == nil) != (e != api.OK) {
			t.Errorf("%s: %d, not %d", x.what, e, x.e)
		}
		if e == api.OK {
			wantTree(t, x.what, f, tree)
			wantTree(t, x.what+", a twin", f.Twin(), tree)
		}
	}
}

// A clock that has gone beyond the bound of New goes on all the same.
func TestP501TwinBeyondTheBound(t *testing.T) {
	f := made(t, api.Tree{Clock: 1 << 40, Room: 1})
	if e := f.Touch("a"); e != api.OK {
		t.Fatalf("Touch: %d", e)
	}
	want := api.Tree{Nodes: []api.Node{file("a", 1<<40+1, "")}, Clock: 1<<40 + 1, Room: 1}
	wantTree(t, "the file system", f, want)
	g := f.Twin()
	wantTree(t, "its twin", g, want)
	if e := g.Write("b", nil, false); e != api.ErrSpace {
		t.Errorf("a twin has the same room: %d", e)
	}
}

func TestP501TreeRises(t *testing.T) {
	f := made(t, api.Tree{Room: 99})
	for _, p := range []string{"b", "a", "\xff", "a0", "a-b", "Z"} {
		f.Mkdir(p)
	}
	f.Write("a/z", []byte("z"), false)
	f.Write("a/Y", nil, false)
	var l []string
	for _, n := range f.Tree().Nodes {
		l = append(l, n.Path)
	}
	if want := []string{"Z", "a", "a-b", "a/Y", "a/z", "a0", "b", "\xff"}; !slices.Equal(l, want) {
		t.Errorf("the paths: %q, not %q", l, want)
	}
}

// tall has directories, files and files where directories would have to be.
func tall() api.Tree {
	return api.Tree{Nodes: []api.Node{dir("d", 1), file("d-", 5, ""), dir("d/e", 2), file("d/e/y", 3, "12345"), file("d/x", 4, "hi"), file("f", 0, "f"), dir("g", 7)}, Clock: 7, Room: 100}
}

// ways are paths with the error of looking for them; OK of those that are there, and -1 where there is nothing.
func ways() map[string]api.Errno {
	name := strings.Repeat("n", api.MaxName)
	long := strings.Repeat("n/", api.MaxPath/2)
	return map[string]api.Errno{
		"": api.OK, "/": api.OK, ".": api.OK, "..": api.OK, "d/..": api.OK, "no/..": api.OK, "a\n/..": api.OK,
		"d": api.OK, "d/": api.OK, "./d//e/../x": api.OK, "/f": api.OK, "../../d/e/y": api.OK, "f/../g": api.OK, "d-": api.OK,
		"no": -1, "d/no": -1, "d/e/no": -1, "no/": -1, name: -1, "d/" + name: -1, "\xff": -1, "d/X": -1, "D": -1,
		"no/x": api.ErrNone, "d/no/x": api.ErrNone, "no/x/y": api.ErrNone, "d/no/x/y/z": api.ErrNone, name + "/x": api.ErrNone,
		"f/x": api.ErrNotDir, "d/x/y": api.ErrNotDir, "d/e/y/z": api.ErrNotDir, "f/no/x": api.ErrNotDir, "d/x/y/z": api.ErrNotDir, "d-/x": api.ErrNotDir,
		"a\nb": api.ErrPath, "\x00": api.ErrPath, "no/a\nb": api.ErrPath, "f/a\x00": api.ErrPath, "a\n/no/x": api.ErrPath,
		name + "n": api.ErrPath, "f/" + name + "n": api.ErrPath, "no/" + name + "n/x": api.ErrPath,
		long + "n": api.ErrPath, long[:api.MaxPath-1]: api.ErrNone, "f/" + long: api.ErrPath, "f/" + long[:api.MaxPath-3]: api.ErrNotDir,
		strings.Repeat("./", api.MaxPath) + "f": api.OK, strings.Repeat("x/../", api.MaxPath) + "f/x": api.ErrNotDir,
	}
}

func TestP502LookingFor(t *testing.T) {
	f := made(t, tall())
	for p, want := range ways() {
		st := f.Stat(p)
		if (st.Kind != 0) != (want == api.OK) || st.Kind == 0 && st != (api.Stat{}) {
			t.Errorf("Stat(%.30q): %v", p, st)
		}
		if want == -1 {
			want = api.ErrNone
		}
		wantRead, wantList := want, want
		switch st.Kind {
		case 1:
			wantList = api.ErrNotDir
		case 2:
			wantRead = api.ErrIsDir
		}
		if b, e := f.Read(p); e != wantRead || e != api.OK && b != nil {
			t.Errorf("Read(%.30q): %q, %d, not %d", p, b, e, wantRead)
		}
		if l, e := f.List(p); e != wantList || e != api.OK && l != nil {
			t.Errorf("List(%.30q): %q, %d, not %d", p, l, e, wantList)
		}
	}
	wantTree(t, "asked alone", f, tall())
}

func TestP502Stat(t *testing.T) {
	f := made(t, tall())
	for p, want := range map[string]api.Stat{
		"": {Kind: 2}, "/": {Kind: 2}, "d": {Kind: 2, Time: 1}, "d/e": {Kind: 2, Time: 2}, "g": {Kind: 2, Time: 7},
		"d/e/y": {Kind: 1, Time: 3, Size: 5}, "d/x": {Kind: 1, Time: 4, Size: 2}, "d-": {Kind: 1, Time: 5}, "f": {Kind: 1, Size: 1},
		"no": {}, "f/x": {}, "no/x": {}, "f\n": {}, "./g/../d//x/": {Kind: 1, Time: 4, Size: 2},
	} {
		if got := f.Stat(p); got != want {
			t.Errorf("Stat(%q): %v, not %v", p, got, want)
		}
	}
}

func TestP502Read(t *testing.T) {
	every := make([]byte, 256)
	for i := range every {
		every[i] = byte(i)
	}
	f := made(t, api.Tree{Nodes: []api.Node{file("all", 0, string(every)), file("none", 0, "")}, Room: 300})
	for p, want := range map[string][]byte{"all": every, "none": nil, "./all/": every} {
		if got, e := f.Read(p); e != api.OK || !bytes.Equal(got, want) {
			t.Errorf("Read(%q): %q, %d", p, got, e)
		}
	}
}

func TestP502List(t *testing.T) {
	f := made(t, tall())
	for p, want := range map[string][]string{"": {"d", "d-", "f", "g"}, "d": {"e", "x"}, "d/e": {"y"}, "g": nil, "d/e/..": {"e", "x"}} {
		if got, e := f.List(p); e != api.OK || !slices.Equal(got, want) {
			t.Errorf("List(%q): %q, %d, not %q", p, got, e, want)
		}
	}
	names := []string{"b", "A", "\xff", "a-", "a", "a0", " ", "é"}
	for _, n := range names {
		if e := f.Write("g/"+n, nil, false); e != api.OK {
			t.Fatalf("Write: %d", e)
		}
	}
	f.Mkdir("g/a.d")
	f.Touch("g/a.d/deep")
	want := []string{" ", "A", "a", "a-", "a.d", "a0", "b", "é", "\xff"}
	if got, e := f.List("g"); e != api.OK || !slices.Equal(got, want) {
		t.Errorf("List: %q, %d, not %q", got, e, want)
	}
}

func TestP503Write(t *testing.T) {
	f := made(t, small())
	for i, x := range []struct {
		p, b string
		add  bool
		e    api.Errno
		want string
	}{
		{"d/x", "!", true, api.OK, "hi!"},
		{"d/x", "", true, api.OK, "hi!"},
		{"./d//x", "a", false, api.OK, "a"},
		{"d/x", "", false, api.OK, ""},
		{"d/x", "again", true, api.OK, "again"},
		{"new", "n", false, api.OK, "n"},
		{"new", "o", true, api.OK, "no"},
		{"new", "o", true, api.ErrSpace, "no"},
		{"d/x", "", false, api.OK, ""},
		{"/d/z", "z", true, api.OK, "z"},
	} {
		before := f.Tree().Clock
		if e := f.Write(x.p, []byte(x.b), x.add); e != x.e {
			t.Errorf("%d: Write(%q): %d, not %d", i, x.p, e, x.e)
		}
		if x.e == api.OK {
			before++
			if got := f.Stat(x.p); got != (api.Stat{Kind: 1, Time: before, Size: len(x.want)}) {
				t.Errorf("%d: Stat(%q): %v", i, x.p, got)
			}
		}
		if b, e := f.Read(x.p); string(b) != x.want || e != api.OK {
			t.Errorf("%d: Read(%q): %q, %d, not %q", i, x.p, b, e, x.want)
		}
		if got := f.Tree().Clock; got != before {
			t.Errorf("%d: the clock is %d, not %d", i, got, before)
		}
	}
	wantTree(t, "behind all", f, api.Tree{Nodes: []api.Node{dir("d", 1), file("d/x", 13, ""), file("d/z", 14, "z"), file("new", 12, "no")}, Clock: 14, Room: 10})
}

func TestP503WriteIsRefused(t *testing.T) {
	f := made(t, tall())
	for p, want := range ways() {
		if want == api.OK && f.Stat(p).Kind == 2 {
			want = api.ErrIsDir
		}
		if want == api.OK || want == -1 {
			continue
		}
		for _, add := range []bool{false, true} {
			for _, b := range [][]byte{nil, []byte("x"), make([]byte, api.MaxText+1)} {
				refused(t, fmt.Sprintf("Write(%.30q)", p), f, func() api.Errno { return f.Write(p, b, add) }, want)
			}
		}
	}
}

func TestP503Lengths(t *testing.T) {
	f := made(t, api.Tree{Room: api.MaxRoom})
	full := bytes.Repeat([]byte("x"), api.MaxText)
	if e := f.Write("a", full, false); e != api.OK {
		t.Errorf("just MaxText bytes: %d", e)
	}
	refused(t, "one byte behind", f, func() api.Errno { return f.Write("a", []byte("x"), true) }, api.ErrLong)
	refused(t, "one byte more", f, func() api.Errno { return f.Write("b", make([]byte, api.MaxText+1), false) }, api.ErrLong)
	refused(t, "one byte more, added to nothing", f, func() api.Errno { return f.Write("b", make([]byte, api.MaxText+1), true) }, api.ErrLong)
	if e := f.Write("a", nil, true); e != api.OK {
		t.Errorf("nothing behind a full file: %d", e)
	}
	if e := f.Write("a", full, false); e != api.OK {
		t.Errorf("a full file anew: %d", e)
	}
	if e := f.Write("a", []byte("y"), false); e != api.OK {
		t.Errorf("a full file, written shorter: %d", e)
	}
	if e := f.Write("a", full[1:], true); e != api.OK || f.Stat("a").Size != api.MaxText {
		t.Errorf("up to MaxText bytes: %d", e)
	}
	g := made(t, api.Tree{Room: 3})
	refused(t, "too long comes ahead of no room", g, func() api.Errno { return g.Write("b", make([]byte, api.MaxText+1), false) }, api.ErrLong)
}

func TestP503Room(t *testing.T) {
	f := made(t, api.Tree{Room: 5})
	refused(t, "one byte more than the room", f, func() api.Errno { return f.Write("a", []byte("12345"), false) }, api.ErrSpace)
	if e := f.Write("a", []byte("1234"), false); e != api.OK {
		t.Errorf("a weight of just the room: %d", e)
	}
	refused(t, "one byte behind", f, func() api.Errno { return f.Write("a", []byte("5"), true) }, api.ErrSpace)
	refused(t, "a longer one", f, func() api.Errno { return f.Write("a", []byte("12345"), false) }, api.ErrSpace)
	refused(t, "another file", f, func() api.Errno { return f.Write("b", nil, false) }, api.ErrSpace)
	refused(t, "a directory", f, func() api.Errno { return f.Mkdir("b") }, api.ErrSpace)
	refused(t, "a touched one", f, func() api.Errno { return f.Touch("b") }, api.ErrSpace)
	for i, call := range []func() api.Errno{
		func() api.Errno { return f.Write("a", []byte("abcd"), false) },
		func() api.Errno { return f.Touch("a") },
		func() api.Errno { return f.Write("a", []byte("12"), false) },
		func() api.Errno { return f.Write("b", []byte("1"), false) },
		func() api.Errno { return f.Remove("a") },
		func() api.Errno { return f.Write("b", []byte("23"), true) },
		func() api.Errno { return f.Touch("c") },
		func() api.Errno { return f.Rename("c", "b") },
		func() api.Errno { return f.Mkdir("d") },
		func() api.Errno { return f.Write("b", []byte("123"), false) },
		func() api.Errno { return f.Remove("d") },
		func() api.Errno { return f.Write("b", []byte("4"), true) },
	} {
		if e := call(); e != api.OK {
			t.Errorf("room comes back: %d: %d", i, e)
		}
	}
	refused(t, "all is taken again", f, func() api.Errno { return f.Touch("a") }, api.ErrSpace)
	wantTree(t, "behind all", f, api.Tree{Nodes: []api.Node{file("b", 13, "1234")}, Clock: 13, Room: 5})
}

// The number of nodes is bound whatever the room is; the root doesn't count.
func TestP503Nodes(t *testing.T) {
	f := made(t, many(api.MaxNodes-1))
	if e := f.Mkdir("d"); e != api.OK {
		t.Errorf("the last node: %d", e)
	}
	refused(t, "Write", f, func() api.Errno { return f.Write("d/x", nil, false) }, api.ErrSpace)
	refused(t, "Write with add", f, func() api.Errno { return f.Write("x", []byte("x"), true) }, api.ErrSpace)
	refused(t, "Write, too long", f, func() api.Errno { return f.Write("x", make([]byte, api.MaxText+1), true) }, api.ErrLong)
	refused(t, "Mkdir", f, func() api.Errno { return f.Mkdir("e") }, api.ErrSpace)
	refused(t, "Touch", f, func() api.Errno { return f.Touch("e") }, api.ErrSpace)
	for i, e := range []api.Errno{f.Write("f00001", []byte("x"), false), f.Touch("f00002"), f.Touch("d"), f.Rename("f00003", "d/new"), f.Rename("f00004", "f00005"), f.Write("d/x", nil, false)} {
		if e != api.OK {
			t.Errorf("no node more: %d: %d", i, e)
		}
	}
	refused(t, "full again", f, func() api.Errno { return f.Touch("e") }, api.ErrSpace)
	if got := len(f.Tree().Nodes); got != api.MaxNodes {
		t.Errorf("%d nodes", got)
	}
}

func TestP504Mkdir(t *testing.T) {
	f := made(t, tall())
	for p, want := range ways() {
		switch want {
		case -1:
			continue
		case api.OK:
			want = api.ErrExists
		}
		refused(t, fmt.Sprintf("Mkdir(%.30q)", p), f, func() api.Errno { return f.Mkdir(p) }, want)
	}
	for i, p := range []string{"h", "h/i/", "./h//i/j", "d/\xff"} {
		if e := f.Mkdir(p); e != api.OK {
			t.Errorf("Mkdir(%q): %d", p, e)
		}
		if got := f.Stat(p); got != (api.Stat{Kind: 2, Time: 8 + i}) || f.Tree().Clock != 8+i {
			t.Errorf("Stat(%q): %v, the clock is %d", p, got, f.Tree().Clock)
		}
	}
	if got := f.Stat("h"); got != (api.Stat{Kind: 2, Time: 8}) {
		t.Errorf("a directory that something was put into: %v", got)
	}
	refused(t, "again", f, func() api.Errno { return f.Mkdir("h") }, api.ErrExists)
}

func TestP504Remove(t *testing.T) {
	f := made(t, tall())
	for p, want := range ways() {
		st := f.Stat(p)
		switch {
		case path.Clean(p) == "":
			want = api.ErrIsDir
		case want == -1:
			want = api.ErrNone
		case st.Kind == 2 && path.Clean(p) == "d":
			want = api.ErrFilled
		}
		if want != api.OK {
			refused(t, fmt.Sprintf("Remove(%.30q)", p), f, func() api.Errno { return f.Remove(p) }, want)
		}
	}
	refused(t, "a directory with a file", f, func() api.Errno { return f.Remove("d/e") }, api.ErrFilled)
	for i, p := range []string{"d/x", "d/e/y", "./d//e/", "d", "g", "f", "d-"} {
		if e := f.Remove(p); e != api.OK || f.Stat(p) != (api.Stat{}) || f.Tree().Clock != 8+i {
			t.Errorf("Remove(%q): %d, the clock is %d", p, e, f.Tree().Clock)
		}
	}
	wantTree(t, "all gone", f, api.Tree{Clock: 14, Room: 100})
	refused(t, "the empty root", f, func() api.Errno { return f.Remove("") }, api.ErrIsDir)
}

// What is taken away turns nothing but the clock: neither its parent nor those beside it.
func TestP504RemoveTurnsTheClockAlone(t *testing.T) {
	f := made(t, tall())
	f.Remove("d/e/y")
	want := tall()
	want.Nodes = slices.Delete(want.Nodes, 3, 4)
	want.Clock = 8
	wantTree(t, "Remove", f, want)
}

func TestP504Touch(t *testing.T) {
	f := made(t, tall())
	for p, want := range ways() {
		if want == api.OK || want == -1 {
			continue
		}
		refused(t, fmt.Sprintf("Touch(%.30q)", p), f, func() api.Errno { return f.Touch(p) }, want)
	}
	for _, p := range []string{"", "/", ".", "d/.."} {
		refused(t, "Touch of the root", f, func() api.Errno { return f.Touch(p) }, api.OK)
	}
	for i, x := range []struct {
		p    string
		want api.Stat
	}{
		{"d/x", api.Stat{Kind: 1, Time: 8, Size: 2}},
		{"d/", api.Stat{Kind: 2, Time: 9}},
		{"g/new", api.Stat{Kind: 1, Time: 10}},
		{"g/new", api.Stat{Kind: 1, Time: 11}},
		{"./d//e/y", api.Stat{Kind: 1, Time: 12, Size: 5}},
	} {
		if e := f.Touch(x.p); e != api.OK || f.Stat(x.p) != x.want || f.Tree().Clock != 8+i {
			t.Errorf("Touch(%q): %d, %v, not %v", x.p, e, f.Stat(x.p), x.want)
		}
	}
	wantTree(t, "behind all", f, api.Tree{Nodes: []api.Node{dir("d", 9), file("d-", 5, ""), dir("d/e", 2), file("d/e/y", 12, "12345"), file("d/x", 8, "hi"), file("f", 0, "f"), dir("g", 7), file("g/new", 11, "")}, Clock: 12, Room: 100})
}

func TestP505RenameIsRefused(t *testing.T) {
	f := made(t, tall())
	for p, e := range ways() {
		if e == -1 {
			e = api.ErrNone
		}
		if e == api.OK && f.Stat(p).Kind == 2 {
			e = api.ErrIsDir
		}
		for q, e2 := range ways() {
			want := e
			if e2 == api.OK && f.Stat(q).Kind == 2 {
				e2 = api.ErrIsDir
			}
			if want == api.OK && e2 != -1 {
				want = e2
			}
			if want != api.OK {
				refused(t, fmt.Sprintf("Rename(%.30q, %.30q)", p, q), f, func() api.Errno { return f.Rename(p, q) }, want)
			}
		}
	}
	refused(t, "a file into itself", f, func() api.Errno { return f.Rename("d/x", "d/x/y") }, api.ErrNotDir)
}

func TestP505Rename(t *testing.T) {
	f := made(t, tall())
	for _, x := range [][2]string{{"d/x", "d/x"}, {"d/x", "./d//e/../x/"}, {"/f", "f"}} {
		refused(t, "onto itself", f, func() api.Errno { return f.Rename(x[0], x[1]) }, api.OK)
	}
	for i, x := range []struct {
		p, q string
		want api.Stat
	}{
		{"d/x", "x", api.Stat{Kind: 1, Time: 4, Size: 2}},
		{"x", "d/e/y", api.Stat{Kind: 1, Time: 4, Size: 2}},
		{"d-", "f", api.Stat{Kind: 1, Time: 5}},
		{"./f/", "g//./f", api.Stat{Kind: 1, Time: 5}},
	} {
		if e := f.Rename(x.p, x.q); e != api.OK || f.Stat(x.p) != (api.Stat{}) || f.Stat(x.q) != x.want || f.Tree().Clock != 8+i {
			t.Errorf("Rename(%q, %q): %d, %v, not %v", x.p, x.q, e, f.Stat(x.q), x.want)
		}
	}
	wantTree(t, "behind all", f, api.Tree{Nodes: []api.Node{dir("d", 1), dir("d/e", 2), file("d/e/y", 4, "hi"), dir("g", 7), file("g/f", 5, "")}, Clock: 11, Room: 100})
}

// A full tree has room for a new name all the same.
func TestP505RenameWantsNoRoom(t *testing.T) {
	f := made(t, api.Tree{Nodes: []api.Node{file("a", 1, "x")}, Clock: 1, Room: 2})
	if e := f.Rename("a", "b"); e != api.OK {
		t.Errorf("Rename: %d", e)
	}
	wantTree(t, "Rename", f, api.Tree{Nodes: []api.Node{file("b", 1, "x")}, Clock: 2, Room: 2})
	refused(t, "no room more", f, func() api.Errno { return f.Touch("a") }, api.ErrSpace)
}

func TestP506HandedIn(t *testing.T) {
	spare := []byte("hi....")
	nodes := []api.Node{dir("d", 1), {Path: "d/x", Time: 2, Data: spare[:2]}, {Path: "spare"}}
	tree := api.Tree{Nodes: nodes[:2], Clock: 5, Room: 20}
	f := made(t, tree)
	if told(tree) != told(api.Tree{Nodes: small().Nodes, Clock: 5, Room: 20}) || string(spare) != "hi...." || nodes[2].Path != "spare" {
		t.Error("New has changed what was handed in")
	}
	copy(spare, "HO")
	nodes[0].Time, nodes[1] = 4, file("e", 3, "")
	wantTree(t, "what was handed in is changed", f, api.Tree{Nodes: small().Nodes, Clock: 5, Room: 20})
	b := []byte("abc...")
	for _, add := range []bool{false, true} {
		if e := f.Write("d/x", b[:3], add); e != api.OK {
			t.Fatalf("Write: %d", e)
		}
		if string(b) != "abc..." {
			t.Errorf("Write has changed what was handed in: %q", b)
		}
		copy(b, "xyz")
		if got, _ := f.Read("d/x"); !strings.HasSuffix(string(got), "abc") {
			t.Errorf("what was written is changed: %q", got)
		}
		copy(b, "abc")
	}
	if got, _ := f.Read("d/x"); string(got) != "abcabc" {
		t.Errorf("Read: %q", got)
	}
}

// A path that is kept is a copy, and so is one that is answered.
func TestP506PathsAreNew(t *testing.T) {
	old, given := []byte("old"), []byte("new")
	f := made(t, api.Tree{Nodes: []api.Node{{Path: unsafe.String(&old[0], 3)}}, Room: 9})
	if e := f.Mkdir(unsafe.String(&given[0], 3)); e != api.OK {
		t.Fatalf("Mkdir: %d", e)
	}
	copy(old, "xxx")
	copy(given, "yyy")
	want := []string{"new", "old"}
	if l, _ := f.List(""); !slices.Equal(l, want) {
		t.Errorf("List: %q", l)
	}
	for round := range 2 {
		l, _ := f.List("")
		tree := f.Tree()
		for i, name := range want {
			if l[i] != name || tree.Nodes[i].Path != name {
				t.Errorf("round %d: %q, %s", round, l, told(tree))
			}
			turn(l[i])
			turn(tree.Nodes[i].Path)
		}
	}
}

// turn writes over a text's own memory, to show who else has it.
func turn(s string) {
	b := unsafe.Slice(unsafe.StringData(s), len(s))
	for i := range b {
		b[i] = '#'
	}
}

func TestP506Answered(t *testing.T) {
	f := made(t, tall())
	f.Write("d/x", []byte(" ho"), true)
	f.Write("d/x", []byte("."), true)
	want := told(f.Tree())
	spoil(f.Tree())
	b, _ := f.Read("d/x")
	clearAll(b)
	l, _ := f.List("d")
	clearAll(l)
	if got := told(f.Tree()); got != want {
		t.Errorf("what was answered is changed, and the tree is %s", got)
	}
	if l, _ := f.List("d"); !slices.Equal(l, []string{"e", "x"}) {
		t.Errorf("List: %q", l)
	}
	for _, n := range f.Tree().Nodes {
		if cap(n.Data) != len(n.Data) {
			t.Errorf("%q: spare room of %d bytes", n.Path, cap(n.Data)-len(n.Data))
		}
	}
}

// clearAll empties a list and its spare room.
func clearAll[T any](l []T) { clear(l[:cap(l)]) }

func spoil(tree api.Tree) {
	for _, n := range tree.Nodes {
		clearAll(n.Data)
	}
	clearAll(tree.Nodes)
}

func TestP506NothingInCommon(t *testing.T) {
	tree := tall()
	f, g := made(t, tree), made(t, tree)
	twin := f.Twin()
	second := twin.Twin()
	for _, x := range []*FS{f, g, twin, second} {
		others := []*FS{f, g, twin, second}
		before := make([]string, len(others))
		for i, o := range others {
			before[i] = told(o.Tree())
		}
		x.Write("d/x", []byte("more"), true)
		x.Write("f", []byte("F"), false)
		x.Touch("d/e")
		x.Mkdir("h")
		x.Remove("g")
		x.Rename("d/e/y", "h/y")
		for i, o := range others {
			if same := told(o.Tree()) == before[i]; same == (o == x) {
				t.Errorf("%d: %s", i, told(o.Tree()))
			}
		}
	}
	if !reflect.DeepEqual(f.Tree(), second.Tree()) {
		t.Errorf("the same calls: %s and %s", told(f.Tree()), told(second.Tree()))
	}
}

// Bytes added to a twin and to the one that it comes of, each at the same place, don't meet.
func TestP506TwinsGrowApart(t *testing.T) {
	f := made(t, api.Tree{Room: 100})
	for range 5 {
		f.Write("a", []byte("x"), true)
	}
	g := f.Twin()
	f.Write("a", []byte("f"), true)
	g.Write("a", []byte("g"), true)
	f.Write("a", []byte("F"), true)
	for _, x := range []struct {
		f    *FS
		want string
	}{{f, "xxxxxfF"}, {g, "xxxxxg"}} {
		if b, e := x.f.Read("a"); string(b) != x.want || e != api.OK {
			t.Errorf("Read: %q, %d, not %q", b, e, x.want)
		}
	}
}

// A call on none, or on one that New has not made, doesn't panic: it is empty, and has no room.
func TestNoFileSystem(t *testing.T) {
	for _, f := range []*FS{nil, {}} {
		for round := range 2 {
			if f.Stat("") != (api.Stat{Kind: 2}) || f.Stat("a") != (api.Stat{}) {
				t.Errorf("round %d: Stat", round)
			}
			_, read := f.Read("a")
			l, list := f.List("")
			if read != api.ErrNone || list != api.OK || len(l) != 0 {
				t.Errorf("round %d: Read %d, List %q, %d", round, read, l, list)
			}
			for i, x := range []struct{ got, want api.Errno }{{f.Write("a", nil, false), api.ErrSpace}, {f.Write("", nil, true), api.ErrIsDir}, {f.Mkdir("a"), api.ErrSpace}, {f.Mkdir(""), api.ErrExists}, {f.Touch("a"), api.ErrSpace}, {f.Touch(""), api.OK}, {f.Touch("a/b"), api.ErrNone}, {f.Remove("a"), api.ErrNone}, {f.Rename("a", "b"), api.ErrNone}, {f.Rename("", "b"), api.ErrIsDir}} {
				if x.got != x.want {
					t.Errorf("round %d: %d: %d, not %d", round, i, x.got, x.want)
				}
			}
			wantTree(t, "none", f, api.Tree{})
			wantTree(t, "a twin of none", f.Twin(), api.Tree{})
		}
	}
}

// An error within tells where it was met.
func TestFault(t *testing.T) {
	f := made(t, small())
	_, err := f.file("d")
	var e *fault
	if !errors.As(err, &e) || e.path != "d" || !errors.Is(err, api.ErrIsDir) || err.Error() != "d: anvil" {
		t.Errorf("the error: %v", err)
	}
}

// plain is a second telling of the chapter, over a list alone: it goes through all of it each time.
type plain struct{ api.Tree }

func (m *plain) place(p string) int {
	return slices.IndexFunc(m.Nodes, func(n api.Node) bool { return n.Path == p })
}

// look answers the kind of p as Stat does, or an error.
func (m *plain) look(p string) (int, api.Errno) {
	if !path.Valid(p) {
		return 0, api.ErrPath
	}
	if p == "" {
		return 2, api.OK
	}
	names := strings.Split(p, "/")
	for i := range names {
		at := m.place(strings.Join(names[:i+1], "/"))
		last := i == len(names)-1
		switch {
		case at < 0 && last:
			return 0, api.OK
		case at < 0:
			return 0, api.ErrNone
		case m.Nodes[at].Dir && last:
			return 2, api.OK
		case last:
			return 1, api.OK
		case !m.Nodes[at].Dir:
			return 0, api.ErrNotDir
		}
	}
	return 0, api.OK
}

func (m *plain) weight() int {
	w := len(m.Nodes)
	for _, n := range m.Nodes {
		w += len(n.Data)
	}
	return w
}

func (m *plain) lay(n api.Node) api.Errno {
	after := plain{m.Tree}
	after.Nodes = slices.DeleteFunc(slices.Clone(m.Nodes), func(o api.Node) bool { return o.Path == n.Path })
	n.Time = m.Clock + 1
	after.Nodes = append(after.Nodes, n)
	slices.SortFunc(after.Nodes, func(a, b api.Node) int { return strings.Compare(a.Path, b.Path) })
	if len(after.Nodes) > api.MaxNodes || after.weight() > m.Room {
		return api.ErrSpace
	}
	after.Clock++
	m.Tree = after.Tree
	return api.OK
}

func (m *plain) write(p string, b []byte, add bool) api.Errno {
	kind, e := m.look(p)
	switch {
	case e != api.OK:
		return e
	case kind == 2:
		return api.ErrIsDir
	}
	var all []byte
	if add && kind == 1 {
		all = append(all, m.Nodes[m.place(p)].Data...)
	}
	all = append(all, b...)
	if len(all) > api.MaxText {
		return api.ErrLong
	}
	return m.lay(api.Node{Path: p, Data: all})
}

func (m *plain) mkdir(p string) api.Errno {
	kind, e := m.look(p)
	switch {
	case e != api.OK:
		return e
	case kind != 0:
		return api.ErrExists
	}
	return m.lay(dir(p, 0))
}

func (m *plain) touch(p string) api.Errno {
	kind, e := m.look(p)
	switch {
	case e != api.OK || p == "":
		return e
	case kind == 0:
		return m.lay(file(p, 0, ""))
	}
	return m.lay(m.Nodes[m.place(p)])
}

func (m *plain) remove(p string) api.Errno {
	kind, e := m.look(p)
	switch {
	case e != api.OK:
		return e
	case p == "":
		return api.ErrIsDir
	case kind == 0:
		return api.ErrNone
	case slices.ContainsFunc(m.Nodes, func(n api.Node) bool { return path.Parent(n.Path) == p }):
		return api.ErrFilled
	}
	m.Nodes = slices.Delete(slices.Clone(m.Nodes), m.place(p), m.place(p)+1)
	m.Clock++
	return api.OK
}

func (m *plain) rename(p, q string) api.Errno {
	for i, x := range []string{p, q} {
		kind, e := m.look(x)
		switch {
		case e != api.OK:
			return e
		case kind == 2:
			return api.ErrIsDir
		case kind == 0 && i == 0:
			return api.ErrNone
		}
	}
	if p == q {
		return api.OK
	}
	n := m.Nodes[m.place(p)]
	m.Nodes = slices.DeleteFunc(slices.Clone(m.Nodes), func(o api.Node) bool { return o.Path == p || o.Path == q })
	n.Path = q
	m.Nodes = append(m.Nodes, n)
	slices.SortFunc(m.Nodes, func(a, b api.Node) int { return strings.Compare(a.Path, b.Path) })
	m.Clock++
	return api.OK
}

// Many calls, one behind the other, each held against the second telling; the tree stays one that New takes.
func TestAgainstThePlainTelling(t *testing.T) {
	paths := []string{"", "a", "b", "a/b", "a/b/c", "a/b/c/d", "b/a", "b/c", "a-", "./a//b/", "a/../b", "a\nb", "b/\x00", strings.Repeat("n", 256), "c/.."}
	seed := uint32(1)
	next := func(n int) int {
		seed = seed*1664525 + 1013904223
		return int(seed>>8) % n
	}
	for room := range 14 {
		f := made(t, api.Tree{Room: room})
		m := &plain{api.Tree{Room: room}}
		for step := range 1500 {
			p, q := paths[next(len(paths))], paths[next(len(paths))]
			cp, cq := path.Clean(p), path.Clean(q)
			b, add := []byte("12345")[:next(6)], next(2) == 0
			var got, want api.Errno
			what := next(5)
			switch what {
			case 0:
				got, want = f.Write(p, b, add), m.write(cp, b, add)
			case 1:
				got, want = f.Mkdir(p), m.mkdir(cp)
			case 2:
				got, want = f.Remove(p), m.remove(cp)
			case 3:
				got, want = f.Touch(p), m.touch(cp)
			case 4:
				got, want = f.Rename(p, q), m.rename(cp, cq)
			}
			if got != want || told(f.Tree()) != told(m.Tree) {
				t.Fatalf("room %d, step %d: call %d of %q, %q: %d, not %d: %s, not %s", room, step, what, p, q, got, want, told(f.Tree()), told(m.Tree))
			}
			if _, e := New(f.Tree()); e != api.OK {
				t.Fatalf("New of the tree: %d: %s", e, told(f.Tree()))
			}
		}
		if room > 3 && f.Tree().Clock < 100 {
			t.Errorf("room %d: %d changes alone", room, f.Tree().Clock)
		}
	}
}

// Bytes added one by one don't copy the file each time.
func TestManySmallWrites(t *testing.T) {
	f := made(t, api.Tree{Room: api.MaxRoom})
	var before, behind runtime.MemStats
	runtime.ReadMemStats(&before)
	for i := range api.MaxText {
		if e := f.Write("a", []byte{byte(i)}, true); e != api.OK {
			t.Fatalf("byte %d: %d", i, e)
		}
	}
	runtime.ReadMemStats(&behind)
	if took := behind.TotalAlloc - before.TotalAlloc; took > 100*api.MaxRoom {
		t.Errorf("%d bytes of memory were taken", took)
	}
	refused(t, "one more", f, func() api.Errno { return f.Write("a", []byte("x"), true) }, api.ErrLong)
	b, e := f.Read("a")
	if len(b) != api.MaxText || e != api.OK || b[300] != 44 || f.Tree().Clock != api.MaxText {
		t.Errorf("Read: %d bytes, %d", len(b), e)
	}
}
