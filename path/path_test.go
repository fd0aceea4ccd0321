package path

import (
	"strings"
	"testing"
	"unsafe"

	"anvil/api"
)

func TestP201Clean(t *testing.T) {
	for _, x := range []struct{ p, want string }{
		{"", ""},
		{"/", ""},
		{"///", ""},
		{".", ""},
		{"./", ""},
		{"./.", ""},
		{"..", ""},
		{"../..", ""},
		{"../", ""},
		{"a", "a"},
		{"/a", "a"},
		{"a/", "a"},
		{"//a//b//", "a/b"},
		{"./a//b/../c/", "a/c"},
		{"../x", "x"},
		{"a/.", "a"},
		{"a/./b", "a/b"},
		{"a/..", ""},
		{"a/b/..", "a"},
		{"a/b/../..", ""},
		{"a/../../b", "b"},
		{"a/b/../../../c/d", "c/d"},
		{"a/b/.././../c", "c"},
		{"a/b//../c", "a/c"},
		{"a/../b/../c", "c"},
		{"a/b/c/../d", "a/b/d"},
		{"...", "..."},
		{"a/...", "a/..."},
		{".a/..b/c.", ".a/..b/c."},
		{" / a", " / a"},
		{"a\\b/c\x00/\n", "a\\b/c\x00/\n"},
		{"\xff/\xe2\x28/\xe2/é//\xc0\xaf", "\xff/\xe2\x28/\xe2/é/\xc0\xaf"},
	} {
		if got := Clean(x.p); got != x.want {
			t.Errorf("Clean(%q): %q, not %q", x.p, got, x.want)
		}
		if got := Clean(Clean(x.p)); got != x.want {
			t.Errorf("Clean(%q) twice: %q", x.p, got)
		}
	}
}

// A clean path has no limit of its own: what is too long is Valid's thing.
func TestP201CleanLong(t *testing.T) {
	long := strings.Repeat("n", 3*api.MaxPath)
	if got := Clean("./" + long + "/../" + long + "//b/"); got != long+"/b" {
		t.Errorf("a long name: %d bytes", len(got))
	}
	deep := strings.Repeat("d/", 50000)
	if got := Clean(deep + strings.Repeat("x/../", 50000)); got != deep[:len(deep)-1] {
		t.Errorf("names that come and go: %d bytes", len(got))
	}
	if got := Clean(deep + strings.Repeat("../", 50001) + "e"); got != "e" {
		t.Errorf("all taken away: %.20q", got)
	}
}

func TestP201EveryByteButTheSlashIsOfAName(t *testing.T) {
	for i := range 256 {
		if i == '/' || i == '.' {
			continue
		}
		c := string([]byte{byte(i)})
		if got := Clean("a" + c + "b//" + c); got != "a"+c+"b/"+c {
			t.Errorf("byte %d: %q", i, got)
		}
	}
}

func TestP202Valid(t *testing.T) {
	name := strings.Repeat("n", api.MaxName)
	three := strings.Repeat(name+"/", 3)
	rest := api.MaxPath - len(three)
	for _, x := range []struct {
		p    string
		want bool
	}{
		{"", true},
		{"a", true},
		{"a/b", true},
		{"...", true},
		{"..a/.b/c.", true},
		{"a b", true},
		{"a\tb\r\x01\x7f", true},
		{"\xff\xfe/\x80", true},
		{"a\\b/*?[%", true},
		{"/", false},
		{".", false},
		{"..", false},
		{"/a", false},
		{"a/", false},
		{"a//b", false},
		{"a/./b", false},
		{"a/..", false},
		{"../a", false},
		{"a/../b", false},
		{"a\n", false},
		{"\n/a", false},
		{"a\x00b", false},
		{"\x00", false},
		{"a/b/\x00", false},
		{name, true},
		{name + "n", false},
		{"a/" + name, true},
		{"a/" + name + "n", false},
		{name + "n/a", false},
		{"a/" + name + "n/b", false},
		{three + strings.Repeat("m", rest), true},
		{three + strings.Repeat("m", rest+1), false},
		{strings.Repeat("a/", api.MaxPath/2-1) + "bb", true},
		{strings.Repeat("a/", api.MaxPath/2) + "b", false},
	} {
		if got := Valid(x.p); got != x.want {
			t.Errorf("Valid of %d bytes, %.30q: %v", len(x.p), x.p, got)
		}
	}
}

func TestP202EveryByte(t *testing.T) {
	for i := range 256 {
		want := i != 0 && i != 10
		if got := Valid("a" + string([]byte{byte(i)}) + "b"); got != want {
			t.Errorf("byte %d within a name: %v", i, got)
		}
	}
}

func TestP203ParentLast(t *testing.T) {
	for _, x := range []struct{ p, parent, last string }{
		{"", "", ""},
		{"/", "", ""},
		{".", "", ""},
		{"..", "", ""},
		{"a/..", "", ""},
		{"a", "", "a"},
		{"/a", "", "a"},
		{"a/", "", "a"},
		{"a/b", "a", "b"},
		{"/a/b/c/", "a/b", "c"},
		{"a//b", "a", "b"},
		{"a/b/.", "a", "b"},
		{"a/b/..", "", "a"},
		{"a/b/../c", "a", "c"},
		{"../a/...", "a", "..."},
		{"a/b.c", "a", "b.c"},
		{"a/\n", "a", "\n"},
	} {
		if got := Parent(x.p); got != x.parent {
			t.Errorf("Parent(%q): %q, not %q", x.p, got, x.parent)
		}
		if got := Last(x.p); got != x.last {
			t.Errorf("Last(%q): %q, not %q", x.p, got, x.last)
		}
	}
}

func TestP203Join(t *testing.T) {
	for _, x := range []struct{ a, b, want string }{
		{"", "", ""},
		{"a", "", "a"},
		{"", "a", "a"},
		{"", "/x", "x"},
		{"a", "b", "a/b"},
		{"a/", "/b", "a/b"},
		{"a/b", "/c", "a/b/c"},
		{"a", "../b", "b"},
		{"a", "../../b", "b"},
		{"..", "b", "b"},
		{"a/b", "..", "a"},
		{"a/.", "./b/", "a/b"},
		{"a.", ".b", "a./.b"},
		{".", ".", ""},
	} {
		if got := Join(x.a, x.b); got != x.want {
			t.Errorf("Join(%q, %q): %q, not %q", x.a, x.b, got, x.want)
		}
	}
}

func TestP204Words(t *testing.T) {
	for _, x := range []struct{ w, dir, notDir, suffix, base string }{
		{"", "./", "", "", ""},
		{"x", "./", "x", "", "x"},
		{"src/x.c", "src/", "x.c", ".c", "src/x"},
		{"a.b/c", "a.b/", "c", "", "a.b/c"},
		{"a/", "a/", "", "", "a/"},
		{"a.b/", "a.b/", "", "", "a.b/"},
		{"/", "/", "", "", "/"},
		{"//", "//", "", "", "//"},
		{"/x", "/", "x", "", "/x"},
		{"a//x.y", "a//", "x.y", ".y", "a//x"},
		{"a/b/c.d.e", "a/b/", "c.d.e", ".e", "a/b/c.d"},
		{"a.b.c", "./", "a.b.c", ".c", "a.b"},
		{".h", "./", ".h", ".h", ""},
		{"d/.h", "d/", ".h", ".h", "d/"},
		{"x.", "./", "x.", ".", "x"},
		{".", "./", ".", ".", ""},
		{"..", "./", "..", ".", "."},
		{"d/.", "d/", ".", ".", "d/"},
		{"d/..", "d/", "..", ".", "d/."},
		{"./../x", "./../", "x", "", "./../x"},
		{"a.b/c d.e f", "a.b/", "c d.e f", ".e f", "a.b/c d"},
		{"\xff/\xe2.\x80", "\xff/", "\xe2.\x80", ".\x80", "\xff/\xe2"},
		{"a\x00/b\n.\n", "a\x00/", "b\n.\n", ".\n", "a\x00/b\n"},
	} {
		if got := Dir(x.w); got != x.dir {
			t.Errorf("Dir(%q): %q, not %q", x.w, got, x.dir)
		}
		if got := NotDir(x.w); got != x.notDir {
			t.Errorf("NotDir(%q): %q, not %q", x.w, got, x.notDir)
		}
		if got := Suffix(x.w); got != x.suffix {
			t.Errorf("Suffix(%q): %q, not %q", x.w, got, x.suffix)
		}
		if got := Base(x.w); got != x.base {
			t.Errorf("Base(%q): %q, not %q", x.w, got, x.base)
		}
		if Base(x.w)+Suffix(x.w) != x.w {
			t.Errorf("Base and Suffix of %q", x.w)
		}
	}
}

func TestAnswersAreNewMemory(t *testing.T) {
	w := strings.Clone("abc/def.ghi")
	from := uintptr(unsafe.Pointer(unsafe.StringData(w)))
	for name, got := range map[string]string{"Clean": Clean(w), "Clean of one name": Clean(w[4:]), "Parent": Parent(w), "Last": Last(w), "Join": Join(w, ""), "Dir": Dir(w), "NotDir": NotDir(w), "Suffix": Suffix(w), "Base": Base(w)} {
		if got == "" {
			t.Fatalf("%s: empty", name)
		}
		at := uintptr(unsafe.Pointer(unsafe.StringData(got)))
		if at >= from && at < from+uintptr(len(w)) {
			t.Errorf("%s shares the argument's memory", name)
		}
	}
}
