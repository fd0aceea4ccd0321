package wild

import (
	"fmt"
	"slices"
	"strings"
	"testing"
	"unsafe"

	"anvil/api"
	"anvil/glob"
	"anvil/vfs"
)

// planted is a file system of files and of directories, which end in a slash; those that lead to a path are made with it.
func planted(t *testing.T, paths ...string) *vfs.FS {
	t.Helper()
	f, e := vfs.New(api.Tree{Clock: 3, Room: api.MaxRoom})
	if e != api.OK {
		t.Fatalf("New: %d", e)
	}
	for _, p := range paths {
		for i := range len(p) {
			if p[i] == '/' && f.Stat(p[:i]).Kind == 0 {
				if e := f.Mkdir(p[:i]); e != api.OK {
					t.Fatalf("Mkdir %q: %d", p[:i], e)
				}
			}
		}
		if strings.HasSuffix(p, "/") {
			continue
		}
		if e := f.Write(p, []byte(p), false); e != api.OK {
			t.Fatalf("Write %q: %d", p, e)
		}
	}
	return f
}

// small is the tree of the chapter's example.
func small(t *testing.T) *vfs.FS {
	t.Helper()
	return planted(t, "a.c", "b.c", "d/", "d/x.c", ".h")
}

// told writes a tree out, so that nil and empty lists are the same.
func told(tree api.Tree) string {
	var b strings.Builder
	fmt.Fprintf(&b, "%d %d", tree.Clock, tree.Room)
	for _, n := range tree.Nodes {
		fmt.Fprintf(&b, " | %q %v %d %q", n.Path, n.Dir, n.Time, n.Data)
	}
	return b.String()
}

// finds asks that the pattern finds just these paths, in this order, and that the file system stands.
func finds(t *testing.T, f *vfs.FS, pattern string, want ...string) {
	t.Helper()
	before := told(f.Tree())
	if got := Expand(f, pattern); !slices.Equal(got, want) {
		t.Errorf("Expand %q: %q, not %q", pattern, got, want)
	}
	if got := told(f.Tree()); got != before {
		t.Errorf("Expand %q: the tree is %s, not %s", pattern, got, before)
	}
}

func TestP601Examples(t *testing.T) {
	f := small(t)
	finds(t, f, "*.c", "a.c", "b.c")
	finds(t, f, "*/x.*", "d/x.c")
	finds(t, f, "d/x.c", "d/x.c")
	finds(t, f, "*", "a.c", "b.c", "d")
	finds(t, f, "q*")
}

func TestP601OneName(t *testing.T) {
	f := planted(t, "a.c", "b.c", "ab.c", "d/", "c/a.c")
	finds(t, f, "?.c", "a.c", "b.c")
	finds(t, f, "[a-b].c", "a.c", "b.c")
	finds(t, f, "[!a].c", "b.c")
	finds(t, f, "[^b]*", "a.c", "ab.c", "c", "d")
	finds(t, f, "a*", "a.c", "ab.c")
	finds(t, f, "?", "c", "d")
	finds(t, f, "**", "a.c", "ab.c", "b.c", "c", "d")
	finds(t, f, "a.c", "a.c")
	finds(t, f, "d", "d")
	finds(t, f, "A.c")
	finds(t, f, "a.")
	finds(t, f, "a.cc")
}

func TestP601SeveralNames(t *testing.T) {
	f := planted(t, "a/x", "a/y", "b/x", "b/c/x", "b/c/d/x", "b/c/e/y", "x")
	finds(t, f, "*", "a", "b", "x")
	finds(t, f, "*/*", "a/x", "a/y", "b/c", "b/x")
	finds(t, f, "*/x", "a/x", "b/x")
	finds(t, f, "b/*", "b/c", "b/x")
	finds(t, f, "*/*/*", "b/c/d", "b/c/e", "b/c/x")
	finds(t, f, "?/c/?/?", "b/c/d/x", "b/c/e/y")
	finds(t, f, "b/c/*/y", "b/c/e/y")
	finds(t, f, "*/*/*/*/*")
	finds(t, f, "b/c/d/x/y")
	finds(t, f, "b/c/e", "b/c/e")
	finds(t, f, "c/*")
	finds(t, f, "b/q/*")
	finds(t, f, "b*c")
	finds(t, f, "b?c")
	finds(t, f, "b[/]c")
}

func TestP601EmptyNamesAndDots(t *testing.T) {
	f := planted(t, "a.c", "d/x.c", "d/e/y.c")
	for _, p := range []string{"d/*.c", "/d/*.c", "//d/*.c", "./d/*.c", "././d/*.c", "d//*.c", "d/./*.c", "d/.//./*.c", "d/*.c/", "d/*.c//", "d/*.c/.", "d/*.c/./", ".//d//./*.c//."} {
		finds(t, f, p, "d/x.c")
	}
	for _, p := range []string{"d/e", "d/e/", "d/e/.", "/d/e", "./d//e/."} {
		finds(t, f, p, "d/e")
	}
	finds(t, f, "*/", "a.c", "d")
	finds(t, f, "./*", "a.c", "d")
	finds(t, f, "a.c/", "a.c")
}

func TestP601DoubleDots(t *testing.T) {
	f := planted(t, "a.c", "d/x.c", "d/e/y.c", "...", "..a")
	for _, p := range []string{"..", "../", "/..", "./..", "../a.c", "../*", "*/..", "d/..", "d/../a.c", "d/../*", "d/../d/x.c", "*/../*", "d/e/..", "d/e/../x.c", "d/e/../../a.c", "q/../a.c", "a.c/../a.c", "../..", "..//*.c", "d/..//x.c", "*/*/.."} {
		finds(t, f, p)
	}
	finds(t, f, "...", "...")
	finds(t, f, "..*", "...", "..a")
	finds(t, f, "..?", "...", "..a")
	finds(t, f, "..a", "..a")
	// A quoted dot is none that is passed over, nor one that leads up: no file has such a name.
	for _, p := range []string{`\.`, `\./a.c`, `d/\.`, `\.\.`, `d/\.\./a.c`, `d/\../a.c`, `d/.\./*`, `d/[.]/x.c`, `d/.?/a.c`, `d/.*/a.c`} {
		finds(t, f, p)
	}
}

func TestP601PlainNames(t *testing.T) {
	f := planted(t, "a*", "ab", "a?", "[a]", "a", `a\`, "[a", "d/a*", "d/ab", "d*/a*", "d*/ab", "[x/y]", "-")
	finds(t, f, `a\*`, "a*")
	finds(t, f, `a\?`, "a?")
	finds(t, f, `\[a]`, "[a]")
	finds(t, f, `\[a\]`, "[a]")
	finds(t, f, `[a]`, "a")
	finds(t, f, `[a`, "[a")
	finds(t, f, `\a\b`, "ab")
	finds(t, f, `ab`, "ab")
	finds(t, f, `a\\`, `a\`)
	finds(t, f, `a\`, `a\`)
	finds(t, f, `a*`, "a", "a*", "a?", `a\`, "ab")
	finds(t, f, `d/a\*`, "d/a*")
	finds(t, f, `d\*/a*`, "d*/a*", "d*/ab")
	finds(t, f, `d*/a\*`, "d*/a*", "d/a*")
	finds(t, f, `d*/\a\b`, "d*/ab", "d/ab")
	finds(t, f, `\d/[a]?`, "d/a*", "d/ab")
	finds(t, f, `q\*`)
	// A slash parts two names, whatever stands around it.
	finds(t, f, `[x/y]`, "[x/y]")
	finds(t, f, `[x\/y]`)
	finds(t, f, `a\/b`)
	finds(t, planted(t, `a\/b`, "a/b"), `a\/b`, `a\/b`)
}

func TestP601NamesThatBeginWithADot(t *testing.T) {
	f := planted(t, ".h", ".d/x", ".d/.y", "d/x", "d/.y", "h")
	finds(t, f, "*", "d", "h")
	finds(t, f, "?h")
	finds(t, f, "[.]h")
	finds(t, f, "[!a]h")
	finds(t, f, ".h", ".h")
	finds(t, f, `\.h`, ".h")
	finds(t, f, ".*", ".d", ".h")
	finds(t, f, ".?", ".d", ".h")
	finds(t, f, "*/*", "d/x")
	finds(t, f, "*/.*", "d/.y")
	finds(t, f, ".*/*", ".d/x")
	finds(t, f, ".*/.*", ".d/.y")
	finds(t, f, `\.[d]/\.?`, ".d/.y")
	finds(t, f, "*d/x", "d/x")
}

func TestP601FileWhereADirectoryMustBe(t *testing.T) {
	f := planted(t, "a", "b/x", "c/")
	finds(t, f, "a/x")
	finds(t, f, "a/*")
	finds(t, f, "*/x", "b/x")
	finds(t, f, "b/x/*")
	finds(t, f, "c/*")
	finds(t, f, "*/*/*")
}

func TestP601NothingAndTheRoot(t *testing.T) {
	for _, f := range []*vfs.FS{small(t), planted(t), nil, {}} {
		for _, p := range []string{"", "/", ".", "./", "//", "/.", "././/.", "..", "q", "q*", "q/*", "[", `\`, "\x00", "\n", "*\x00*", strings.Repeat("q*/", 2000), strings.Repeat("*/", 70000), strings.Repeat("/.", 70000), strings.Repeat("q", 70000)} {
			if l := Expand(f, p); len(l) != 0 {
				t.Errorf("Expand %.20q: %q", p, l)
			}
		}
	}
	for _, f := range []*vfs.FS{planted(t), nil, {}} {
		for _, p := range []string{"*", ".*", "?", "*/*", "a", "**"} {
			if l := Expand(f, p); len(l) != 0 {
				t.Errorf("Expand %q of an empty tree: %q", p, l)
			}
		}
	}
}

func TestP601RisingByBytes(t *testing.T) {
	// By names a comes ahead of a-b, a.b and a0; by bytes - and . come ahead of the slash, and 0 behind it.
	f := planted(t, "a/x", "a/z/x", "a-b/x", "a.b/x", "a0/x", "B/x", "\xff/x", "\x01/x", "é/x")
	finds(t, f, "*/x", "\x01/x", "B/x", "a-b/x", "a.b/x", "a/x", "a0/x", "é/x", "\xff/x")
	finds(t, f, "*", "\x01", "B", "a", "a-b", "a.b", "a0", "é", "\xff")
	finds(t, f, "*/*", "\x01/x", "B/x", "a-b/x", "a.b/x", "a/x", "a/z", "a0/x", "é/x", "\xff/x")
	finds(t, f, "a*/x", "a-b/x", "a.b/x", "a/x", "a0/x")
}

func TestP601AllBytes(t *testing.T) {
	for c := range 256 {
		name := string([]byte{byte(c)})
		if strings.Contains("\x00\n/.", name) {
			continue
		}
		f := planted(t, "d/"+name, "d/n"+name+"n", "d/nmmn", name+"e/x")
		finds(t, f, "d/?", "d/"+name)
		finds(t, f, `d/\`+name, "d/"+name)
		finds(t, f, `d/n\`+name+"n", "d/n"+name+"n")
		finds(t, f, "d/n?n", "d/n"+name+"n")
		finds(t, f, "?e/*", name+"e/x")
	}
}

func TestP601AsManyAsATreeHas(t *testing.T) {
	var paths, wide []string
	for i := range api.MaxNodes {
		wide = append(wide, fmt.Sprintf("f%03d", i))
	}
	finds(t, planted(t, wide...), "*", wide...)
	finds(t, planted(t, wide...), "f*9", slices.DeleteFunc(slices.Clone(wide), func(p string) bool { return p[3] != '9' })...)
	for i := range api.MaxNodes / 2 {
		paths = append(paths, fmt.Sprintf("d%03d/x", i))
	}
	finds(t, planted(t, paths...), "*/*", paths...)
	// As deep as a path can be: 500 names of one byte.
	deep := strings.Repeat("a/", api.MaxPath/2-1) + "a"
	f := planted(t, deep)
	finds(t, f, deep, deep)
	finds(t, f, strings.ReplaceAll(deep, "a", "*"), deep)
	finds(t, f, strings.ReplaceAll(deep, "a", "*")+"/*")
	long := strings.Repeat("n", api.MaxName)
	finds(t, planted(t, long+"/"+long), "*/n*", long+"/"+long)
}

func TestP601TheFirstOnes(t *testing.T) {
	// A tree holds fewer nodes than a list holds words, so more than MaxWords paths are tried at the cut itself.
	var all []string
	for i := range api.MaxWords + 7 {
		all = append(all, fmt.Sprintf("%05d", i))
	}
	for _, n := range []int{0, 1, 2, api.MaxWords - 1, api.MaxWords, api.MaxWords + 1, api.MaxWords + 7} {
		mixed := slices.Clone(all[:n])
		for i := range mixed {
			j := (i*7919 + 13) % n
			mixed[i], mixed[j] = mixed[j], mixed[i]
		}
		if got := first(mixed, api.MaxWords); !slices.Equal(got, all[:min(n, api.MaxWords)]) {
			t.Errorf("the first of %d: %d of them", n, len(got))
		}
	}
}

func TestP601NamesAreGoneOverUpToAnEnd(t *testing.T) {
	f := planted(t, "a", "b", "c")
	n := 0
	for name := range (dir{fs: f}).names {
		n++
		if name == "b" {
			break
		}
	}
	if n != 2 {
		t.Errorf("%d names", n)
	}
}

// plainExpand holds every path of the tree against the pattern.
func plainExpand(f *vfs.FS, pattern string) []string {
	var names, l []string
	for _, name := range strings.Split(pattern, "/") {
		if name != "" && name != "." {
			names = append(names, name)
		}
	}
	for _, n := range f.Tree().Nodes {
		parts := strings.Split(n.Path, "/")
		same := len(parts) == len(names)
		for i := 0; same && i < len(parts); i++ {
			same = glob.Match(names[i], parts[i]) && (glob.Has(names[i]) || parts[i] == glob.Plain(names[i]))
		}
		if same && len(l) < api.MaxWords {
			l = append(l, n.Path)
		}
	}
	return l
}

func TestP601AgainstThePlainTelling(t *testing.T) {
	f := planted(t, "a", ".a", "...", "*", "[", "a.", `\`, "d", "aa/a", "aa/.a", "aa/..a", "aa/*", "a*/a", "a*/*", "a-/a", ".aa/a", `a\/a`, "[a/a]", "aaa/a/a", "aaa/*/a", "aaa/.a/a", `\a/a`, "a.a/a/")
	const letters = `a.*/\[]?`
	texts, last := []string{""}, []string{""}
	for range 5 {
		var next []string
		for _, s := range last {
			for i := range len(letters) {
				next = append(next, s+letters[i:i+1])
			}
		}
		texts, last = append(texts, next...), next
	}
	hits := 0
	for _, p := range texts {
		want := plainExpand(f, p)
		hits += len(want)
		if got := Expand(f, p); !slices.Equal(got, want) {
			t.Fatalf("Expand %q: %q, not %q", p, got, want)
		}
	}
	if hits < 10000 {
		t.Errorf("%d paths alone were found", hits)
	}
}

func TestP602Words(t *testing.T) {
	f := planted(t, "a.c", "b.c", "d/", "d/x.c", ".h", "a*", "[x/y]", "e", "q")
	for _, x := range []struct{ words, want []string }{
		{nil, nil},
		{[]string{}, nil},
		{[]string{""}, []string{""}},
		{[]string{"", "", "x", ""}, []string{"", "", "x", ""}},
		{[]string{"x", "*.c", "q*z"}, []string{"x", "a.c", "b.c", "q*z"}},
		{[]string{"*.c", "x", "*.c"}, []string{"a.c", "b.c", "x", "a.c", "b.c"}},
		{[]string{"b.c", "a.c"}, []string{"b.c", "a.c"}},
		{[]string{"[b].c", "[a].c"}, []string{"b.c", "a.c"}},
		{[]string{"*"}, []string{"[x", "a*", "a.c", "b.c", "d", "e", "q"}},
		// Without wildcards a word stays as it is: neither cleaned, nor unquoted, nor looked for.
		{[]string{"./a.c", "d//x.c", "/", ".", "..", "../a.c", "d/"}, []string{"./a.c", "d//x.c", "/", ".", "..", "../a.c", "d/"}},
		{[]string{`a\*`, `\*`, `\a.c`, `\[a]`, "[a", `a\`}, []string{`a\*`, `\*`, `\a.c`, `\[a]`, "[a", `a\`}},
		{[]string{"nowhere", "d/nowhere", " ", "a b", "\x00", "\n"}, []string{"nowhere", "d/nowhere", " ", "a b", "\x00", "\n"}},
		// With wildcards, but nothing found, it stays as it is, too.
		{[]string{"./q*z", "../*", "*/..", `\a*z`, "d//[z]*", "?????"}, []string{"./q*z", "../*", "*/..", `\a*z`, "d//[z]*", "?????"}},
		{[]string{"*\x00", "*\n*", strings.Repeat("*", 3000) + "z"}, []string{"*\x00", "*\n*", strings.Repeat("*", 3000) + "z"}},
		// What is found is cleaned and unquoted.
		{[]string{"./*.c", "d//x.?", "/?/", `\a*`, "./.?"}, []string{"a.c", "b.c", "d/x.c", "d", "e", "q", "a*", "a.c", ".h"}},
		// The word is asked as a whole, though its names have no wildcards.
		{[]string{"./[x/y]", "./[x/z]"}, []string{"[x/y]", "./[x/z]"}},
		{[]string{"?*"}, []string{"[x", "a*", "a.c", "b.c", "d", "e", "q"}},
	} {
		before := told(f.Tree())
		if got := Words(f, x.words); !slices.Equal(got, x.want) {
			t.Errorf("Words %q: %q, not %q", x.words, got, x.want)
		}
		if got := told(f.Tree()); got != before {
			t.Errorf("Words %q: the tree is %s, not %s", x.words, got, before)
		}
	}
	if got := Words(small(t), []string{"x", "*.c", "q*"}); !slices.Equal(got, []string{"x", "a.c", "b.c", "q*"}) {
		t.Errorf("the chapter's example: %q", got)
	}
}

func TestP602NoFiles(t *testing.T) {
	words := []string{"*", "a", "", "*/[a]", "/"}
	for _, f := range []*vfs.FS{planted(t), nil, {}} {
		if got := Words(f, words); !slices.Equal(got, words) {
			t.Errorf("Words of an empty tree: %q", got)
		}
	}
}

func TestP602ManyWords(t *testing.T) {
	f := planted(t, "a", "b")
	var words, want []string
	for range api.MaxWords + 1 {
		words, want = append(words, "?"), append(want, "a", "b")
	}
	if got := Words(f, words); !slices.Equal(got, want) {
		t.Errorf("%d words, not %d", len(got), len(want))
	}
}

func TestP602AgainstThePlainTelling(t *testing.T) {
	f := planted(t, "a", ".a", "a.", "b/a", "b/.a", "[/]", "*")
	const letters = `a.*/\[]`
	words := []string{""}
	for from := 0; len(words) < 3000; {
		to := len(words)
		for _, s := range words[from:to] {
			for i := range len(letters) {
				words = append(words, s+letters[i:i+1])
			}
		}
		from = to
	}
	var want []string
	for _, w := range words {
		l := plainExpand(f, w)
		if !glob.Has(w) || len(l) == 0 {
			l = []string{w}
		}
		want = append(want, l...)
	}
	if got := Words(f, words); !slices.Equal(got, want) {
		t.Errorf("%d words are told otherwise: %d, not %d", len(words), len(got), len(want))
	}
}

func TestP603HandedInStands(t *testing.T) {
	f := small(t)
	before := told(f.Tree())
	room := []string{"x", "*.c", "q*", "spare", "spare"}
	words := room[:3]
	for range 2 {
		Words(f, words)
		Expand(f, "*/*")
		Expand(f, "d/../*")
	}
	if !slices.Equal(room, []string{"x", "*.c", "q*", "spare", "spare"}) {
		t.Errorf("the words are %q now", room)
	}
	if got := told(f.Tree()); got != before {
		t.Errorf("the tree is %s, not %s", got, before)
	}
}

func TestP603FullFileSystem(t *testing.T) {
	f, e := vfs.New(api.Tree{Nodes: []api.Node{{Path: "a", Dir: true}, {Path: "a/x"}}, Room: 2})
	if e != api.OK {
		t.Fatal(e)
	}
	finds(t, f, "*/*", "a/x")
	finds(t, f, "*/q")
}

func TestP603AnswersAreNew(t *testing.T) {
	f := small(t)
	before := told(f.Tree())
	for _, p := range []string{"*", "*.c", "*/*", "d/x.c", "a.c"} {
		want := slices.Clone(Expand(f, p))
		l := Expand(f, p)
		clear(l[:cap(l)])
		finds(t, f, p, want...)
	}
	words := []string{"x", "*.c", "q*", "a.c"}
	want := []string{"x", "a.c", "b.c", "q*", "a.c"}
	l := Words(f, words)
	clear(l[:cap(l)])
	if got := Words(f, words); !slices.Equal(got, want) {
		t.Errorf("Words: %q, not %q", got, want)
	}
	if !slices.Equal(words, []string{"x", "*.c", "q*", "a.c"}) || told(f.Tree()) != before {
		t.Errorf("an answer that was changed has changed %q or the tree", words)
	}
}

// within tells whether two texts share memory.
func within(a, b string) bool {
	if a == "" || b == "" {
		return false
	}
	p, q := uintptr(unsafe.Pointer(unsafe.StringData(a))), uintptr(unsafe.Pointer(unsafe.StringData(b)))
	return p < q+uintptr(len(b)) && q < p+uintptr(len(a))
}

func TestP603TextsAreNew(t *testing.T) {
	f := planted(t, "name", "dirs/name", "lone/")
	for _, p := range []string{"name", "n*", "dirs/name", "*/*", "lone", "./name", "nothing*"} {
		p = strings.Clone(p)
		for _, w := range append(Expand(f, p), Words(f, []string{p})...) {
			if within(w, p) {
				t.Errorf("%q: the answer %q shares its memory", p, w)
			}
		}
	}
	l := Words(f, []string{"*", "name", "n*", "*"})
	for i, a := range l {
		for _, b := range l[i+1:] {
			if within(a, b) {
				t.Errorf("%q and %q of one answer share their memory", a, b)
			}
		}
	}
}

func TestP603TheTreeThatComesLater(t *testing.T) {
	f := small(t)
	had := Expand(f, "*.c")
	if e := f.Rename("a.c", "z.c"); e != api.OK {
		t.Fatal(e)
	}
	if e := f.Write("d/q.c", nil, false); e != api.OK {
		t.Fatal(e)
	}
	if !slices.Equal(had, []string{"a.c", "b.c"}) {
		t.Errorf("what was answered is %q now", had)
	}
	finds(t, f, "*.c", "b.c", "z.c")
	finds(t, f, "d/*", "d/q.c", "d/x.c")
}
