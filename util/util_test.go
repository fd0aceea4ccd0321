package util

import (
	"bytes"
	"errors"
	"fmt"
	"math/rand"
	"regexp"
	"slices"
	"strconv"
	"strings"
	"sync"
	"testing"
	"unsafe"

	"anvil/api"
	"anvil/ar"
	"anvil/path"
	"anvil/vfs"
)

// files makes a file system of texts NAME=DATA, each changed behind the one ahead; those that end in / are directories.
func files(t testing.TB, texts ...string) *vfs.FS {
	t.Helper()
	return filesIn(t, api.MaxRoom, texts...)
}

// filesIn is files with that room.
func filesIn(t testing.TB, room int, texts ...string) *vfs.FS {
	t.Helper()
	f, e := vfs.New(api.Tree{Room: room})
	for _, s := range texts {
		name, data, _ := strings.Cut(s, "=")
		if e == api.OK && strings.HasSuffix(s, "/") {
			e = f.Mkdir(s)
		} else if e == api.OK {
			e = f.Write(name, []byte(data), false)
		}
	}
	if e != api.OK {
		t.Fatal(texts, e)
	}
	return f
}

// told writes a tree out, so that nil and empty lists are the same.
func told(f *vfs.FS) string {
	tree := f.Tree()
	var b strings.Builder
	fmt.Fprintf(&b, "%d %d", tree.Clock, tree.Room)
	for _, n := range tree.Nodes {
		fmt.Fprintf(&b, " | %q %v %d %q", n.Path, n.Dir, n.Time, n.Data)
	}
	return b.String()
}

// says runs words with the input "in", and asks for what they print, and for their status.
func says(t *testing.T, f *vfs.FS, out string, status int, words ...string) {
	t.Helper()
	got, gotStatus, ok := Run(f, words, []byte("in"))
	if string(got) != out || gotStatus != status || !ok {
		t.Errorf("%.200q: %.200q, %d, %v, not %.200q, %d", words, got, gotStatus, ok, out, status)
	}
}

// asks is says of words that change nothing.
func asks(t *testing.T, f *vfs.FS, out string, status int, words ...string) {
	t.Helper()
	before := told(f)
	says(t, f, out, status, words...)
	if after := told(f); after != before {
		t.Errorf("%.200q: the tree is %.300s, not %.300s", words, after, before)
	}
}

// does is says of words that print nothing and leave just these changes behind.
func does(t *testing.T, f *vfs.FS, status int, changes func(g *vfs.FS), words ...string) {
	t.Helper()
	g := f.Twin()
	changes(g)
	says(t, f, "", status, words...)
	if told(f) != told(g) {
		t.Errorf("%.200q: the tree is %.300s, not %.300s", words, told(f), told(g))
	}
}

// line cuts a line of words at its blanks; two single quotes are an empty word.
func line(s string) []string {
	words := strings.Fields(s)
	for i, w := range words {
		words[i] = strings.ReplaceAll(w, "''", "")
	}
	return words
}

func TestP1101NoUtility(t *testing.T) {
	f := files(t, "a=1")
	before := told(f)
	for _, words := range [][]string{
		nil, {}, {""}, {"nothing"}, {"make"}, {":"}, {"exit"}, {"export"}, {"]"}, {"echo "}, {" echo"}, {"Echo"}, {"ECHO"}, {"ech"}, {"echo\x00"},
		{"", "echo"}, {"-n", "echo"}, {"ls"}, {"sh"}, {"[["}, {"[]"}, {"./true"}, {"True"}, {"rmdir", "a"}, {"nothing", "a", "b"}, {"a"},
	} {
		out, status, ok := Run(f, words, []byte("in"))
		if out != nil || status != 0 || ok {
			t.Errorf("%q: %q, %d, %v", words, out, status, ok)
		}
	}
	if told(f) != before {
		t.Error("the tree is changed")
	}
}

func TestP1101TrueFalse(t *testing.T) {
	f := files(t)
	asks(t, f, "", 0, "true")
	asks(t, f, "", 1, "false")
	asks(t, f, "", 0, "true", "false", "-n", "")
	asks(t, f, "", 1, "false", "true")
}

func TestP1101Echo(t *testing.T) {
	f := files(t, "a=1")
	for _, x := range []struct {
		words []string
		out   string
	}{
		{nil, "\n"},
		{[]string{"a"}, "a\n"},
		{[]string{"a", "b", "c"}, "a b c\n"},
		{[]string{"-n"}, ""},
		{[]string{"-n", "a", "b"}, "a b"},
		{[]string{"-n", "-n"}, "-n"},
		{[]string{"-n", "-n", "a"}, "-n a"},
		{[]string{"a", "-n"}, "a -n\n"},
		{[]string{"a", "-n", "b"}, "a -n b\n"},
		{[]string{""}, "\n"},
		{[]string{"", ""}, " \n"},
		{[]string{"", "a", "", "b", ""}, " a  b \n"},
		{[]string{"", "-n"}, " -n\n"},
		{[]string{"-n", ""}, ""},
		{[]string{"-n", "", ""}, " "},
		{[]string{"-e", "a"}, "-e a\n"},
		{[]string{"-nn", "a"}, "-nn a\n"},
		{[]string{"-N"}, "-N\n"},
		{[]string{"--", "-n"}, "-- -n\n"},
		{[]string{`\n`, `%s`, "a  b"}, `\n %s a  b` + "\n"},
		{[]string{"a\nb", "\x00\xff"}, "a\nb \x00\xff\n"},
	} {
		asks(t, f, x.out, 0, append([]string{"echo"}, x.words...)...)
	}
}

func TestP1101Printf(t *testing.T) {
	f := files(t, "a=1")
	for _, x := range []struct {
		format string
		words  []string
		out    string
		status int
	}{
		{"%s-%d\\n", line("a 5 b x"), "a-5\nb-0\n", 1},
		{"", nil, "", 0},
		{"", line("a b"), "", 0},
		{"x", nil, "x", 0},
		{"x", line("a b"), "x", 0},
		{`a\nb\tc\\d`, nil, "a\nb\tc\\d", 0},
		{`\n\t\\`, nil, "\n\t\\", 0},
		{`\\n`, nil, `\n`, 0},
		{`\\\n`, nil, "\\\n", 0},
		{`\\\\n`, nil, `\\n`, 0},
		{`\q\`, nil, `\q\`, 0},
		{`\`, nil, `\`, 0},
		{`\\\`, nil, `\\`, 0},
		{`\%s`, line("a"), `\a`, 0},
		{`\%%`, nil, `\%`, 0},
		{`%`, nil, `%`, 0},
		{`%%`, line("a b"), `%`, 0},
		{`%%%`, nil, `%%`, 0},
		{`%%%%`, nil, `%%`, 0},
		{`%%s`, line("a"), `%s`, 0},
		{`%%%s`, line("a"), `%a`, 0},
		{`%\n`, nil, "%\n", 0},
		{`%\\`, nil, `%\`, 0},
		{`%z%i%5d%-s%S%D%`, line("a"), `%z%i%5d%-s%S%D%`, 0},
		{`%s%`, line("a b"), `a%b%`, 0},
		{`\r\0\a`, nil, `\r\0\a`, 0},
		{"a\nb\t\x00\xff", nil, "a\nb\t\x00\xff", 0},
		{"%s", nil, "", 0},
		{"%d", nil, "0", 0},
		{"%s|%d|%s|%d|", nil, "|0||0|", 0},
		{"%s%s.", line("a"), "a.", 0},
		{"%s %d.", line("a"), "a 0.", 0},
		{"%s,%s.", line("a b c"), "a,b.c,.", 0},
		{"%s,%d.", line("a 1 c"), "a,1.c,0.", 0},
		{"%s", line("a b c"), "abc", 0},
		{"%s", []string{"", "", "x"}, "x", 0},
		{"<%s>", []string{"", "a b", ""}, "<><a b><>", 0},
		{"%s", []string{`\n%s%%`}, `\n%s%%`, 0},
		{"%d ", line("0 7 007 999999999 000000001 -5 -007 -0 -999999999"), "0 7 7 999999999 1 -5 -7 0 -999999999 ", 0},
		{"%d", []string{""}, "0", 1},
		{"%d", line("x"), "0", 1},
		{"%d", line("1x"), "0", 1},
		{"%d", line("-"), "0", 1},
		{"%d", line("--5"), "0", 1},
		{"%d", line("+5"), "0", 1},
		{"%d", line("5-"), "0", 1},
		{"%d", line("1000000000"), "0", 1},
		{"%d", line("-1000000000"), "0", 1},
		{"%d", []string{" 5"}, "0", 1},
		{"%d", []string{"- 5"}, "0", 1},
		{"%d", line("0x5"), "0", 1},
		{"%d", line("1.5"), "0", 1},
		{"%d,", line("x 1 2"), "0,1,2,", 1},
		{"%d,", line("1 2 x"), "1,2,0,", 1},
		{"%d,%d;", line("x 1 2 y 3 4"), "0,1;2,0;3,4;", 1},
		{"%d,%d;", line("x 1"), "0,1;", 1},
		{"%d,%d;", line("1 x"), "1,0;", 1},
		{"%s%d,", line("x 1 y"), "x1,y0,", 0},
		{"-n", line("a"), "-n", 0},
		{"--", line("a"), "--", 0},
	} {
		asks(t, f, x.out, x.status, append([]string{"printf", x.format}, x.words...)...)
	}
	asks(t, f, "", 1, "printf")
}

func TestP1101Cat(t *testing.T) {
	f := files(t, "a=1", "b=2\n", "n=", "d/", "d/x=x\x00\xff", "-f=f")
	for _, x := range []struct {
		words  string
		out    string
		status int
	}{
		{"cat", "in", 0},
		{"cat -", "in", 0},
		{"cat - -", "inin", 0},
		{"cat a - b -", "1in2\nin", 0},
		{"cat a", "1", 0},
		{"cat a b a", "12\n1", 0},
		{"cat n", "", 0},
		{"cat d/x ./d//x d/../a", "x\x00\xffx\x00\xff1", 0},
		{"cat ./-f -f", "ff", 0},
		{"cat no", "", 1},
		{"cat a no b", "12\n", 1},
		{"cat no a", "1", 1},
		{"cat a no", "1", 1},
		{"cat no -", "in", 1},
		{"cat d", "", 1},
		{"cat a d b", "12\n", 1},
		{"cat a/x d/no no/x", "", 1},
		{"cat ''", "", 1},
		{"cat . a", "1", 1},
		{"cat ./-", "", 1},
		{"cat --", "", 1},
		{"cat " + strings.Repeat("n", api.MaxName+1) + " a", "1", 1},
	} {
		asks(t, f, x.out, x.status, line(x.words)...)
	}
	if out, status, ok := Run(f, []string{"cat"}, nil); len(out) != 0 || status != 0 || !ok {
		t.Error(out, status, ok)
	}
}

func TestP1101Cp(t *testing.T) {
	start := []string{"a=1", "b=22", "d/", "d/e/", "d/b/", "d/x=x"}
	for words, want := range map[string]string{
		"cp a c": "c=1", "cp a b": "b=1", "cp a a": "a=1", "cp b d/x": "d/x=22", "cp d/x y": "y=x", "cp d/x .": "x=x", "cp d/x ''": "x=x", "cp d/x /": "x=x",
		"cp a d": "d/a=1", "cp a d/": "d/a=1", "cp ./a d/e": "d/e/a=1", "cp d/x d/e": "d/e/x=x", "cp d/x d": "d/x=x", "cp d/e/../x d/e": "d/e/x=x", "cp a d/e/../q": "d/q=1",
		"cp a -f": "-f=1", "cp a .": "a=1",
	} {
		name, data, _ := strings.Cut(want, "=")
		does(t, files(t, start...), 0, func(g *vfs.FS) { g.Write(name, []byte(data), false) }, line(words)...)
	}
	for _, words := range []string{
		"cp", "cp a", "cp a b c", "cp -f a b", "cp no c", "cp no d", "cp d c", "cp d d", "cp d d/e", "cp . d", "cp '' c", "cp a ''''/no/x", "cp a no/c", "cp a a/c", "cp a b/c",
		"cp b d", "cp a/ d", "cp d/x/. d", "cp b/q/.. d", "cp a " + strings.Repeat("n", api.MaxName+1), "cp a/x c", "cp no/x c", "cp " + strings.Repeat("n/", api.MaxPath) + " c",
	} {
		asks(t, files(t, start...), "", 1, line(words)...)
	}
	full := strings.Repeat("x", api.MaxText)
	does(t, files(t, "a="+full), 0, func(g *vfs.FS) { g.Write("b", []byte(full), false) }, "cp", "a", "b")
}

func TestP1101Mv(t *testing.T) {
	start := []string{"a=1", "b=22", "d/", "d/e/", "d/b/", "d/x=x"}
	for words, want := range map[string]string{
		"mv a c": "a c", "mv a b": "a b", "mv b d/x": "b d/x", "mv d/x y": "d/x y", "mv d/x .": "d/x x", "mv d/x ''": "d/x x", "mv a d": "a d/a", "mv ./a d/e/": "a d/e/a",
		"mv d/x d/e": "d/x d/e/x", "mv d/e/../x d/e": "d/x d/e/x", "mv a -f": "a -f",
	} {
		p, q, _ := strings.Cut(want, " ")
		does(t, files(t, start...), 0, func(g *vfs.FS) { g.Rename(p, q) }, line(words)...)
	}
	for _, words := range []string{"mv a a", "mv a ./a", "mv a .", "mv a ''", "mv d/x d", "mv a d/../a"} {
		asks(t, files(t, start...), "", 0, line(words)...)
	}
	for _, words := range []string{
		"mv", "mv a", "mv a b c", "mv -f a b", "mv no c", "mv no d", "mv d c", "mv d/e .", "mv d d", "mv . d", "mv '' c", "mv a no/c", "mv a a/c", "mv a b/c",
		"mv b d", "mv a/ d", "mv d/x/. d", "mv a " + strings.Repeat("n", api.MaxName+1), "mv a/x c", "mv no/x c",
	} {
		asks(t, files(t, start...), "", 1, line(words)...)
	}
	// What is moved keeps its time, what is copied has a new one.
	f := files(t, "a=1", "b=2")
	says(t, f, "", 0, "mv", "a", "c")
	says(t, f, "", 0, "cp", "b", "e")
	if c, e := f.Stat("c").Time, f.Stat("e").Time; c != 1 || e != 4 {
		t.Error(c, e)
	}
}

func TestP1101Rm(t *testing.T) {
	start := []string{"a=1", "b=2", "c=3", "d/", "d/x=x", "e/", "-f="}
	for _, x := range []struct {
		words  string
		status int
		gone   string
	}{
		{"rm a", 0, "a"},
		{"rm a b c", 0, "a b c"},
		{"rm e", 0, "e"},
		{"rm d/x d", 0, "d/x d"},
		{"rm ./d/../a", 0, "a"},
		{"rm -f a b", 0, "a b"},
		{"rm -f e", 0, "e"},
		{"rm -f", 0, ""},
		{"rm -f no", 0, ""},
		{"rm -f no a no/x b", 0, "a b"},
		{"rm -f a a", 0, "a"},
		{"rm -f -f", 0, "-f"},
		{"rm ./-f", 0, "-f"},
		{"rm a -f", 0, "a -f"},
		{"rm", 1, ""},
		{"rm no", 1, ""},
		{"rm a no b", 1, "a b"},
		{"rm no a", 1, "a"},
		{"rm a a", 1, "a"},
		{"rm d", 1, ""},
		{"rm a d b", 1, "a b"},
		{"rm d d/x", 1, "d/x"},
		{"rm -f d", 1, ""},
		{"rm -f d no a", 1, "a"},
		{"rm -f a/x b", 1, "b"},
		{"rm -f . a", 1, "a"},
		{"rm -f ''", 1, ""},
		{"rm ''", 1, ""},
		{"rm -r a", 1, "a"},
		{"rm -rf a", 1, "a"},
		{"rm -f " + strings.Repeat("n", api.MaxName+1) + " a", 1, "a"},
	} {
		does(t, files(t, start...), x.status, func(g *vfs.FS) {
			for _, p := range strings.Fields(x.gone) {
				g.Remove(p)
			}
		}, line(x.words)...)
	}
}

func TestP1101Touch(t *testing.T) {
	start := []string{"a=1", "b=2", "d/", "d/x=x"}
	for _, x := range []struct {
		words  string
		status int
		got    string
	}{
		{"touch a", 0, "a"},
		{"touch a b new d d/x d/new", 0, "a b new d d/x d/new"},
		{"touch a a", 0, "a a"},
		{"touch -c", 0, "-c"},
		{"touch .", 0, ""},
		{"touch ''", 0, ""},
		{"touch", 1, ""},
		{"touch no/x", 1, ""},
		{"touch a no/x b", 1, "a b"},
		{"touch a/x new", 1, "new"},
		{"touch new a/x", 1, "new"},
		{"touch " + strings.Repeat("n", api.MaxName+1) + " a", 1, "a"},
	} {
		does(t, files(t, start...), x.status, func(g *vfs.FS) {
			for _, p := range strings.Fields(x.got) {
				g.Touch(p)
			}
		}, line(x.words)...)
	}
}

func TestP1101Mkdir(t *testing.T) {
	start := []string{"a=1", "d/", "d/e/", "d/x=x"}
	long := strings.Repeat("n", api.MaxName+1)
	for _, x := range []struct {
		words  string
		status int
		made   string
	}{
		{"mkdir q", 0, "q"},
		{"mkdir q q/r d/f", 0, "q q/r d/f"},
		{"mkdir ./q/ d/../r", 0, "q r"},
		{"mkdir q -p", 0, "q -p"},
		{"mkdir -p -p", 0, "-p"},
		{"mkdir -m", 0, "-m"},
		{"mkdir -p q", 0, "q"},
		{"mkdir -p q/r/s", 0, "q q/r q/r/s"},
		{"mkdir -p d/e/f/g d/e/h", 0, "d/e/f d/e/f/g d/e/h"},
		{"mkdir -p q/../r/./s//t/", 0, "r r/s r/s/t"},
		{"mkdir -p d", 0, ""},
		{"mkdir -p d/e d q", 0, "q"},
		{"mkdir -p q/r q/r q", 0, "q q/r"},
		{"mkdir -p .", 0, ""},
		{"mkdir -p ''", 0, ""},
		{"mkdir -p /", 0, ""},
		{"mkdir", 1, ""},
		{"mkdir -p", 1, ""},
		{"mkdir d", 1, ""},
		{"mkdir a", 1, ""},
		{"mkdir .", 1, ""},
		{"mkdir q d r", 1, "q r"},
		{"mkdir q/r", 1, ""},
		{"mkdir q/r q", 1, "q"},
		{"mkdir a/q", 1, ""},
		{"mkdir q q", 1, "q"},
		{"mkdir -p a", 1, ""},
		{"mkdir -p a/q/r s", 1, "s"},
		{"mkdir -p d/x/q s", 1, "s"},
		{"mkdir -p q/r/" + long + "/s t", 1, "q q/r t"},
		{"mkdir " + long, 1, ""},
	} {
		does(t, files(t, start...), x.status, func(g *vfs.FS) {
			for _, p := range strings.Fields(x.made) {
				g.Mkdir(p)
			}
		}, line(x.words)...)
	}
}

// What is printed is cut at the limit; the status isn't.
func TestP1101Cut(t *testing.T) {
	full := strings.Repeat("x", api.MaxText)
	f := files(t, "full="+full, "one=y", "half="+full[:api.MaxText/2])
	less := full[1:]
	asks(t, f, less+"\n", 0, "echo", less)
	asks(t, f, full, 0, "echo", full)
	asks(t, f, full, 0, "echo", full, "y")
	asks(t, f, full, 0, "echo", "-n", full)
	asks(t, f, full, 0, "echo", "-n", full+"y")
	asks(t, f, less+" ", 0, "echo", "-n", less, "y")
	asks(t, f, full, 0, "cat", "full")
	asks(t, f, full, 0, "cat", "full", "one", "full", "one")
	asks(t, f, "y"+less, 0, "cat", "one", "full")
	asks(t, f, full, 0, "cat", "half", "half")
	asks(t, f, full, 0, "cat", "half", "half", "one", "half")
	asks(t, f, full, 1, "cat", "full", "one", "no")
	asks(t, f, full[1:]+"i", 0, "printf", "%si%s", less, "y")
	asks(t, f, full, 0, "printf", full)
	asks(t, f, full, 0, "printf", full+"y")
	asks(t, f, less+"5", 0, "printf", less+"%d", "57")
	asks(t, f, full, 1, "printf", full+"%d", "1", "2", "x")
	asks(t, f, full, 0, "printf", full+"%d", "1", "2", "3")
	asks(t, f, full, 0, "printf", "%s", full, "y", full)
	for _, n := range []int{api.MaxText - 1, api.MaxText, api.MaxText + 1, 3 * api.MaxText} {
		in := bytes.Repeat([]byte("z"), n)
		out, status, ok := Run(f, []string{"cat"}, in)
		if !bytes.Equal(out, in[:min(n, api.MaxText)]) || status != 0 || !ok {
			t.Error(n, len(out), status, ok)
		}
	}
	says(t, f, "", 0, "ar", "r", "l.a", "half")
	asks(t, f, full, 0, "ar", "p", "l.a", "half", "half")
	asks(t, f, full, 0, "ar", "p", "l.a", "half", "half", "half")
	asks(t, f, "", 1, "ar", "p", "l.a", "half", "half", "half", "no")
}

// Once nothing more is printed a round costs no more than its words: or this would not come to an end in a day.
func TestP1101ManyRounds(t *testing.T) {
	format := strings.Repeat("x", 1<<21) + "%d"
	words := slices.Repeat([]string{"1"}, 1<<20)
	f := files(t)
	says(t, f, format[:api.MaxText], 0, append([]string{"printf", format}, words...)...)
	words[len(words)-1] = "y"
	says(t, f, format[:api.MaxText], 1, append([]string{"printf", format}, words...)...)
}

func TestP1102ByCount(t *testing.T) {
	f := files(t, "a=1", "b=2", "d/", "n=", "d/x=", "-n=", "!=")
	for _, x := range []struct {
		words  string
		status int
	}{
		{"", 1},
		{"a", 0}, {"''", 1}, {"!", 0}, {"-n", 0}, {"-z", 0}, {"=", 0}, {"-f", 0}, {"0", 0}, {"]", 0},
		{"! a", 1}, {"! ''", 0}, {"! !", 1}, {"! -n", 1}, {"! =", 1},
		{"-n a", 0}, {"-n ''", 1}, {"-n -n", 0}, {"-n !", 0}, {"-z a", 1}, {"-z ''", 0}, {"-z -z", 1},
		{"-e a", 0}, {"-e d", 0}, {"-e n", 0}, {"-e d/x", 0}, {"-e no", 1}, {"-e no/x", 1}, {"-e a/x", 1}, {"-e ./d/../a", 0}, {"-e .", 0}, {"-e ''", 0},
		{"-f a", 0}, {"-f n", 0}, {"-f d", 1}, {"-f no", 1}, {"-f d/x", 0}, {"-f .", 1}, {"-f a/x", 1},
		{"-d a", 1}, {"-d d", 0}, {"-d d/", 0}, {"-d no", 1}, {"-d .", 0}, {"-d ''", 0}, {"-d d/x", 1},
		{"-s a", 0}, {"-s n", 1}, {"-s d", 1}, {"-s no", 1}, {"-s .", 1}, {"-s ''", 1},
		{"-q a", 2}, {"a b", 2}, {"-N a", 2}, {"-nn a", 2}, {"- a", 2}, {"'' a", 2}, {"'' ''", 2}, {"a !", 2}, {"= a", 2}, {"-r a", 2}, {"-eq a", 2}, {"a ]", 2}, {"-nt a", 2}, {"!! a", 2},
		{"! -n a", 1}, {"! -n ''", 0}, {"! -z a", 0}, {"! -f a", 1}, {"! -f no", 0}, {"! -d d", 1}, {"! -e no", 0}, {"! -s n", 0}, {"! ! a", 0}, {"! ! ''", 1}, {"! -q a", 2}, {"! a b", 2}, {"! a !", 2},
		{"! = !", 0}, {"! = a", 1}, {"! != a", 0}, {"! != !", 1}, {"! -eq 1", 2}, {"= = =", 0}, {"= != =", 1}, {"-n = -n", 0}, {"-n = a", 1}, {"-f -nt a", 1},
		{"a b c", 2}, {"a == b", 2}, {"a < b", 2}, {"a -eq1 b", 2}, {"a -a b", 2}, {"a ! b", 2}, {"a '' b", 2}, {"-n a b", 2}, {"1 eq 1", 2}, {"-e a d", 2},
		{"! a = a", 1}, {"! a = b", 0}, {"! a != b", 1}, {"! 1 -lt 2", 1}, {"! 2 -lt 1", 0}, {"! a -eq 1", 2}, {"! b -nt a", 1}, {"! a -nt b", 0}, {"! ! -n a", 0}, {"! ! -n ''", 1}, {"! ! ! a", 1}, {"! ! ! ''", 0}, {"! ! = !", 1}, {"! ! = a", 0}, {"! a b c", 2}, {"! ! -q a", 2},
		{"a b c d", 2}, {"a = a !", 2}, {"a = a b", 2}, {"-n a -n a", 2}, {"'' a = a", 2}, {"a ! = a", 2},
		{"! ! a = a", 2}, {"! ! ! ! a", 2}, {"a = a -a b", 2}, {"a b c d e", 2}, {"'' '' '' '' ''", 2}, {"! ! ! ! ! a", 2}, {"a = a -o b = b", 2},
	} {
		words := line(x.words)
		asks(t, f, "", x.status, append([]string{"test"}, words...)...)
		asks(t, f, "", x.status, append(append([]string{"["}, words...), "]")...)
		asks(t, f, "", 2, append(append([]string{"["}, words...), "x")...)
	}
}

func TestP1102Bracket(t *testing.T) {
	f := files(t, "a=1")
	for words, status := range map[string]int{
		"[": 2, "[ ]": 1, "[ ] ]": 0, "[ ''": 2, "[ '' ]": 1, "[ a": 2, "[ a ] b": 2, "[ a ]]": 2, "[ a = a": 2, "[ -f a ]": 0, "[ -f nothing ]": 1, "[ ] = ] ]": 0, "[ ] = a ]": 1, "[ ! ] ]": 1,
		"[ [ ]": 0, "[ [ a ] ]": 2, "[ a b c d ]": 2, "[ a b c d e ]": 2, "[ -n ] ]": 0, "[ ] a": 2,
	} {
		asks(t, f, "", status, line(words)...)
	}
}

func TestP1102Numbers(t *testing.T) {
	f := files(t)
	numbers := []string{"0", "00", "-0", "1", "01", "-1", "-01", "2", "10", "-10", "999999999", "-999999999"}
	holds := map[string]func(n, m int) bool{
		"-eq": func(n, m int) bool { return n == m },
		"-ne": func(n, m int) bool { return n != m },
		"-lt": func(n, m int) bool { return n < m },
		"-le": func(n, m int) bool { return n <= m },
		"-gt": func(n, m int) bool { return n > m },
		"-ge": func(n, m int) bool { return n >= m },
	}
	for sign, is := range holds {
		for _, a := range numbers {
			for _, b := range numbers {
				n, _ := strconv.Atoi(a)
				m, _ := strconv.Atoi(b)
				status := 1
				if is(n, m) {
					status = 0
				}
				asks(t, f, "", status, "test", a, sign, b)
				asks(t, f, "", 1-status, "test", "!", a, sign, b)
			}
		}
		for _, bad := range []string{"", "a", "1a", "a1", "-", "--1", "+1", "1-", "1000000000", "-1000000000", " 1", "1 ", "0x1", "1.0", "!"} {
			for _, words := range [][]string{{bad, sign, "1"}, {"1", sign, bad}, {bad, sign, bad}, {"!", bad, sign, "1"}, {"!", "1", sign, bad}} {
				asks(t, f, "", 2, append([]string{"test"}, words...)...)
			}
		}
	}
	// Texts are held against each other as they are.
	asks(t, f, "", 1, "test", "1", "=", "01")
	asks(t, f, "", 0, "test", "1", "!=", "01")
	asks(t, f, "", 0, "test", "", "=", "")
	asks(t, f, "", 1, "test", "", "!=", "")
	asks(t, f, "", 1, "test", "a", "=", "A")
	asks(t, f, "", 1, "test", "*", "=", "a")
}

func TestP1102Times(t *testing.T) {
	f, e := vfs.New(api.Tree{Clock: 9, Room: 99, Nodes: []api.Node{
		{Path: "a", Time: 3}, {Path: "b", Time: 5}, {Path: "c", Time: 5}, {Path: "d", Dir: true, Time: 4}, {Path: "d/x", Time: 0}, {Path: "z", Time: 0},
	}})
	if e != api.OK {
		t.Fatal(e)
	}
	for words, status := range map[string]int{
		"b -nt a": 0, "a -nt b": 1, "b -nt c": 1, "c -nt b": 1, "b -nt b": 1, "d -nt a": 0, "b -nt d": 0, "d -nt b": 1, "./d/../b -nt a": 0,
		"a -ot b": 0, "b -ot a": 1, "b -ot c": 1, "c -ot b": 1, "a -ot a": 1, "a -ot d": 0, "d -ot b": 0, "b -ot d": 1,
		"b -nt no": 1, "no -nt b": 1, "no -nt no": 1, "b -ot no": 1, "no -ot b": 1, "no -ot no": 1, "a -nt no/x": 1, "a -ot b/x": 1,
		"a -nt .": 0, ". -nt a": 1, ". -ot a": 0, "z -nt .": 1, ". -ot z": 1, "a -nt ''": 0, "d/x -ot d": 0,
		"! b -nt a": 1, "! a -nt b": 0, "! b -nt no": 0, "! a -ot b": 1, "! no -ot no": 0,
	} {
		asks(t, f, "", status, append([]string{"test"}, line(words)...)...)
	}
}

// member makes a member of a name, a date and data.
func member(name string, date int, data string) api.Member {
	return api.Member{Name: name, Date: date, Data: []byte(data)}
}

// packed tells the bytes of an archive.
func packed(t testing.TB, l ...api.Member) string {
	t.Helper()
	b, e := ar.Write(l)
	if e != api.OK {
		t.Fatal(e)
	}
	return string(b)
}

// writes asks that words write just that, once, and print nothing.
func writes(t *testing.T, f *vfs.FS, p, data string, words ...string) {
	t.Helper()
	does(t, f, 0, func(g *vfs.FS) {
		if e := g.Write(p, []byte(data), false); e != api.OK {
			t.Fatal(p, e)
		}
	}, words...)
}

func TestP1103Put(t *testing.T) {
	start := []string{"a=1", "b=22", "d/", "d/x=x", "d/a=other", "none="}
	a, b, x, other := member("a", 1, "1"), member("b", 2, "22"), member("x", 4, "x"), member("a", 5, "other")
	for _, key := range []string{"r", "rc", "rcs"} {
		f := files(t, start...)
		writes(t, f, "l.a", packed(t, a, b), line("ar "+key+" l.a a b")...)
		writes(t, f, "l.a", packed(t, a, b, x), line("ar "+key+" l.a d/x")...)
		writes(t, f, "l.a", packed(t, other, b, x), line("ar "+key+" ./l.a d/a")...)
		writes(t, f, "l.a", packed(t, a, b, x), line("ar "+key+" l.a ./a d/../b")...)
		writes(t, f, "l.a", packed(t, a, b, x), line("ar "+key+" l.a")...)
		writes(t, f, "d/new.a", packed(t), line("ar "+key+" d/new.a")...)
		writes(t, f, "d/m.a", packed(t, other), line("ar "+key+" d/m.a a d/a")...)
		writes(t, f, "-x", packed(t, member("none", 6, "")), line("ar "+key+" -x none")...)
		for _, words := range []string{
			"l.a no", "l.a a no b", "l.a no a", "l.a d", "l.a a d", "new2.a a no", "new2.a d", "a b", "none a", "d a", ". a", "'' a", "no/l.a a", "a/l.a a",
			"l.a a/", "l.a a " + strings.Repeat("n", api.MaxName+1), strings.Repeat("n", api.MaxName+1) + " a", "l.a ''", "l.a -",
		} {
			asks(t, f, "", 1, line("ar "+key+" "+words)...)
		}
	}
}

// An archive may hold itself, a name of any length that a file may have, and a file whose path is not what is left of it when it is cleaned.
func TestP1103PutEdges(t *testing.T) {
	long := strings.Repeat("n", api.MaxName)
	f := files(t, "a=1", long+"=n", "b=2")
	writes(t, f, "l.a", packed(t, member(long, 2, "n"), member("..", 1, "1"), member(".", 3, "2")), "ar", "r", "l.a", "./"+long, "a/q/..", "b/.")
	whole, _ := f.Read("l.a")
	was := []api.Member{member(long, 2, "n"), member("..", 1, "1"), member(".", 3, "2"), member("l.a", 4, string(whole))}
	writes(t, f, "l.a", packed(t, was...), "ar", "r", "l.a", "l.a")
	// The first of two members of one name is replaced.
	twice := files(t, "m.a="+packed(t, member("a", 7, "x"), member("a", 8, "y")), "a=1")
	writes(t, twice, "m.a", packed(t, member("a", 2, "1"), member("a", 8, "y")), "ar", "r", "m.a", "a")
	late, e := vfs.New(api.Tree{Clock: 1 << 40, Room: 1000, Nodes: []api.Node{{Path: "a", Time: 999999999999}, {Path: "b", Time: 1000000000000}}})
	if e != api.OK {
		t.Fatal(e)
	}
	asks(t, late, "", 1, "ar", "r", "l.a", "a", "b")
	writes(t, late, "l.a", packed(t, member("a", 999999999999, "")), "ar", "r", "l.a", "a")
}

func TestP1103Tell(t *testing.T) {
	l := packed(t, member("a", 1, "1"), member("b.o", 2, "22\n"), member("none", 3, ""), member("a", 4, "again"), member(strings.Repeat("n", 40), 5, "\x00"))
	f := files(t, "l.a="+l, "e.a="+packed(t), "a=1", "n=", "d/", "cut.a="+l[:len(l)-1])
	names := "a\nb.o\nnone\na\n" + strings.Repeat("n", 40) + "\n"
	asks(t, f, names, 0, line("ar t l.a")...)
	asks(t, f, names, 0, line("ar t ./d/../l.a")...)
	asks(t, f, names, 0, line("ar t l.a a")...)
	asks(t, f, names, 0, line("ar t l.a no")...)
	asks(t, f, "", 0, line("ar t e.a")...)
	for words, out := range map[string]string{
		"l.a": "122\nagain\x00", "l.a b.o": "22\n", "l.a a": "1", "l.a a a": "11", "l.a b.o a": "22\n1", "l.a none": "", "l.a none b.o none": "22\n", "e.a": "", "l.a " + strings.Repeat("n", 40): "\x00",
	} {
		asks(t, f, out, 0, line("ar p "+words)...)
	}
	for _, words := range []string{"l.a no", "l.a a no", "l.a no a", "l.a a no b.o", "e.a a", "l.a ''", "l.a b", "l.a ./a", "l.a d/a", "l.a a/"} {
		asks(t, f, "", 1, line("ar p "+words)...)
	}
	for _, key := range []string{"t", "p", "d"} {
		for _, words := range []string{"no.a", "a", "n", "d", "cut.a", "no/l.a", "a/l.a", ".", "''", "no.a a", "cut.a a", strings.Repeat("n", api.MaxName+1)} {
			asks(t, f, "", 1, line("ar "+key+" "+words)...)
		}
	}
}

func TestP1103Drop(t *testing.T) {
	a, b, c, again := member("a", 1, "1"), member("b", 2, "22"), member("c", 3, "333"), member("a", 4, "again")
	start := "l.a=" + packed(t, a, b, c, again)
	for words, left := range map[string][]api.Member{
		"l.a a": {b, c, again}, "./l.a b": {a, c, again}, "l.a c a": {b, again}, "l.a a a": {b, c}, "l.a a b c a": nil, "l.a c b a": {again}, "l.a": {a, b, c, again},
	} {
		writes(t, files(t, start, "z="), "l.a", packed(t, left...), line("ar d "+words)...)
	}
	for _, words := range []string{"l.a no", "l.a a no", "l.a no a", "l.a b b", "l.a a a a", "l.a ./a", "l.a ''", "l.a l.a"} {
		asks(t, files(t, start, "z="), "", 1, line("ar d "+words)...)
	}
}

func TestP1103Keys(t *testing.T) {
	f := files(t, "l.a="+packed(t, member("a", 1, "1")), "a=1")
	for _, words := range []string{
		"ar", "ar r", "ar rc", "ar rcs", "ar t", "ar p", "ar d", "ar x", "ar ''", "ar l.a", "ar x l.a", "ar '' l.a", "ar l.a a", "ar x l.a a", "ar -r l.a a", "ar cr l.a a", "ar rs l.a a", "ar rcsv l.a a", "ar tv l.a", "ar R l.a a",
		"ar q l.a a", "ar s l.a", "ar x no.a", "ar rcss l.a", "ar pp l.a", "ar - l.a",
	} {
		asks(t, f, "", 2, line(words)...)
	}
}

func TestP1104Compile(t *testing.T) {
	long := strings.Repeat("n", 40)
	l := packed(t, member("x", 1, "x"), member(long, 2, "yy"), member("x", 3, "z"))
	start := []string{"a.c=1", "b.c=2", "d/", "d/x.y.c=x", "l.a=" + l, "e.a=" + packed(t), "plain=p", "n=", "bad.a=none", "d.a/", ".c=dot", "-c=", ".a=" + l, "l.a2=" + l}
	for words, want := range map[string]string{
		"-o p a.c b.c": "p=12", "a.c -o p b.c": "p=12", "a.c b.c -o p": "p=12", "-o d/p a.c": "d/p=1", "-o a.c a.c b.c": "a.c=12", "-o -c a.c": "-c=1", "-o -o a.c": "-o=1", "-o -x -c a.c": "-x=1",
		"a.c": "a.out=1", "b.c a.c b.c": "a.out=212", "n": "a.out=", "./d/../a.c": "a.out=1",
		"-c a.c": "a.o=1", "a.c -c": "a.o=1", "-c d/x.y.c b.c": "x.y.o=x2", "-c plain": "plain.o=p", "-c ./.c": ".o=dot", "-c l.a": "l.o=xyyz", "-c -c a.c": "a.o=1", "-c -o p a.c": "p=1", "-o p -c a.c": "p=1", "-c a.c/": ".o=1",
		"-O2 -Wall a.c -lm -": "a.out=1", "-cc a.c": "a.out=1", "-oo a.c": "a.out=1", "--o a.c": "a.out=1", "-c -g a.c": "a.o=1", "-- -c a.c": "a.o=1",
		"l.a": "a.out=xyyz", "a.c l.a b.c": "a.out=1xyyz2", "l.a l.a": "a.out=xyyzxyyz", "e.a": "a.out=", "a.c e.a": "a.out=1", "./d/../l.a": "a.out=xyyz", ".a": "a.out=xyyz",
		"l.a2": "a.out=" + l, "l.a/": "a.out=" + l, "-o q.a a.c": "q.a=1", "-o p -o q a.c": "p=1", "-o p a.c -o p.2": "p=1",
	} {
		name, data, _ := strings.Cut(want, "=")
		writes(t, files(t, start...), name, data, append([]string{"cc"}, line(words)...)...)
	}
	for _, words := range []string{"", "-o", "-c", "-o p", "-o p -c", "-O2", "-", "a.c -o", "-o p a.c -o", "no -o", "-c -o", "bad.a -o", "-o a.c", "-c -g -Wall"} {
		asks(t, files(t, start...), "", 2, append([]string{"cc"}, line(words)...)...)
	}
	for _, words := range []string{
		"no", "a.c no", "no a.c", "-c no", "-o p no a.c", "d", "a.c d", ".", "''", "a.c ''", "bad.a", "a.c bad.a", "bad.a a.c", "no.a", "d.a", "a.c/x", "no/x",
		"-o d a.c", "-o . a.c", "-o '' a.c", "-o no/p a.c", "-o a.c/p a.c", "-o " + strings.Repeat("n", api.MaxName+1) + " a.c", "-o p " + strings.Repeat("n", api.MaxName+1),
	} {
		asks(t, files(t, start...), "", 1, append([]string{"cc"}, line(words)...)...)
	}
}

// What would be too long for a file is an error, however much of it there is.
func TestP1104Long(t *testing.T) {
	full := strings.Repeat("x", api.MaxText)
	f := files(t, "full="+full, "one=y", "half="+full[:api.MaxText/2])
	writes(t, f, "a.out", full, "cc", "full")
	writes(t, f, "a.out", full, "cc", "half", "half")
	asks(t, f, "", 1, "cc", "full", "one")
	asks(t, f, "", 1, "cc", "half", "one", "half")
	asks(t, f, "", 1, append([]string{"cc"}, slices.Repeat([]string{"full"}, 100000)...)...)
	says(t, f, "", 0, "ar", "r", "l.a", "half")
	writes(t, f, "a.out", full, "cc", "half", "l.a")
	asks(t, f, "", 1, "cc", "l.a", "half", "l.a")
	asks(t, f, "", 1, "ar", "r", "l.a", "full")
	asks(t, f, "", 1, "ar", "r", "new.a", "full", "one")
}

// Where there is no room nothing comes of what is to be written, and what went ahead stays.
func TestP1105NoRoom(t *testing.T) {
	// The weight is 5 of 9.
	tight := func() *vfs.FS { return filesIn(t, 9, "a=12", "b=", "d/") }
	writes(t, tight(), "c", "12", "cp", "a", "c")
	writes(t, tight(), "b", "12", "cp", "a", "b")
	full := tight()
	says(t, full, "", 0, "cp", "a", "c")
	says(t, full, "", 0, "touch", "q")
	for _, words := range []string{"cp a e", "touch e", "mkdir e", "mkdir -p e/f", "cp a b", "ar r l.a", "ar rc b a", "cc a", "cc -o b a", "cc -o c a a"} {
		asks(t, full, "", 1, line(words)...)
	}
	asks(t, full, "12", 0, "cat", "c")
	does(t, full, 0, func(g *vfs.FS) { g.Rename("c", "d/c") }, "mv", "c", "d")
	does(t, full, 1, func(g *vfs.FS) { g.Touch("a"); g.Touch("b") }, "touch", "a", "e", "b", "f")
	does(t, full, 0, func(g *vfs.FS) { g.Write("q", nil, false) }, "cc", "-o", "q", "b")
	// Of a way and of several names as much is made as there is room for.
	does(t, tight(), 1, func(g *vfs.FS) { g.Mkdir("e"); g.Mkdir("e/f"); g.Mkdir("e/f/g"); g.Mkdir("e/f/g/h") }, "mkdir", "-p", "e/f/g/h/i", "j")
	does(t, tight(), 1, func(g *vfs.FS) { g.Touch("e"); g.Touch("f"); g.Touch("g"); g.Touch("h"); g.Touch("a") }, "touch", "e", "f", "g", "h", "i", "a")
	many := make([]string, 0, api.MaxNodes)
	for i := range api.MaxNodes {
		many = append(many, fmt.Sprintf("f%04d=", i))
	}
	most := files(t, many...)
	for _, words := range []string{"touch x", "mkdir x", "mkdir -p x/y", "cp f0000 x", "ar r x f0000", "cc f0000"} {
		asks(t, most, "", 1, line(words)...)
	}
}

// What is changed goes from the left, and stays, whatever follows.
func TestP1105FromTheLeft(t *testing.T) {
	f := files(t, "a=1", "b=2", "d/", "d/x=3")
	does(t, f, 1, func(g *vfs.FS) { g.Touch("b"); g.Touch("a"); g.Touch("q") }, "touch", "b", "no/x", "a", "b/x", "q")
	does(t, f, 1, func(g *vfs.FS) { g.Remove("d/x"); g.Remove("d"); g.Remove("q") }, "rm", "no", "d/x", "d", "d", "q")
	does(t, f, 1, func(g *vfs.FS) { g.Mkdir("q"); g.Mkdir("q/r"); g.Mkdir("s"); g.Mkdir("s/t") }, "mkdir", "-p", "q/r", "a/x", "s/t", "b")
	does(t, f, 1, func(g *vfs.FS) { g.Mkdir("u"); g.Mkdir("u/v") }, "mkdir", "u", "a", "u/v", "w/x", "u")
}

// over makes words of bytes that can be written over behind a call, words and the list's spare room alike.
func over(words ...string) (args []string, wipe func(), changed func() bool) {
	var all [][]byte
	room := make([]string, 0, len(words)+2)
	for _, w := range words {
		b := []byte(w)
		all = append(all, b)
		room = append(room, unsafe.String(unsafe.SliceData(b), len(b)))
	}
	room = append(room, "spare", "room")
	args = room[:len(words)]
	wipe = func() {
		for _, b := range all {
			for i := range b {
				b[i] = '#'
			}
		}
		clear(room)
	}
	changed = func() bool { return !slices.Equal(room, append(slices.Clone(words), "spare", "room")) }
	return args, wipe, changed
}

// runOver runs words that are written over behind the call, and asks that neither what was answered nor the tree is turned by that.
func runOver(t *testing.T, f *vfs.FS, words ...string) {
	t.Helper()
	g := f.Twin()
	want, wantStatus, _ := Run(g, slices.Clone(words), []byte("given"))
	args, wipe, changed := over(words...)
	room := []byte("given and spare")
	in := room[:5]
	out, status, ok := Run(f, args, in)
	if changed() || string(room) != "given and spare" {
		t.Errorf("%q: what is handed in is changed", words)
	}
	wipe()
	clear(room)
	if string(out) != string(want) || status != wantStatus || !ok || told(f) != told(g) {
		t.Errorf("%q: %q, %d, %v, %s, not %q, %d, %s", words, out, status, ok, told(f), want, wantStatus, told(g))
	}
	// What was answered is the caller's, its spare room too.
	out = out[:cap(out)]
	for i := range out {
		out[i] = '#'
	}
	if told(f) != told(g) {
		t.Errorf("%q: what was answered is the tree's", words)
	}
	if again, _, _ := Run(f.Twin(), []string{"cat", "a", "-"}, []byte("given")); string(again) != "onegiven" {
		t.Errorf("%q: then cat tells %q", words, again)
	}
}

func TestP1105HandedIn(t *testing.T) {
	f := files(t, "a=one", "b=two", "d/", "l.a="+packed(t, member("a", 1, "first"), member("b", 2, "second")))
	for _, words := range []string{
		"true yes", "echo some words", "echo -n alone", "echo alone", "printf plain", "printf %s word", "printf %s%d\\n word 5 more x", "cat", "cat -", "cat a", "cat a - b", "cp a copied", "cp a d", "mv copied moved", "mv moved d",
		"touch touched a", "mkdir made", "mkdir -p made/on/the/way", "rm touched", "rm -f touched", "test -f a", "test ! 1 -eq 2", "[ -n word ]", "ar rc new.a a b", "ar r l.a d/copied d/moved d/a", "ar t l.a", "ar p l.a", "ar p l.a b",
		"ar d l.a b", "cc a b", "cc -o linked a l.a", "cc -c d/a", "rm no", "cat no", "cp no x",
	} {
		runOver(t, f, strings.Fields(words)...)
	}
}

// An answer has no room in common with another, or with what was handed in.
func TestP1105NewMemory(t *testing.T) {
	f := files(t, "a=one")
	in := append(make([]byte, 0, 99), "given"...)
	var outs [][]byte
	for _, words := range []string{"cat", "cat -", "cat a", "cat a a", "echo x", "printf x", "true"} {
		out, _, _ := Run(f, strings.Fields(words), in)
		outs = append(outs, out)
	}
	for i := range outs {
		_ = append(outs[i], "####"...)
		clear(outs[i])
		for j := i + 1; j < len(outs); j++ {
			if strings.ContainsAny(string(outs[j]), "#\x00") {
				t.Error(i, j, outs[j])
			}
		}
	}
	if string(in[:cap(in)]) != "given"+strings.Repeat("\x00", 94) {
		t.Errorf("what was handed in is %q", in[:cap(in)])
	}
	asks(t, f, "one", 0, "cat", "a")
}

// plainRun is a second telling of the chapter.
func plainRun(f *vfs.FS, args []string, in string) (string, int, bool) {
	if len(args) == 0 {
		return "", 0, false
	}
	out, status := "", 0
	name, words := args[0], args[1:]
	switch name {
	case "true", "false":
		status = len(name) - 4
	case "echo":
		out = strings.Join(words, " ") + "\n"
		if len(words) > 0 && words[0] == "-n" {
			out = strings.Join(words[1:], " ")
		}
	case "printf":
		out, status = plainPrintf(words)
	case "cat":
		out, status = plainCat(f, words, in)
	case "cp", "mv":
		status = plainPlace(f, name, words)
	case "rm", "touch", "mkdir":
		status = plainEach(f, name, words)
	case "[":
		if len(words) == 0 || words[len(words)-1] != "]" {
			return "", 2, true
		}
		words = words[:len(words)-1]
		fallthrough
	case "test":
		status = plainTest(f, words)
	case "ar":
		out, status = plainAr(f, words)
	case "cc":
		status = plainCc(f, words)
	default:
		return "", 0, false
	}
	return out[:min(len(out), api.MaxText)], status, true
}

var (
	tokens  = regexp.MustCompile(`(?s)\\[nt\\]|%[sd%]|.`)
	numeral = regexp.MustCompile(`\A-?[0-9]{1,9}\z`)
)

func plainNumber(s string) (int, bool) {
	if !numeral.MatchString(s) {
		return 0, false
	}
	n, err := strconv.Atoi(s)
	return n, err == nil
}

func plainPrintf(words []string) (string, int) {
	if len(words) == 0 {
		return "", 1
	}
	out, status, at := "", 0, 1
	for {
		first := at
		for _, s := range tokens.FindAllString(words[0], -1) {
			switch s {
			case `\n`, `\t`, `\\`, `%%`:
				s = map[string]string{`\n`: "\n", `\t`: "\t", `\\`: `\`, `%%`: "%"}[s]
			case "%s", "%d":
				number := s == "%d"
				s = map[bool]string{true: "0"}[number]
				if at < len(words) {
					s = words[at]
					n, ok := plainNumber(s)
					if number {
						s = strconv.Itoa(n)
					}
					if number && !ok {
						status = 1
					}
				}
				at++
			}
			out += s
		}
		if at == first || at >= len(words) {
			return out, status
		}
	}
}

func plainCat(f *vfs.FS, words []string, in string) (string, int) {
	if len(words) == 0 {
		return in, 0
	}
	out, status := "", 0
	for _, p := range words {
		b, e := f.Read(p)
		switch {
		case p == "-":
			out += in
		case e != api.OK:
			status = 1
		default:
			out += string(b)
		}
	}
	return out, status
}

func plainPlace(f *vfs.FS, name string, words []string) int {
	if len(words) != 2 {
		return 1
	}
	p, q := words[0], words[1]
	if f.Stat(q).Kind == 2 {
		q += "/" + p[strings.LastIndex(p, "/")+1:]
	}
	e := api.OK
	if name == "mv" {
		e = f.Rename(p, q)
	} else {
		var b []byte
		if b, e = f.Read(p); e == api.OK {
			e = f.Write(q, b, false)
		}
	}
	return int(min(e, 1))
}

func plainEach(f *vfs.FS, name string, words []string) int {
	option := name != "touch" && len(words) > 0 && words[0] == map[string]string{"rm": "-f", "mkdir": "-p"}[name]
	if option {
		words = words[1:]
	}
	status := 0
	if len(words) == 0 && !(name == "rm" && option) {
		status = 1
	}
	for _, p := range words {
		var e api.Errno
		switch name {
		case "rm":
			if e = f.Remove(p); e == api.ErrNone && option {
				e = api.OK
			}
		case "touch":
			e = f.Touch(p)
		case "mkdir":
			e = plainMkdir(f, p, option)
		}
		if e != api.OK {
			status = 1
		}
	}
	return status
}

// plainMkdir makes the parents of p by itself, the outermost first.
func plainMkdir(f *vfs.FS, p string, way bool) api.Errno {
	if !way {
		return f.Mkdir(p)
	}
	if f.Stat(p).Kind == 2 {
		return api.OK
	}
	if up := path.Parent(p); up != "" {
		if e := plainMkdir(f, up, true); e != api.OK {
			return e
		}
	}
	return f.Mkdir(p)
}

func plainTest(f *vfs.FS, e []string) int {
	holds := false
	switch {
	case len(e) > 4:
		return 2
	case len(e) == 3 && plainSign(e[1]):
		return plainPair(f, e[0], e[1], e[2])
	case len(e) > 1 && e[0] == "!":
		return []int{1, 0, 2}[plainTest(f, e[1:])]
	case len(e) > 2:
		return 2
	case len(e) < 2:
		holds = strings.Join(e, "") != ""
	case e[0] == "-n" || e[0] == "-z":
		holds = (e[1] == "") == (e[0] == "-z")
	case e[0] == "-e":
		holds = f.Stat(e[1]) != api.Stat{}
	case e[0] == "-f" || e[0] == "-s":
		_, g := f.Read(e[1])
		holds = g == api.OK && (e[0] == "-f" || f.Stat(e[1]).Size != 0)
	case e[0] == "-d":
		_, g := f.List(e[1])
		holds = g == api.OK
	default:
		return 2
	}
	return map[bool]int{true: 0, false: 1}[holds]
}

func plainSign(s string) bool {
	return slices.Contains(strings.Fields("= != -eq -ne -lt -le -gt -ge -nt -ot"), s)
}

func plainPair(f *vfs.FS, a, sign, b string) int {
	order, there := strings.Compare(a, b), true
	if sign == "-nt" || sign == "-ot" {
		order = f.Stat(a).Time - f.Stat(b).Time
		there = f.Stat(a).Kind*f.Stat(b).Kind > 0
	} else if sign != "=" && sign != "!=" {
		n, ok := plainNumber(a)
		m, also := plainNumber(b)
		if !ok || !also {
			return 2
		}
		order = n - m
	}
	less, same, more := order < 0, order == 0, order > 0
	holds := map[string]bool{"=": same, "!=": !same, "-eq": same, "-ne": !same, "-lt": less, "-le": !more, "-gt": more, "-ge": !less, "-nt": more, "-ot": less}
	if there && holds[sign] {
		return 0
	}
	return 1
}

func plainAr(f *vfs.FS, words []string) (string, int) {
	if len(words) < 2 || !slices.Contains([]string{"r", "rc", "rcs", "t", "p", "d"}, words[0]) {
		return "", 2
	}
	key, name, operands := words[0], words[1], words[2:]
	b, e := f.Read(name)
	if e == api.ErrNone && key[0] == 'r' {
		b, e = []byte("!<arch>\n"), api.OK
	}
	l, g := ar.Parse(b)
	if e != api.OK || g != api.OK {
		return "", 1
	}
	out := ""
	if key == "t" {
		operands = nil
	}
	if key == "p" && len(operands) == 0 {
		for _, m := range l {
			out += string(m.Data)
		}
	}
	for _, p := range operands {
		if key[0] == 'r' {
			data, e := f.Read(p)
			if e != api.OK {
				return "", 1
			}
			l = ar.Put(l, member(path.NotDir(p), f.Stat(p).Time, string(data)))
			continue
		}
		at := slices.IndexFunc(l, func(m api.Member) bool { return m.Name == p })
		if at < 0 {
			return "", 1
		}
		if key == "p" {
			out += string(l[at].Data)
		} else {
			l = append(l[:at:at], l[at+1:]...)
		}
	}
	switch key {
	case "t":
		for _, m := range l {
			out += m.Name + "\n"
		}
		fallthrough
	case "p":
		return out, 0
	}
	b, e = ar.Write(l)
	if e != api.OK || f.Write(name, b, false) != api.OK {
		return "", 1
	}
	return "", 0
}

func plainCc(f *vfs.FS, words []string) int {
	var ins, outs []string
	object, all := false, ""
	for len(words) > 0 {
		switch {
		case words[0] == "-o":
			if len(words) == 1 {
				return 2
			}
			outs = append(outs, words[1])
			words = words[1:]
		case words[0] == "-c":
			object = true
		case words[0] == "" || words[0][0] != '-':
			ins = append(ins, words[0])
		}
		words = words[1:]
	}
	if len(ins) == 0 {
		return 2
	}
	for _, p := range ins {
		b, e := f.Read(p)
		if e != api.OK {
			return 1
		}
		if !strings.HasSuffix(p, ".a") {
			all += string(b)
			continue
		}
		l, e := ar.Parse(b)
		if e != api.OK {
			return 1
		}
		for _, m := range l {
			all += string(m.Data)
		}
	}
	if object {
		outs = append(outs, path.Base(path.NotDir(ins[0]))+".o")
	}
	return int(min(f.Write(append(outs, "a.out")[0], []byte(all), false), 1))
}

// asThePlain runs words here and as the second telling has it, over the same tree.
func asThePlain(t *testing.T, f *vfs.FS, in string, words ...string) {
	t.Helper()
	g := f.Twin()
	want, wantStatus, wantOk := plainRun(g, words, in)
	out, status, ok := Run(f, words, []byte(in))
	if string(out) != want || status != wantStatus || ok != wantOk {
		t.Errorf("%.200q: %.200q, %d, %v, not %.200q, %d, %v", words, out, status, ok, want, wantStatus, wantOk)
	}
	if told(f) != told(g) {
		t.Errorf("%.200q: the tree is %.300s, not %.300s", words, told(f), told(g))
	}
}

// Words for calls at random: each utility's own, and some that any may have.
func wordsFor(name string) []string {
	own := map[string]string{
		"echo": "-n -n a", "printf": `%s %d %s-%d\n \t%%\\ %z\q %d%s 5 -07 1x %`, "cat": "- -", "cp": "a b d new", "mv": "a b d new", "rm": "-f -f a b new d/new", "touch": "a b new", "mkdir": "-p -p new new/x/y d/e/f",
		"test": "! ! -n -z -e -f -d -s = != -eq -ne -lt -le -gt -ge -nt -ot 1 -1 01 a", "[": "! ! -n -z -e -f -d -s = != -eq -ne -lt -le -gt -ge -nt -ot 1 -1 01 ] ] ]",
		"ar": "r rc rcs t p d t p d l.a l.a m.a l.a a b a b x", "cc": "-o -c -O2 -o a b l.a m.a x.c a.out",
	}
	any := "a b d d/x no no/x a/x l.a m.a d/l.a . '' - ./a d/../b d/e/f x.c x.o a.out a/ d/ new ] ! -f -n " + strings.Repeat("n", 15)
	own[name] += " " + own[name] + " " + own[name]
	return line(own[name] + " " + any)
}

func TestSecondTelling(t *testing.T) {
	names := strings.Fields("true false echo printf cat cp mv rm touch mkdir test test test [ [ ar ar ar cc cc nothing")
	r := rand.New(rand.NewSource(11))
	for round := range 300 {
		f := filesIn(t, 300+r.Intn(600), "a=1", "b=22", "d/", "d/x=x", "x.c=int x;", "l.a="+packed(t, member("a", 1, "1"), member("x", 2, "odd")))
		for range 120 {
			words := []string{names[r.Intn(len(names))]}
			pool := wordsFor(words[0])
			for range r.Intn(6) {
				words = append(words, pool[r.Intn(len(pool))])
			}
			if words[0] == "[" && r.Intn(4) > 0 {
				words = append(words, "]")
			}
			asThePlain(t, f, "in\n", words...)
		}
		if t.Failed() {
			t.Fatal("round", round)
		}
	}
}

// all hands every list of up to most words to use.
func all(most int, words []string, use func([]string)) {
	lists := [][]string{nil}
	for range most + 1 {
		var next [][]string
		for _, l := range lists {
			use(l)
			for _, w := range words {
				next = append(next, append(slices.Clip(l), w))
			}
		}
		lists = next
	}
}

func TestSecondTellingOfAllShort(t *testing.T) {
	f := files(t, "a=1", "b=22", "n=", "d/", "d/x=x", "l.a="+packed(t, member("a", 1, "1"), member("b", 2, "odd")))
	is := func(name string, most int, words string) {
		all(most, line(words), func(l []string) { asThePlain(t, f.Twin(), "in", append([]string{name}, l...)...) })
	}
	is("test", 3, "! '' a -n -z -f -d -e -s = != -nt -ot -eq -lt -ge 1 -01 d")
	is("test", 5, "! a = -n ''")
	is("[", 4, "! a = ] -n")
	is("printf", 3, `%d%d%s %d %% x 1`)
	is("printf", 2, `% \ %s %d %% \\ a -07 x`)
	is("echo", 4, "-n a ''")
	is("cat", 3, "- a no d n")
	is("cp", 3, "a b d d/x no . a/")
	is("mv", 3, "a b d d/x no . a/")
	is("rm", 3, "-f a d d/x no")
	is("touch", 3, "a d no no/x a/x")
	is("mkdir", 3, "-p a d q q/r a/x")
	is("ar", 4, "r rcs t p d x l.a a b no")
	is("cc", 4, "-o -c -x a b l.a no d")
	formats := []string{"%", `\`, "s", "d", "n", "t", "a"}
	all(5, formats, func(l []string) { asThePlain(t, f, "", "printf", strings.Join(l, ""), "5", "x", "") })
}

func TestNoFileSystem(t *testing.T) {
	for _, words := range []string{"true", "echo a", "cat", "cat a", "cp a b", "mv a b", "rm a", "rm -f a", "touch a", "touch .", "mkdir a", "mkdir -p a/b", "mkdir -p .", "test -e a", "test -d .", "test a -nt b", "ar r l.a", "ar t l.a", "cc a", "nothing"} {
		out, status, ok := Run(nil, line(words), []byte("in"))
		want, wantStatus, wantOk := plainRun(files(t).Twin(), line(words), "in")
		if changes := strings.Fields("touch mkdir ar"); slices.Contains(changes, line(words)[0]) && wantStatus == 0 && !strings.HasSuffix(words, ".") {
			wantStatus = 1
		}
		if string(out) != want || status != wantStatus || ok != wantOk {
			t.Errorf("%q: %q, %d, %v, not %q, %d, %v", words, out, status, ok, want, wantStatus, wantOk)
		}
	}
}

// What is answered, and what is changed, hangs on the arguments alone.
func TestHangsOnItsArgumentsAlone(t *testing.T) {
	lines := strings.Split("echo a b;printf %s-%d\\n a 5 b x;cat a - b;cp a c;mv a c;rm -f a no;mkdir -p q/r;ar rc l.a a b;cc -o p a b;test b -nt a;[ -f a ]", ";")
	run := func(s string) string {
		f := files(t, "a=1", "b=2")
		out, status, ok := Run(f, strings.Fields(s), []byte("in"))
		return fmt.Sprintf("%q %d %v %s", out, status, ok, told(f))
	}
	var first []string
	for _, s := range lines {
		first = append(first, run(s))
	}
	var wait sync.WaitGroup
	for g := range 8 {
		wait.Go(func() {
			for i := range 200 {
				if at := (i*7 + g) % len(lines); run(lines[at]) != first[at] {
					t.Errorf("%q is told otherwise", lines[at])
				}
			}
		})
	}
	wait.Wait()
}

func TestFaults(t *testing.T) {
	err := met("a/b", api.ErrNotDir)
	if !errors.Is(err, api.ErrNotDir) || errors.Is(err, api.ErrNone) || !strings.HasPrefix(err.Error(), "a/b: ") {
		t.Error(err)
	}
	if met("a", api.OK) != nil {
		t.Error("OK is an error")
	}
}

func FuzzRun(f *testing.F) {
	for _, s := range []string{"echo\x00-n\x00a", "printf\x00%s-%d\\n\x00a\x005", "cat\x00a\x00-", "test\x00!\x00a\x00=\x00b", "[\x00-f\x00a\x00]", "ar\x00rc\x00l.a\x00a", "ar\x00p\x00l.a", "cc\x00-o\x00p\x00a\x00l.a", "mkdir\x00-p\x00x/y", "mv\x00a\x00d", "rm\x00-f\x00a\x00no"} {
		f.Add(s, "in")
	}
	f.Fuzz(func(t *testing.T, words, in string) {
		fs := filesIn(t, 2000, "a=1", "b=22", "d/", "d/x=x", "l.a="+packed(t, member("a", 1, "1"), member("x", 2, "odd")))
		asThePlain(t, fs, in, strings.Split(words, "\x00")...)
		asThePlain(t, fs, in, append([]string{"printf"}, strings.Split(words, "\x00")...)...)
		asThePlain(t, fs, in, append([]string{"cc", "-c"}, strings.Split(words, "\x00")...)...)
	})
}
