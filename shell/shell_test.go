package shell

import (
	"errors"
	"fmt"
	"slices"
	"strings"
	"sync"
	"testing"
	"unsafe"

	"anvil/api"
	"anvil/vfs"
)

// files makes a file system of texts NAME=DATA, each changed behind the one ahead; those that end in / are directories.
func files(t testing.TB, texts ...string) *vfs.FS {
	t.Helper()
	return filesIn(t, api.MaxRoom, texts...)
}

// filesIn is files with that room.
func filesIn(t testing.TB, room int, texts ...string) *vfs.FS {
	t.Helper()
	f, e := vfs.New(api.Tree{Room: room})
	for _, s := range texts {
		name, data, _ := strings.Cut(s, "=")
		if e == api.OK && strings.HasSuffix(s, "/") {
			e = f.Mkdir(s)
		} else if e == api.OK {
			e = f.Write(name, []byte(data), false)
		}
	}
	if e != api.OK {
		t.Fatal(texts, e)
	}
	return f
}

// sample has the files that most of the scripts below are about.
func sample(t testing.TB) *vfs.FS {
	t.Helper()
	return files(t, "f=one\n", "g=two\n", "empty=", "d/", "d/x=x")
}

// told writes a tree out, so that nil and empty lists are the same.
func told(f *vfs.FS) string {
	tree := f.Tree()
	var b strings.Builder
	fmt.Fprintf(&b, "%d %d", tree.Clock, tree.Room)
	for _, n := range tree.Nodes {
		fmt.Fprintf(&b, " | %q %v %d %q", n.Path, n.Dir, n.Time, n.Data)
	}
	return b.String()
}

// pairs makes variables of texts NAME=VALUE.
func pairs(texts ...string) []api.Pair {
	var l []api.Pair
	for _, s := range texts {
		name, value, _ := strings.Cut(s, "=")
		l = append(l, api.Pair{Name: name, Value: value})
	}
	return l
}

// environment is what the scripts below are run with.
func environment() []api.Pair { return pairs("E=v", "S=x y", "N=", "E=w") }

// maker is a make that notes what it was asked.
type maker struct {
	asked  []string
	answer func(args []string, env []api.Pair, fuel int) api.Done
}

func (m *maker) Make(args []string, env []api.Pair, fuel int) api.Done {
	m.asked = append(m.asked, fmt.Sprintf("%q %q %d", args, env, fuel))
	return m.answer(args, env, fuel)
}

// isZero asks that beside ErrFuel nothing is told.
func isZero(d api.Done) bool {
	return d.Err == api.ErrFuel && d.Status == 0 && d.Fuel == 0 && len(d.Out) == 0
}

// costs runs a script with much fuel, with just what it costs, and with each amount less (some of them, of many).
func costs(t *testing.T, f *vfs.FS, cmd, out string, status, fuel int) {
	t.Helper()
	for _, more := range []int{0, 1, 1000} {
		g := f.Twin()
		d := Run(g, environment(), cmd, fuel+more, nil)
		if string(d.Out) != out || d.Status != status || d.Fuel != more || d.Err != api.OK {
			t.Errorf("%.300q with %d: %.100q, %d, %d, %d, not %.100q, %d, %d", cmd, fuel+more, d.Out, d.Status, d.Fuel, int(d.Err), out, status, more)
		}
	}
	for less := fuel - 1; less >= 0; less = min(less-1, less*9/10) {
		if d := Run(f.Twin(), environment(), cmd, less, nil); !isZero(d) {
			t.Errorf("%.300q with %d: %.100q, %d, %d, %d, not ErrFuel", cmd, less, d.Out, d.Status, d.Fuel, int(d.Err))
		}
	}
}

// row is a script, what it prints, its status and its cost.
type row struct {
	cmd, out     string
	status, fuel int
}

func costAll(t *testing.T, rows []row) {
	t.Helper()
	f := sample(t)
	for _, x := range rows {
		costs(t, f, x.cmd, x.out, x.status, x.fuel)
	}
}

// does asks that a script prints that, has that status, and leaves just these changes behind.
func does(t *testing.T, f *vfs.FS, cmd, out string, status int, changes func(g *vfs.FS)) {
	t.Helper()
	g := f.Twin()
	changes(g)
	d := Run(f, environment(), cmd, 1000, nil)
	if string(d.Out) != out || d.Status != status || d.Err != api.OK {
		t.Errorf("%.300q: %.100q, %d, %d, not %.100q, %d", cmd, d.Out, d.Status, int(d.Err), out, status)
	}
	if told(f) != told(g) {
		t.Errorf("%.300q: the tree is %.400s, not %.400s", cmd, told(f), told(g))
	}
}

func nothing(*vfs.FS) {}

// put writes files of texts NAME=DATA, empty at first and then what was printed, as a redirection does.
func put(texts ...string) func(*vfs.FS) {
	return func(g *vfs.FS) {
		for _, s := range texts {
			name, data, _ := strings.Cut(s, "=")
			g.Write(name, nil, false)
			if data != "" {
				g.Write(name, []byte(data), true)
			}
		}
	}
}

func TestExamples(t *testing.T) {
	costAll(t, []row{
		{"a=1; echo $a $(echo 2)", "1 2\n", 0, 3},
		{"false || echo x; (exit 3); echo $?", "x\n3\n", 0, 4},
		{"for i in a b; do echo $i > $i.t; done; cat *.t", "a\nb\n", 0, 5},
		{"echo a b | while false; do :; done", "", 0, 3},
		{"nothing", "", 127, 1},
		{"a &&", "", 2, 0},
		{"case x.c in *.c) echo c;; *) echo d;; esac", "c\n", 0, 1},
		{"echo a; echo b", "a\nb\n", 0, 2},
	})
}

// P1201: what is no script.
func TestP1201NoScript(t *testing.T) {
	f := sample(t)
	before := told(f)
	long := "echo " + strings.Repeat("a", api.MaxText)
	deep := strings.Repeat("(", 61) + "echo a" + strings.Repeat(")", 61)
	for _, cmd := range []string{";", "a &&", "fi", "a &", "( a", "'", "echo 'a", "echo $(", "echo a; )", "echo a >f; echo b >", "{ echo a", "for 1 in a; do b; done", "echo a | | b", "case a in", "!", "\"`\"", long, deep, "echo a >f\n}", "a=1 (b)"} {
		for _, fuel := range []int{0, 1, 7, api.MaxFuel, 1 << 62} {
			if d := Run(f, environment(), cmd, fuel, nil); len(d.Out) != 0 || d.Status != 2 || d.Fuel != fuel || d.Err != api.OK {
				t.Errorf("%.50q with %d: %+v", cmd, fuel, d)
			}
		}
		for _, fuel := range []int{-1, -7, -1 << 63} {
			if d := Run(f, environment(), cmd, fuel, nil); len(d.Out) != 0 || d.Status != 2 || d.Fuel != 0 || d.Err != api.OK {
				t.Errorf("%.50q with %d: %+v", cmd, fuel, d)
			}
		}
	}
	if told(f) != before {
		t.Error("the tree is changed")
	}
	// At the limits there is still a script.
	costs(t, f, long[:api.MaxText], strings.Repeat("a", api.MaxText-5)+"\n", 0, 1)
	costs(t, f, deep[1:len(deep)-1], "a\n", 0, 1)
}

func TestP1201Empty(t *testing.T) {
	costAll(t, []row{{"", "", 0, 0}, {"\n\n", "", 0, 0}, {"  \t", "", 0, 0}, {"# echo a", "", 0, 0}, {"\\\n", "", 0, 0}, {"\n# a\n\n", "", 0, 0}})
	for _, fuel := range []int{-1, -5, -1 << 63} {
		if d := Run(sample(t), nil, "", fuel, nil); d.Err != api.OK || d.Fuel != 0 || d.Status != 0 || len(d.Out) != 0 {
			t.Errorf("with %d: %+v", fuel, d)
		}
		if d := Run(sample(t), nil, "true", fuel, nil); !isZero(d) {
			t.Errorf("with %d: %+v", fuel, d)
		}
	}
}

// P1201, P1205: what each kind of command costs; costs asks for each amount below that, too.
func TestP1201Fuel(t *testing.T) {
	costAll(t, []row{
		{"true", "", 0, 1},
		{":", "", 0, 1},
		{"exit", "", 0, 1},
		{"exit 3; true", "", 3, 1},
		{"export a=1", "", 0, 1},
		{"unset a", "", 0, 1},
		{"make", "", 127, 1},
		{"no", "", 127, 1},
		{"a=1", "", 0, 1},
		{"a=1 b=2", "", 0, 1},
		{"a=1 true", "", 0, 1},
		{"${1}", "", 2, 1},
		{">out", "", 0, 1},
		{"<no", "", 1, 1},
		{"true; true", "", 0, 2},
		{"true && true", "", 0, 2},
		{"false && true", "", 1, 1},
		{"true || true", "", 0, 1},
		{"false || true", "", 0, 2},
		{"true | true", "", 0, 2},
		{"true | true | true", "", 0, 3},
		{"! true", "", 1, 1},
		{"(true)", "", 0, 1},
		{"{ true; }", "", 0, 1},
		{"{ true; } >${1}", "", 2, 0},
		{"{ true; } <no", "", 1, 0},
		{"{ true; } >out", "", 0, 1},
		{"if true; then true; fi", "", 0, 2},
		{"if false; then true; fi", "", 0, 1},
		{"if false; then true; else true; fi", "", 0, 2},
		{"if false; then true; elif false; then true; fi", "", 0, 2},
		{"while false; do true; done", "", 0, 2},
		{"while ! test -f u; do touch u; done", "", 0, 5},
		{"until true; do true; done", "", 0, 2},
		{"for i in; do true; done", "", 0, 0},
		{"for i; do true; done", "", 0, 0},
		{"for i in a; do true; done", "", 0, 2},
		{"for i in a b c; do case a in b) ;; esac; done", "", 0, 3},
		{"for i in a b c; do true; done", "", 0, 6},
		{"for i in $(echo a b); do true; done", "", 0, 5},
		{"for i in ${1}; do true; done", "", 2, 0},
		{"case a in a) ;; esac", "", 0, 0},
		{"case a in b) true;; esac", "", 0, 0},
		{"case a in a) true;; esac", "", 0, 1},
		{"case $(echo a) in $(echo b)|$(echo a)) true;; $(echo c)) ;; esac", "", 0, 4},
		{"case ${1} in a) ;; esac", "", 2, 0},
		{"echo $(true) `true`", "\n", 0, 3},
		{"echo $(echo $(echo a))", "a\n", 0, 3},
		{"echo \"$(true; true)\"", "\n", 0, 3},
		{"a=$(true)", "", 0, 2},
		{"true >$(echo out)", "", 0, 2},
		{"true $(a &&)", "", 0, 1},
		{"(true; exit 4; true) | { true; true; }", "", 0, 4},
		{"while true; do exit 5; done", "", 5, 3},
	})
}

// P1205: a loop without an end is out of fuel, whatever there is.
func TestP1205LoopsWithoutEnd(t *testing.T) {
	for _, cmd := range []string{
		"while true; do :; done", "until false; do :; done", "while case a in a) ;; esac; do case a in a) ;; esac; done", "while (true); do (true); done", "while true; do echo a; done >f", "echo $(while true; do :; done)",
		"while :; do exit 1 | :; done", "while $(:); do :; done", "while true; do ${1}; done", "until <no; do :; done", "while true; do while true; do :; done; done", "until { :; } <no; do ! :; done", "while :; do for i in a b; do :; done; done",
	} {
		for _, fuel := range []int{-3, 0, 1, 2, 3, 4, 10, 101, 10000} {
			if d := Run(sample(t), nil, cmd, fuel, nil); !isZero(d) {
				t.Errorf("%q with %d: %+v", cmd, fuel, d)
			}
		}
	}
}

// P1201: beside ErrFuel nothing is told of what was printed, set or ended by then.
func TestP1201OutOfFuelTellsNothing(t *testing.T) {
	f := sample(t)
	for _, cmd := range []string{"echo a; true", "false; exit 3; true", "false; (echo b; true)", "echo c | cat", "echo d >f; true", "{ echo e; true; } >f", "echo $(echo x; true)", "for i in a b; do echo $i; done", "a=$(echo $(true; true))", "case $(false) in $(true)) ;; esac", "true >$(true)", "true <$(true) >${1}", "{ true; } <f >$(echo x; true)", "exit $(true)"} {
		if d := Run(f.Twin(), environment(), cmd, 1, nil); !isZero(d) {
			t.Errorf("%q: %+v", cmd, d)
		}
	}
}

func TestP1202Words(t *testing.T) {
	costAll(t, []row{
		{"echo a 'b  c' \"d\" \\e", "a b  c d e\n", 0, 1},
		{"echo $S \"$S\"", "x y x y\n", 0, 1},
		{"echo $S'  '\"$S\"", "x y  x y\n", 0, 1},
		{"echo *", "d empty f g\n", 0, 1},
		{"echo '*' d/* no*", "* d/x no*\n", 0, 1},
		{"echo ${none-a b} ${none:=c} $none", "a b c c\n", 0, 1},
		{"$S", "", 127, 1},
		{"${none-echo a}", "a\n", 0, 1},
		{"'echo' a", "a\n", 0, 1},
		{"$N echo a", "a\n", 0, 1},
		{"e\\cho a", "a\n", 0, 1},
		{"a=echo; $a b", "b\n", 0, 2},
		{"''", "", 127, 1},
		{"'' echo", "", 127, 1},
		{"echo $(echo 'a b'; echo c)", "a b c\n", 0, 3},
		{"echo \"$(echo 'a b'; echo c)\"", "a b\nc\n", 0, 3},
		{"echo `echo x` \"`echo 'y z'`\"", "x y z\n", 0, 3},
		{"echo $(echo $(echo a) `echo b`)", "a b\n", 0, 4},
		{"echo `echo \\`echo a\\``", "a\n", 0, 3},
		{"echo $(printf 'a\\n\\n\\n')b", "ab\n", 0, 2},
		{"echo x$(nothing)y", "xy\n", 0, 2},
		{"echo $(echo '*')", "d empty f g\n", 0, 2},
		{"echo \"$(echo '*')\"", "*\n", 0, 2},
		{"echo '$(echo a)' \\$\\(echo b\\)", "$(echo a) $(echo b)\n", 0, 1},
		{"echo ${none:-$(echo a)} ${E:-$(echo b)}", "a v\n", 0, 2},
		{"echo ${a:=1}$(echo $a)", "11\n", 0, 2},
		{"echo $(a=2; echo $a)${a-none}", "2none\n", 0, 3},
		{"echo $(echo ${a=3})${a-none}", "3none\n", 0, 2},
		{"echo $(a &&)b", "b\n", 0, 1},
		{"echo $(')')", "\n", 0, 2},
		{"false; echo $? $(echo $?) $(exit 4) $?", "1 1 1\n", 0, 4},
		{"echo a # b", "a\n", 0, 1},
		{"echo a\\\nb", "ab\n", 0, 1},
	})
}

// P1202: "without words" is without a field.
func TestP1202WithoutWords(t *testing.T) {
	costAll(t, []row{
		{"$none", "", 0, 1},
		{"$N $none", "", 0, 1},
		{"false; $none", "", 0, 2},
		{"$(exit 3)", "", 3, 2},
		{"$(exit 3) $(exit 4)", "", 4, 3},
		{"$(exit 3) $none", "", 3, 2},
		{"`exit 5`", "", 5, 2},
		{"$(true) `false`", "", 1, 3},
		{"\"$(exit 3)\"", "", 127, 2},
		{"a=1 $none; echo $a", "1\n", 0, 2},
		{"a=1; echo $a", "1\n", 0, 2},
		{"a=1 b=$a; echo $b", "1\n", 0, 2},
		{"a=1 b=$a c=$b$a; echo $c", "11\n", 0, 2},
		{"a=1 a=${a}2 a=${a}3; echo $a", "123\n", 0, 2},
		{"b=$a a=1; echo $b-$a", "-1\n", 0, 2},
		{"a='x  y' b=*; echo \"$a$b\"", "x  y*\n", 0, 2},
		{"a=\"$S\" b=$S; echo \"$b\"", "x y\n", 0, 2},
		{"a=; echo ${a-none} ${a:-empty}", "empty\n", 0, 2},
		{"a=b=c; echo $a", "b=c\n", 0, 2},
		{"E=1; echo $E", "1\n", 0, 2},
		{"a=1\nb=2\necho $a$b", "12\n", 0, 3},
		{"a=1 >out; echo $a; test -f out", "1\n", 0, 3},
		{"a=1 >no/x; echo $? ${a-none}", "1 none\n", 0, 2},
		{"a=1 <no; echo $? ${a-none}", "1 none\n", 0, 2},
		{"a=1 <no $none; echo $? ${a-none}", "1 none\n", 0, 2},
		{"a=0; a=1 >$a.t <no; echo $a; test -f 1.t; echo $?", "0\n0\n", 0, 5},
		{"a=1 >${1}; echo $? ${a-none}", "2 none\n", 0, 2},
		{"a=1 b=${1}; echo $? ${a-none}", "2 none\n", 0, 2},
		{"a=$(exit 3)", "", 3, 2},
		{"a=$(exit 3); echo $?", "3\n", 0, 3},
		{"a=$(exit 3) b=$(exit 4)", "", 4, 3},
		{"a=$(exit 3) b=$(true)", "", 0, 3},
		{"a=$(exit 3) b=2", "", 3, 2},
		{"a=$(exit 3) $(exit 4)", "", 3, 3},
		{"a=1 $(exit 4)", "", 4, 2},
		{"a=$(exit 3) >$(echo out; exit 4)", "", 4, 4},
		{"a=$(exit 3) >out", "", 3, 2},
		{">$(echo out; exit 6)", "", 6, 3},
		{"a=$(exit 3) >$(exit 4)", "", 1, 3},
		{"false; a=1; echo $?", "0\n", 0, 3},
		{"false; a=$?; echo $a", "1\n", 0, 3},
		{"a=$(exit 3) b=$?; echo $b", "0\n", 0, 3},
		{"a=$(echo x y; echo z); echo \"$a\"", "x y\nz\n", 0, 4},
		{"a=1 b=$(echo $a; a=2) c=$a; echo $b$c", "11\n", 0, 4},
		{"a=$(a &&); echo $?", "2\n", 0, 2},
		{"a=${b:=1}; echo $a$b", "11\n", 0, 2},
		{"a= b=${a:=2}; echo $a$b", "22\n", 0, 2},
	})
}

// P1202: assignments ahead of words stand for that command alone.
func TestP1202AssignmentsForOne(t *testing.T) {
	costAll(t, []row{
		{"a=1 echo $a", "\n", 0, 1},
		{"a=1 true; echo ${a-none}", "none\n", 0, 2},
		{"a=0; a=1 true; echo $a", "0\n", 0, 3},
		{"a=1 b=$a true >$b.t; echo *.t", "1.t\n", 0, 2},
		{"a=f cat <$a", "one\n", 0, 1},
		{"a=f b=$a cat <$b", "one\n", 0, 1},
		{"a=1 exit 3", "", 3, 1},
		{"a=1 :; echo ${a-none}", "none\n", 0, 2},
		{"a=1 no; echo $? ${a-none}", "127 none\n", 0, 2},
		{"a=1 export b=2; echo ${a-none} $b", "none 2\n", 0, 2},
		{"a=1 export a; echo ${a-none}", "none\n", 0, 2},
		{"a=1 export a=2; echo $a", "2\n", 0, 2},
		{"a=0; a=1 unset a; echo ${a-none}", "none\n", 0, 3},
		{"a=$(exit 3) true; echo $?", "0\n", 0, 3},
		{"a=$(exit 3) false; echo $?", "1\n", 0, 3},
		{"a=1 cat <no; echo $? ${a-none}", "1 none\n", 0, 2},
		{"a=1 cat >${1}; echo $? ${a-none}", "2 none\n", 0, 2},
		{"a=x b=$(echo $a) true >$b.t; echo *.t", "x.t\n", 0, 3},
		{"b=${a:=1} true; echo $a ${b-none}", "1 none\n", 0, 2},
		{"a= b=${a:=1} true >$a.t; echo *.t ${a-none}", "1.t none\n", 0, 2},
		{"a=1 eval", "", 127, 1},
	})
}

// P1202: an expansion's error, wherever it stands: the status is 2, the command is not run.
func TestP1202ExpansionErrors(t *testing.T) {
	manyFields := strings.Repeat("$L ", 3)
	tooLong := strings.Repeat("$B", 3)
	for _, bad := range []string{"${1}", "a${}b", "\"${a:x}\"", "$(true)${1}", tooLong, "${none:-${1}}", "${none=${1}}", "${1}$(exit 3)"} {
		for _, x := range []string{"echo %", "% echo", "touch no %", "touch no >%", "touch no <%", "touch no >>%", "touch no >% >no2", "touch no <no >%", "a=% touch no", "a=1 b=%", "a=%", "exit %", "export a=%", ">%", "<f >%", "touch no% *", "echo '%' %"} {
			cmd := strings.ReplaceAll(x, "%", bad)
			want := 2
			if x == "touch no <no >%" {
				want = 1
			}
			f := sample(t)
			before := told(f)
			env := append(environment(), pairs("B="+strings.Repeat("x", 30000))...)
			d := Run(f, env, cmd, 10, nil)
			if len(d.Out) != 0 || d.Status != want || d.Err != api.OK || told(f) != before {
				t.Errorf("%q: %+v, %s", cmd, d, told(f))
			}
			d = Run(f, env, cmd+"; echo $?${a-none}${b-none}", 20, nil)
			if string(d.Out) != fmt.Sprint(want)+"nonenone\n" {
				t.Errorf("%q: then %q", cmd, d.Out)
			}
		}
	}
	env := append(environment(), pairs("L="+strings.Repeat("x ", 2000))...)
	if d := Run(sample(t), env, "echo "+manyFields, 10, nil); d.Status != 2 || len(d.Out) != 0 {
		t.Errorf("%+v", d)
	}
	if d := Run(sample(t), env, "echo $L $L", 10, nil); d.Status != 0 || len(d.Out) != 8000 {
		t.Errorf("%+v", d)
	}
}

// What an expansion has set ahead of its error is not set; what another one has set is.
func TestP1202ErrorsSetNothing(t *testing.T) {
	costAll(t, []row{
		{"echo ${a:=1} ${1}; echo ${a-none}", "none\n", 0, 2},
		{"echo ${a:=1}${b:=2}${1}; echo ${a-none}${b-none}", "nonenone\n", 0, 2},
		{"c=${1} echo ${a:=1}; echo ${a-none}", "1\n", 0, 2},
		{"c=${a:=1}${1} echo; echo ${a-none}", "none\n", 0, 2},
		{"c=${a:=1} d=${1}; echo ${a-none}${c-none}", "1none\n", 0, 2},
		{"E= d=${E:=1}${1}; echo $E", "v\n", 0, 2},
		{"echo ${N:=1} ${1}; echo ${N-none}", "\n", 0, 2},
		{"for i in ${a:=1} ${1}; do :; done; echo ${a-none}", "none\n", 0, 1},
		{"case ${a:=1} in ${b:=2}|${c:=3}${1}) ;; esac; echo ${a-none}${b-none}${c-none}", "12none\n", 0, 1},
		{"{ :; } >${a:=1}${1}; echo ${a-none}", "none\n", 0, 1},
	})
	// What a command in the word has changed stays changed.
	does(t, sample(t), "echo $(touch x) ${1}", "", 2, func(g *vfs.FS) { g.Touch("x") })
	does(t, sample(t), "echo ${1} $(touch x)", "", 2, nothing)
}

// P1202: each redirection, of files that are there, that are not, and that can't be.
func TestP1202Redirections(t *testing.T) {
	f := sample(t)
	does(t, f, "cat <f", "one\n", 0, nothing)
	does(t, f, "cat <empty", "", 0, nothing)
	does(t, f, "cat <./d/../f", "one\n", 0, nothing)
	does(t, f, "<f cat", "one\n", 0, nothing)
	does(t, f, "<f", "", 0, nothing)
	does(t, f, "cat <f <g", "two\n", 0, nothing)
	does(t, f, "cat <f <empty", "", 0, nothing)
	does(t, f, "cat g - <f", "two\none\n", 0, nothing)
	does(t, f, "echo a <f", "a\n", 0, nothing)
	for _, bad := range []string{"no", "d", "no/x", "f/x", "''", "..", "/", "$none", strings.Repeat("a", 256)} {
		does(t, f, "echo a <"+bad, "", 1, nothing)
		does(t, f, "echo a <f <"+bad, "", 1, nothing)
		does(t, f, "echo a <"+bad+" <f", "", 1, nothing)
		does(t, f, "touch x <"+bad, "", 1, nothing)
		does(t, f, "exit 3 <"+bad+"; echo $?", "1\n", 0, nothing)
		does(t, f, "export a=1 <"+bad+"; echo ${a-none}", "none\n", 0, nothing)
		does(t, f, "<"+bad, "", 1, nothing)
		if bad == "no" {
			continue
		}
		for _, op := range []string{">", ">>"} {
			does(t, f, "echo a "+op+bad, "", 1, nothing)
			does(t, f, "touch x "+op+bad, "", 1, nothing)
			does(t, f, "echo a "+op+bad+" <no >out", "", 1, nothing)
			does(t, f, op+bad, "", 1, nothing)
		}
	}
	does(t, f, "echo a >out", "", 0, put("out=a\n"))
	does(t, f, "echo b >out", "", 0, put("out=b\n"))
	does(t, f, ">d/out echo c", "", 0, put("d/out=c\n"))
	does(t, f, "echo >out d e", "", 0, put("out=d e\n"))
	does(t, f, "echo a b >'x y'", "", 0, put("x y=a b\n"))
	does(t, f, "echo a >$S", "", 0, put("x y=a\n"))
	does(t, f, "echo a >*", "", 0, put("*=a\n"))
	does(t, f, "echo a >$(echo '*')", "", 0, put("*=a\n"))
	does(t, f, "true >out", "", 0, put("out="))
	does(t, f, "false >out", "", 1, put("out="))
	does(t, f, "no >out", "", 127, put("out="))
	does(t, f, "exit 3 >out; true", "", 3, put("out="))
	does(t, f, ": >out", "", 0, put("out="))
	does(t, f, ">out", "", 0, put("out="))
	does(t, f, ">new", "", 0, put("new="))
	does(t, f, "echo -n >new", "", 0, put("new="))
}

func TestP1202Adding(t *testing.T) {
	add := func(name string, texts ...string) func(*vfs.FS) {
		return func(g *vfs.FS) {
			for _, s := range texts {
				g.Write(name, []byte(s), true)
			}
		}
	}
	f := sample(t)
	does(t, f, "echo a >>f", "", 0, add("f", "", "a\n"))
	does(t, f, "echo a >>new", "", 0, add("new", "", "a\n"))
	does(t, f, "true >>f", "", 0, add("f", ""))
	does(t, f, ">>f", "", 0, add("f", ""))
	does(t, f, ">>other", "", 0, add("other", ""))
	does(t, f, "echo a >>f >>f", "", 0, add("f", "", "", "a\n"))
	does(t, f, "cat f; echo x >>f; cat <f", "one\na\na\none\na\na\nx\n", 0, add("f", "", "x\n"))
}

// P1202: of several redirections each one is made, from the left, and what is printed goes to the last one.
func TestP1202SeveralRedirections(t *testing.T) {
	f := sample(t)
	does(t, f, "echo a >p >q", "", 0, func(g *vfs.FS) { put("p=")(g); put("q=a\n")(g) })
	does(t, f, "echo a >q >p >>q", "", 0, func(g *vfs.FS) { put("q=", "p=")(g); g.Write("q", nil, true); g.Write("q", []byte("a\n"), true) })
	does(t, f, "echo a >>f >p", "", 0, func(g *vfs.FS) { g.Write("f", nil, true); put("p=a\n")(g) })
	does(t, f, "cat <f >p", "", 0, put("p=one\n"))
	does(t, f, "cat >p <f", "", 0, put("p=one\n"))
	does(t, f, "cat <f >f", "", 0, put("f=one\n"))
	does(t, f, "cat >f <f", "", 0, put("f="))
	does(t, f, "cat >>g <g", "", 0, func(g *vfs.FS) { g.Write("g", nil, true); g.Write("g", []byte("two\n"), true) })
	does(t, f, "echo a >r <no >s", "", 1, put("r="))
	does(t, f, "echo a >r >no/x >s", "", 1, put("r="))
	does(t, f, "echo a <no >r", "", 1, nothing)
	does(t, f, "echo a >r >${1} >s", "", 2, put("r="))
	does(t, f, "echo a >${1} <no", "", 2, nothing)
	does(t, f, "echo a <no >${1}", "", 1, nothing)
	does(t, f, "echo a >r >$(test -f r && echo s)", "", 0, put("r=", "s=a\n"))
	does(t, sample(t), "cat <f >$(cat)x", "", 0, put("x=one\n"))
	does(t, f, "echo $(echo in >w) >v <w", "", 0, func(g *vfs.FS) { put("w=in\n", "v=\n")(g) })
}

// P1202: what is printed, but can't be written.
func TestP1202Unwritten(t *testing.T) {
	room := func() *vfs.FS { return filesIn(t, 12, "f=one", "d/") }
	does(t, room(), "echo abcdef >x", "", 1, put("x="))
	does(t, room(), "echo abcde >x", "", 0, put("x=abcde\n"))
	does(t, room(), "echo abcdef >>f", "", 0, func(g *vfs.FS) { g.Write("f", nil, true); g.Write("f", []byte("abcdef\n"), true) })
	does(t, room(), "echo abcdefg >>f", "", 1, func(g *vfs.FS) { g.Write("f", nil, true) })
	does(t, room(), "echo abcdef >x; echo $?", "1\n", 0, put("x="))
	does(t, room(), "printf %d x >x", "", 1, put("x=0"))
	does(t, room(), "{ echo abcdef; false; true; } >x; echo $?", "1\n", 0, put("x="))
	does(t, room(), "{ echo abcdef; exit 3; } >x; echo $?", "", 1, put("x="))
	does(t, room(), "{ echo abcdef; exit; } >x; echo $?", "", 1, put("x="))
	does(t, room(), "{ echo abc; exit 3; } >x; echo $?", "", 3, put("x=abc\n"))
	does(t, room(), "({ echo abcdef; exit 3; } >x; echo no); echo $?", "1\n", 0, put("x="))
	does(t, room(), "(echo abcdef; exit 3) >x; echo $?", "1\n", 0, put("x="))
	does(t, room(), "(echo abc; exit 3) >x; echo $?", "3\n", 0, put("x=abc\n"))
	does(t, room(), "{ { echo abcdefghi; exit 3; } >x; } >f; echo $?", "", 1, put("f=", "x="))
	does(t, room(), "for i in abc def; do echo $i; done >x; echo $?", "1\n", 0, put("x="))
	does(t, room(), "echo abcdef >x | echo $?", "0\n", 0, put("x="))
	does(t, room(), "true && echo abcdef >x || echo no", "no\n", 0, put("x="))
	// What the file has become by then is what counts.
	does(t, sample(t), "{ rm x; mkdir x; echo a; } >x", "", 1, func(g *vfs.FS) { g.Touch("x"); g.Remove("x"); g.Mkdir("x") })
	does(t, sample(t), "{ rm x; mkdir x; echo a; exit 4; } >x", "", 1, func(g *vfs.FS) { g.Touch("x"); g.Remove("x"); g.Mkdir("x") })
	does(t, sample(t), "{ rm x; mkdir x; exit 4; } >x", "", 4, func(g *vfs.FS) { g.Touch("x"); g.Remove("x"); g.Mkdir("x") })
	does(t, sample(t), "{ rm x; echo a; } >x", "", 0, func(g *vfs.FS) { g.Touch("x"); g.Remove("x"); g.Write("x", []byte("a\n"), true) })
	does(t, sample(t), "{ echo b >>x; echo a; } >x; cat x", "b\na\n", 0, func(g *vfs.FS) {
		g.Touch("x")
		g.Write("x", nil, true)
		g.Write("x", []byte("b\n"), true)
		g.Write("x", []byte("a\n"), true)
	})
	does(t, sample(t), "{ echo a; mv x y; } >x; cat x", "a\n", 0, func(g *vfs.FS) { g.Touch("x"); g.Rename("x", "y"); g.Write("x", []byte("a\n"), true) })
}

func TestP1202Exit(t *testing.T) {
	costAll(t, []row{
		{"exit", "", 0, 1},
		{"false; exit", "", 1, 2},
		{"no; exit", "", 127, 2},
		{"exit 0", "", 0, 1},
		{"false; exit 0", "", 0, 2},
		{"exit 3", "", 3, 1},
		{"exit 255", "", 255, 1},
		{"exit 256", "", 0, 1},
		{"exit 257", "", 1, 1},
		{"exit 999999999", "", 255, 1},
		{"exit 007", "", 7, 1},
		{"exit 1000000000", "", 2, 1},
		{"exit 0000000001", "", 2, 1},
		{"exit -1", "", 2, 1},
		{"exit +1", "", 2, 1},
		{"exit x", "", 2, 1},
		{"exit 1x", "", 2, 1},
		{"exit ''", "", 2, 1},
		{"exit ' 1'", "", 2, 1},
		{"false; exit $none", "", 1, 2},
		{"false; exit $(exit 9)", "", 1, 3},
		{"exit $(echo 9)", "", 9, 2},
		{"exit 3 4", "", 3, 1},
		{"exit x 4", "", 2, 1},
		{"echo a; exit 3; echo b", "a\n", 3, 2},
		{"{ exit 3; echo b; }; echo c", "", 3, 1},
		{"if exit 3; then echo b; fi; echo c", "", 3, 1},
		{"if true; then exit 3; fi; echo c", "", 3, 2},
		{"if false; then :; else exit 3; fi; echo c", "", 3, 2},
		{"while exit 3; do echo b; done; echo c", "", 3, 2},
		{"while true; do exit 3; done; echo c", "", 3, 3},
		{"for i in a b; do echo $i; exit 3; done; echo c", "a\n", 3, 3},
		{"case a in a) exit 3;; esac; echo c", "", 3, 1},
		{"exit 3 && echo a || echo b", "", 3, 1},
		{"exit 0 && echo a; echo b", "", 0, 1},
		{"true && exit 3 || echo b", "", 3, 2},
		{"false || exit 3; echo b", "", 3, 2},
		{"! exit 3; echo a", "", 3, 1},
		{"! exit 0; echo a", "", 0, 1},
		{"(exit 3; echo a); echo $?", "3\n", 0, 2},
		{"(exit 3)", "", 3, 1},
		{"false; (exit); echo $?", "1\n", 0, 3},
		{"((exit 3); echo $?; exit 4); echo $?", "3\n4\n", 0, 4},
		{"echo $(exit 3; echo a)b; echo $?", "b\n0\n", 0, 3},
		{"a=$(echo x; exit 3); echo $a$?", "x3\n", 0, 4},
		{"exit 3 | echo a; echo $?", "a\n0\n", 0, 3},
		{"echo a | exit 3; echo $?", "3\n", 0, 3},
		{"echo a | { exit 3; } | cat; echo b", "b\n", 0, 4},
		{"! exit 3 | exit 0; echo $?", "1\n", 0, 3},
		{"! true | exit 3; echo $?", "0\n", 0, 3},
		{"{ { echo a; { exit 5; }; echo b; } <f; echo c; }; echo d", "a\n", 5, 2},
		{"Exit 3; echo a", "a\n", 0, 2},
		{"'exit' 3; echo a", "", 3, 1},
		{"a=exit; $a 3; echo a", "", 3, 2},
	})
}

func TestP1202Colon(t *testing.T) {
	costAll(t, []row{
		{":", "", 0, 1},
		{": a b", "", 0, 1},
		{"false; : x; echo $?", "0\n", 0, 3},
		{": ${a:=1}; echo $a", "1\n", 0, 2},
		{": $(exit 3); echo $?", "0\n", 0, 3},
		{": ${1}; echo $?", "2\n", 0, 2},
		{"a=1 :; echo ${a-none}", "none\n", 0, 2},
		{":: a", "", 127, 1},
	})
}

func TestP1202Unknown(t *testing.T) {
	costAll(t, []row{
		{"nothing", "", 127, 1},
		{"nothing a b", "", 127, 1},
		{"./true", "", 127, 1},
		{"True", "", 127, 1},
		{"\"true \"", "", 127, 1},
		{"nothing; echo $?", "127\n", 0, 2},
		{"nothing || echo a", "a\n", 0, 2},
		{"! nothing", "", 0, 1},
		{"make all", "", 127, 1},
		{"eval echo a", "", 127, 1},
		{"cd d", "", 127, 1},
		{"[", "", 2, 1},
		{"f", "", 127, 1},
	})
}

// exports asks for what a make is told of the variables behind a script.
func exports(t *testing.T, cmd string, want ...string) {
	t.Helper()
	m := &maker{}
	m.answer = func(_ []string, _ []api.Pair, fuel int) api.Done { return api.Done{Fuel: fuel} }
	d := Run(sample(t), environment(), cmd+" make", 100, m)
	if len(m.asked) == 0 || d.Err != api.OK {
		t.Errorf("%q: %+v, %q", cmd, d, m.asked)
		return
	}
	if got := fmt.Sprintf("%q %q %d", []string(nil), pairs(want...), d.Fuel); m.asked[len(m.asked)-1] != got {
		t.Errorf("%q: asked %s, not %s", cmd, m.asked[len(m.asked)-1], got)
	}
}

func TestP1202Export(t *testing.T) {
	env := []string{"E=v", "S=x y", "N="}
	with := func(more ...string) []string { return append(slices.Clone(env), more...) }
	exports(t, "", env...)
	exports(t, "a=1;", env...)
	exports(t, "export a=1;", with("a=1")...)
	exports(t, "a=1; export a;", with("a=1")...)
	exports(t, "a=1; b=2; export b a;", with("a=1", "b=2")...)
	exports(t, "export b=2 a=1 b=3;", with("b=3", "a=1")...)
	exports(t, "export a=;", with("a=")...)
	exports(t, "export a==b=;", with("a==b=")...)
	exports(t, "export a=$S;", with("a=x")...)
	exports(t, "export a=\"$S\" 'b= c';", with("a=x y", "b= c")...)
	exports(t, "export a;", env...)
	exports(t, "export a; a=1;", env...)
	exports(t, "export;", env...)
	exports(t, "export 1=2 =3 a-b=4 '' - = 'a b=1' é=1 1;", env...)
	exports(t, "export - a=1 1=2;", with("a=1")...)
	exports(t, "export _a1=2;", with("_a1=2")...)
	// What is set again stays exported, or not, as it was, and where it was.
	exports(t, "export a=1; b=2; a=3; export b;", with("a=3", "b=2")...)
	exports(t, "E=2;", "E=2", "S=x y", "N=")
	exports(t, "export a=1 b=2; unset a; export a=3;", with("b=2", "a=3")...)
	exports(t, "export a=1; unset a; a=2;", env...)
	exports(t, "export a=1; for a in 2 3; do :; done;", with("a=3")...)
	exports(t, "for a in 2 3; do :; done;", env...)
	exports(t, ": ${a=1};", env...)
	exports(t, "export a=; : ${a:=1};", with("a=1")...)
	exports(t, "unset E;", "S=x y", "N=")
	exports(t, "unset N E;", "S=x y")
	exports(t, "unset E; E=1;", "S=x y", "N=")
	exports(t, "unset no 1 '' E=v -;", env...)
	// What a subshell sets is gone.
	exports(t, "(export a=1; unset E);", env...)
	exports(t, "export a=1 | export b=2;", env...)
	exports(t, "c=$(export a=1);", env...)
	exports(t, "a=1; (export a);", env...)
	exports(t, "{ export a=1; };", with("a=1")...)
	exports(t, "! export a=1;", with("a=1")...)
}

func TestP1202ExportStatus(t *testing.T) {
	costAll(t, []row{
		{"false; export; echo $?", "0\n", 0, 3},
		{"false; export a; echo $?", "0\n", 0, 3},
		{"false; export 1=2; echo $?", "0\n", 0, 3},
		{"export a=5; echo $a", "5\n", 0, 2},
		{"export a=$(exit 3); echo $?", "0\n", 0, 3},
		{"export a=1 b=$a; echo ${b:-none}", "none\n", 0, 2},
		{"export a=* ; echo \"$a\"", "*\n", 0, 2},
		{"false; unset; echo $?", "0\n", 0, 3},
		{"false; unset no; echo $?", "0\n", 0, 3},
		{"a=1; unset a; echo ${a-none}", "none\n", 0, 3},
		{"a=1 b=2; unset a b c; echo ${a-none}${b-none}", "nonenone\n", 0, 3},
		{"a=b b=1; unset $a; echo $a${b-none}", "bnone\n", 0, 3},
		{"unset E; echo ${E-none}", "none\n", 0, 2},
		{"unset E; E=1; echo $E", "1\n", 0, 3},
		{"unset E=v; echo $E", "v\n", 0, 2},
		{"a=1; (unset a; echo ${a-none}); echo $a", "none\n1\n", 0, 4},
		{"export a=1 >no/x; echo $? ${a-none}", "1 none\n", 0, 2},
		{"a=1; unset a <no; echo $? ${a-none}", "1 1\n", 0, 3},
	})
}

// asks runs a script with a make that prints its words in brackets, costs 5, and has the status that its first word ends with.
func asks(t *testing.T, cmd, out string, status, fuel int, asked ...string) {
	t.Helper()
	m := &maker{}
	m.answer = func(args []string, _ []api.Pair, fuel int) api.Done {
		if fuel < 5 {
			return api.Done{Err: api.ErrFuel}
		}
		return api.Done{Out: []byte(fmt.Sprintf("%q", args)), Status: len(args), Fuel: fuel - 5}
	}
	d := Run(sample(t), pairs("A=1", "B=2"), cmd, 100, m)
	if string(d.Out) != out || d.Status != status || 100-d.Fuel != fuel || d.Err != api.OK {
		t.Errorf("%q: %q, %d, %d, not %q, %d, %d", cmd, d.Out, d.Status, 100-d.Fuel, out, status, fuel)
	}
	if !slices.Equal(m.asked, asked) {
		t.Errorf("%q: asked %q, not %q", cmd, m.asked, asked)
	}
	for less := range fuel {
		if d := Run(sample(t), pairs("A=1", "B=2"), cmd, less, m); !isZero(d) {
			t.Errorf("%q with %d: %+v", cmd, less, d)
		}
	}
	if d := Run(sample(t), pairs("A=1", "B=2"), cmd, fuel, m); d.Err != api.OK || d.Fuel != 0 || d.Status != status {
		t.Errorf("%q with %d: %+v", cmd, fuel, d)
	}
}

func TestP1202Make(t *testing.T) {
	const own = `{"A" "1"} {"B" "2"}`
	asks(t, "make", "[]", 0, 6, `[] [`+own+`] 99`)
	asks(t, "make -k x", `["-k" "x"]`, 2, 6, `["-k" "x"] [`+own+`] 99`)
	asks(t, "make 'a b' \"\" $none $A; echo $?", `["a b" "" "1"]`+"3\n", 0, 7, `["a b" "" "1"] [`+own+`] 99`)
	asks(t, "c=3; export d=4; A=9 e=5 make; echo $A${e-none}", "[]1none\n", 0, 9, `[] [{"A" "9"} {"B" "2"} {"d" "4"} {"e" "5"}] 97`)
	asks(t, "c=3 export d=4; c=5 make", "[]", 0, 7, `[] [`+own+` {"d" "4"} {"c" "5"}] 98`)
	asks(t, "c=3; export d=4; c=5 make; make", "[][]", 0, 14, `[] [`+own+` {"c" "5"} {"d" "4"}] 97`, `[] [`+own+` {"d" "4"}] 91`)
	asks(t, "a=1 a=2 b=$a make", "[]", 0, 6, `[] [`+own+` {"a" "2"} {"b" "2"}] 99`)
	asks(t, "B= make $B", `["2"]`, 1, 6, `["2"] [{"A" "1"} {"B" ""}] 99`)
	asks(t, "unset A; B=3 A=4 make", "[]", 0, 7, `[] [{"B" "3"} {"A" "4"}] 98`)
	asks(t, "make >out; cat out; rm out", "[]", 0, 8, `[] [`+own+`] 99`)
	asks(t, "(A=7; make; exit 1); make", "[][]", 0, 14, `[] [{"A" "7"} {"B" "2"}] 98`, `[] [`+own+`] 91`)
	asks(t, "echo $(make x)y", `["x"]y`+"\n", 0, 7, `["x"] [`+own+`] 98`)
	asks(t, "a=$(make x)", "", 1, 7, `["x"] [`+own+`] 98`)
	asks(t, "a=1 b=$(make) make $b", "[]", 0, 12, `[] [`+own+`] 98`, `[] [`+own+` {"a" "1"} {"b" "[]"}] 93`)
	asks(t, "A=3 b=$(make) :", "", 0, 7, `[] [{"A" "3"} {"B" "2"}] 98`)
	asks(t, "make a | cat; make b | make c", `["a"]["c"]`, 1, 19, `["a"] [`+own+`] 99`, `["b"] [`+own+`] 92`, `["c"] [`+own+`] 86`)
	asks(t, "make a && echo no; ! make b; echo $?", `["a"]["b"]`+"0\n", 0, 13, `["a"] [`+own+`] 99`, `["b"] [`+own+`] 93`)
	asks(t, "for i in a b; do make $i || :; done", `["a"]["b"]`, 0, 16, `["a"] [`+own+`] 98`, `["b"] [`+own+`] 90`)
	asks(t, "m=make; $m", "[]", 0, 7, `[] [`+own+`] 98`)
	asks(t, "'make' x; exit", `["x"]`, 1, 7, `["x"] [`+own+`] 99`)
	// Where it is not run, it is not asked.
	asks(t, "make <no", "", 1, 1)
	asks(t, "make ${1}", "", 2, 1)
	asks(t, "A=${1} make", "", 2, 1)
	asks(t, "make >${1}", "", 2, 1)
	asks(t, "echo make; Make; 'make '", "make\n", 127, 3)
	asks(t, "false && make || true", "", 0, 2)
	asks(t, "case make in make) ;; esac; exit 3; make", "", 3, 1)
}

// P1202: whatever a make answers.
func TestP1202MakeAnswers(t *testing.T) {
	long := []byte(strings.Repeat("x", api.MaxText+1))
	for _, x := range []struct {
		done api.Done
		cmd  string
		want api.Done
	}{
		{api.Done{}, "make; echo a", api.Done{Err: api.ErrFuel}},
		{api.Done{}, "make", api.Done{}},
		{api.Done{Fuel: 1}, "make; echo a", api.Done{Out: []byte("a\n")}},
		{api.Done{Fuel: -5}, "make", api.Done{}},
		{api.Done{Fuel: -5}, "make; case a in a) ;; esac", api.Done{}},
		{api.Done{Fuel: -5}, "make; :", api.Done{Err: api.ErrFuel}},
		{api.Done{Fuel: 500}, "make", api.Done{Fuel: 500}},
		{api.Done{Status: 300, Fuel: 9}, "make; echo $?", api.Done{Out: []byte("300\n"), Fuel: 8}},
		{api.Done{Status: 300, Fuel: 9}, "make; exit", api.Done{Status: 300, Fuel: 8}},
		{api.Done{Status: -2, Fuel: 9}, "make || echo $?", api.Done{Out: []byte("-2\n"), Fuel: 8}},
		{api.Done{Status: -2, Fuel: 9}, "! make", api.Done{Fuel: 9}},
		{api.Done{Out: []byte("a"), Status: 4, Fuel: 9, Err: api.ErrFuel}, "make; echo b", api.Done{Err: api.ErrFuel}},
		{api.Done{Out: []byte("a"), Status: 4, Fuel: 9, Err: api.ErrFuel}, "(make) | cat", api.Done{Err: api.ErrFuel}},
		{api.Done{Out: []byte("a"), Status: 4, Fuel: 9, Err: api.ErrFuel}, "echo $(make) >f", api.Done{Err: api.ErrFuel}},
		{api.Done{Out: []byte("a"), Status: 4, Fuel: 9, Err: api.ErrFuel}, "{ make; } >f", api.Done{Err: api.ErrFuel}},
		{api.Done{Out: []byte("a"), Status: 4, Fuel: 9, Err: api.ErrArg}, "make", api.Done{Out: []byte("a"), Status: 4, Fuel: 9}},
		{api.Done{Out: []byte("a\n\n"), Fuel: 9}, "echo $(make)b", api.Done{Out: []byte("ab\n"), Fuel: 9}},
		{api.Done{Out: long, Fuel: 9}, "make; echo a", api.Done{Out: long[:api.MaxText], Fuel: 8}},
		{api.Done{Out: long, Fuel: 9}, "make >f; cat f", api.Done{Out: long[:api.MaxText], Fuel: 8}},
		{api.Done{Out: long, Fuel: 9}, "make | cat", api.Done{Out: long[:api.MaxText], Fuel: 8}},
		{api.Done{Out: long, Fuel: 9}, "a=$(make)b", api.Done{Status: 2, Fuel: 9}},
	} {
		m := &maker{answer: func([]string, []api.Pair, int) api.Done { return x.done }}
		d := Run(sample(t), nil, x.cmd, 50, m)
		if string(d.Out) != string(x.want.Out) || d.Status != x.want.Status || d.Fuel != x.want.Fuel || d.Err != x.want.Err {
			t.Errorf("%q of %.100v: %.100v, not %.100v", x.cmd, x.done, d, x.want)
		}
	}
}

// Rule 1: no call panics, whatever it is given; a make that does is a command that can't go on.
func TestMakePanics(t *testing.T) {
	m := &maker{answer: func([]string, []api.Pair, int) api.Done { panic("no make") }}
	d := Run(sample(t), nil, "echo a; make >out; echo $?; cat <f", 50, m)
	if string(d.Out) != "a\n2\none\n" || d.Status != 0 || d.Fuel != 46 || d.Err != api.OK {
		t.Errorf("%+v", d)
	}
	var none *maker
	if d := Run(sample(t), nil, "make", 50, none); d.Status != 2 || d.Fuel != 49 {
		t.Errorf("%+v", d)
	}
}

func TestP1203Lists(t *testing.T) {
	costAll(t, []row{
		{"true; false", "", 1, 2},
		{"false; true", "", 0, 2},
		{"false\ntrue\nfalse", "", 1, 3},
		{"echo a; no; echo b", "a\nb\n", 0, 3},
		{"echo a; ${1}; echo $?", "a\n2\n", 0, 3},
		{"echo a;", "a\n", 0, 1},
		{"false;", "", 1, 1},
		{"{ true; false; }", "", 1, 2},
		{"false; {\necho $?; }", "1\n", 0, 2},
		{"a=1; b=$a; a=2; echo $a$b", "21\n", 0, 4},
		{"true && false", "", 1, 2},
		{"true && true", "", 0, 2},
		{"false && echo a", "", 1, 1},
		{"no && echo a", "", 127, 1},
		{"true || echo a", "", 0, 1},
		{"false || echo a", "a\n", 0, 2},
		{"false || no", "", 127, 2},
		{"false && echo a || echo b", "b\n", 0, 2},
		{"true && false || echo z", "z\n", 0, 3},
		{"true || echo a && echo b", "b\n", 0, 2},
		{"false || false && echo a || echo $?", "1\n", 0, 3},
		{"false || true && echo a && false || echo b", "a\nb\n", 0, 5},
		{"true && a=1 && echo $a", "1\n", 0, 3},
		{"false && a=1; echo ${a-none}", "none\n", 0, 2},
		{"false &&\n\necho a; echo b", "b\n", 0, 2},
		{"no || echo $?", "127\n", 0, 2},
		{"false && true; echo $?", "1\n", 0, 2},
		{"${1} || echo $?", "2\n", 0, 2},
		{"<no && echo a || echo b", "b\n", 0, 2},
		{"a=$(exit 3) && echo a || echo $?", "3\n", 0, 3},
	})
}

func TestP1203Pipes(t *testing.T) {
	costAll(t, []row{
		{"echo a | cat", "a\n", 0, 2},
		{"echo a | cat | cat", "a\n", 0, 3},
		{"echo a | cat - g | cat f -", "one\na\ntwo\n", 0, 3},
		{"cat f | true", "", 0, 2},
		{"echo a | echo b", "b\n", 0, 2},
		{"true | cat", "", 0, 2},
		{"false | true", "", 0, 2},
		{"true | false", "", 1, 2},
		{"true | false | no", "", 127, 3},
		{"true | true | false", "", 1, 3},
		{"no | echo $?", "0\n", 0, 2},
		{"false; no | echo $?", "1\n", 0, 3},
		{"false; true | (echo $?) | cat", "1\n", 0, 4},
		{"false | true; echo $?", "0\n", 0, 3},
		{"! true", "", 1, 1},
		{"! false", "", 0, 1},
		{"! no", "", 0, 1},
		{"! true | false", "", 0, 2},
		{"! false | true", "", 1, 2},
		{"! true | true | no", "", 0, 3},
		{"! ${1}", "", 0, 1},
		{"! (exit 7); echo $?", "0\n", 0, 2},
		{"! true && echo a || echo b", "b\n", 0, 2},
		{"false; ! echo $?", "1\n", 1, 2},
		{"! a=1; echo $a$?", "11\n", 0, 2},
		{"a=1 | echo ${a-none}; echo ${a-none}", "none\nnone\n", 0, 3},
		{"echo x | a=1; echo ${a-none}", "none\n", 0, 3},
		{"! a=1 | b=2; echo ${a-none}${b-none}", "nonenone\n", 0, 3},
		{"a=1; echo $a | cat; { a=2; echo $a; } | cat; echo $a", "1\n2\n1\n", 0, 7},
		{"echo a | { cat; cat; }", "a\na\n", 0, 3},
		{"echo a | (cat; cat)", "a\na\n", 0, 3},
		{"echo a | if true; then cat; fi", "a\n", 0, 3},
		{"echo a | for i in 1 2; do cat; done", "a\na\n", 0, 5},
		{"echo a | case x in x) cat;; esac", "a\n", 0, 2},
		{"echo a >out | cat; cat out", "a\n", 0, 3},
		{"echo a | cat <f", "one\n", 0, 2},
		{"echo a | { cat <f; cat; }", "one\na\n", 0, 3},
		{"echo a | { cat; } <f", "one\n", 0, 2},
		{"{ echo a; echo b; } | cat", "a\nb\n", 0, 3},
		{"(echo a; exit 3; echo b) | cat", "a\n", 0, 3},
		{"{ cat | cat; } <f", "one\n", 0, 2},
		{"cat <f | cat - g", "one\ntwo\n", 0, 2},
		{"${1} | echo a", "a\n", 0, 2},
		{"echo a | cat ${1}; echo $?", "2\n", 0, 3},
		{"echo a | { echo b | cat; cat; }", "b\na\n", 0, 4},
		{"echo a |\n\ncat", "a\n", 0, 2},
		{"touch p | test -f p", "", 0, 2},
		{"test -f p | touch p; echo $?", "0\n", 0, 3},
		{"for i in 1 2; do echo $i; done | while test ! -f u; do cat; touch u; done", "1\n2\n", 0, 10},
	})
}

func TestP1203If(t *testing.T) {
	costAll(t, []row{
		{"if true; then echo a; fi", "a\n", 0, 2},
		{"if false; then echo a; fi", "", 0, 1},
		{"if no; then echo a; fi; echo $?", "0\n", 0, 2},
		{"if ${1}; then echo a; fi; echo $?", "0\n", 0, 2},
		{"if true; then false; fi", "", 1, 2},
		{"if true; then false; else true; fi", "", 1, 2},
		{"if false; then true; else false; fi", "", 1, 2},
		{"if false; then echo a; else echo b; fi", "b\n", 0, 2},
		{"if true; then echo a; elif echo b; then echo c; fi", "a\n", 0, 2},
		{"if false; then echo a; elif echo b; then echo c; fi", "b\nc\n", 0, 3},
		{"if false; then echo a; elif false; then echo c; fi", "", 0, 2},
		{"if false; then echo a; elif false; then echo c; else echo d; fi", "d\n", 0, 3},
		{"if false; then :; elif false; then :; elif true; then echo e; else echo d; fi", "e\n", 0, 4},
		{"if false; true; then echo a; fi", "a\n", 0, 3},
		{"if true; false; then echo a; fi", "", 0, 2},
		{"if no; then :; else echo $?; fi", "127\n", 0, 2},
		{"false; if true; then echo $?; fi", "0\n", 0, 3},
		{"if ! false; then echo a; fi", "a\n", 0, 2},
		{"if a=1; then echo $a; fi; echo $a", "1\n1\n", 0, 3},
		{"if true\nthen\necho a\nfi", "a\n", 0, 2},
		{"if (exit 3); then echo a; else echo $?; fi", "3\n", 0, 2},
		{"if if false; then :; fi; then echo a; fi", "a\n", 0, 2},
	})
}

func TestP1203While(t *testing.T) {
	costAll(t, []row{
		{"while false; do echo a; done", "", 0, 2},
		{"no; while no; do echo a; done; echo $?", "0\n", 0, 4},
		{"until true; do echo a; done", "", 0, 2},
		{"false; until true; do :; done; echo $?", "0\n", 0, 4},
		{"while test ! -f u; do touch u; false; done; echo $?", "1\n", 0, 7},
		{"until test -f u; do touch u; no; done; echo $?", "127\n", 0, 7},
		{"until test -f u; do touch u; done; echo $?", "0\n", 0, 6},
		{"a=x; while test $a != xxxx; do a=x$a; done; echo $a", "xxxx\n", 0, 13},
		{"a=; until test $a = xxx; do a=x$a; done; echo $a", "xxx\n", 0, 13},
		{"while no; do :; done; until exit; do :; done", "", 0, 4},
		{"until echo $?; do :; done", "0\n", 0, 2},
		{"a=1; while test $a = 1; do echo $?; a=2; done", "0\n", 0, 7},
		{"a=1; until test $a = 2; do echo $?; a=2; done", "1\n", 0, 7},
		{"while ${1}; do :; done; echo $?", "0\n", 0, 3},
		{"while test ! -f u; do ${1}; touch u; ${1}; done; echo $?", "2\n", 0, 8},
		{"while false; do :; done; while false; do :; done", "", 0, 4},
		{"while test ! -f u; do while test ! -f u; do touch u; done; echo a; done", "a\n", 0, 10},
	})
}

func TestP1203For(t *testing.T) {
	costAll(t, []row{
		{"for i in a b c; do echo $i; done", "a\nb\nc\n", 0, 6},
		{"for i in $S 'p q' \"$S\"; do echo \"$i\"; done", "x\ny\np q\nx y\n", 0, 8},
		{"for i in *; do echo $i; done", "d\nempty\nf\ng\n", 0, 8},
		{"for i in '' $none a; do echo x$i; done", "x\nxa\n", 0, 4},
		{"for i in; do echo a; done", "", 0, 0},
		{"for i; do echo a; done", "", 0, 0},
		{"for i in $none; do echo a; done", "", 0, 0},
		{"false; for i in; do :; done; echo $?", "0\n", 0, 2},
		{"false; for i in $(exit 3); do :; done; echo $?", "0\n", 0, 3},
		{"for i in a b; do :; done; echo $i", "b\n", 0, 5},
		{"i=1; for i in; do :; done; echo $i", "1\n", 0, 2},
		{"for i in a b; do test $i = a; done", "", 1, 4},
		{"for i in a b; do test $i = b; done", "", 0, 4},
		{"false; for i in a b; do echo $?; false; done", "1\n1\n", 1, 7},
		{"for i in a b; do i=c; echo $i; done; echo $i", "c\nc\nc\n", 0, 7},
		{"for i in a $i; do echo $i; done", "a\n", 0, 2},
		{"i=x; for i in a $i; do echo $i; done", "a\nx\n", 0, 5},
		{"for i in ${1}; do echo a; done; echo $?", "2\n", 0, 1},
		{"for i in a ${1}; do echo a; done; echo $?${i-none}", "2none\n", 0, 1},
		{"for i in $(touch w; echo a b); do echo $i; done; test -f w", "a\nb\n", 0, 7},
		{"for i in a b; do for j in c d; do echo $i$j; done; done", "ac\nad\nbc\nbd\n", 0, 10},
		{"for i in a b\ndo echo $i\ndone", "a\nb\n", 0, 4},
		{"for E in 1 2; do (E=3; echo $E); echo $E; done; echo $E", "3\n1\n3\n2\n2\n", 0, 9},
		{"for i in ${a:=1} $a; do echo $i; done; echo $a", "1\n1\n1\n", 0, 5},
		{"(for i in a; do :; done); echo ${i-none}", "none\n", 0, 3},
		{"for i in $(for j in a b; do echo $j; done); do echo $i; done", "a\nb\n", 0, 8},
	})
}

func TestP1203Case(t *testing.T) {
	costAll(t, []row{
		{"case a in a) echo 1;; esac", "1\n", 0, 1},
		{"case a in b) echo 1;; esac", "", 0, 0},
		{"false; case a in b) echo 1;; esac; echo $?", "0\n", 0, 2},
		{"false; case a in esac; echo $?", "0\n", 0, 2},
		{"false; case a in a) ;; esac; echo $?", "0\n", 0, 2},
		{"false; case a in a) echo $?;; esac", "1\n", 0, 2},
		{"case a in a) false;; esac", "", 1, 1},
		{"case a in a) false; esac", "", 1, 1},
		{"case a in b|a) echo 1;; a) echo 2;; esac", "1\n", 0, 1},
		{"case a in (b) echo 1;; (a|b) echo 2;; *) echo 3;; esac", "2\n", 0, 1},
		{"case c in b|a) echo 1;; *) echo 3;; esac", "3\n", 0, 1},
		{"case '' in '') echo e;; esac; case '' in *) echo s;; esac; case '' in ?) echo q;; esac", "e\ns\n", 0, 2},
		{"case abc in a*) echo 1;; esac", "1\n", 0, 1},
		{"case abc in a) echo 1;; ?b?) echo 2;; esac", "2\n", 0, 1},
		{"case b in [a-c]) echo 1;; esac", "1\n", 0, 1},
		{"case b in [!a-c]) echo 1;; [^b]) echo 2;; [!x]) echo 3;; esac", "3\n", 0, 1},
		{"case '*' in '*') echo q;; esac", "q\n", 0, 1},
		{"case x in '*') echo q;; \\*) echo r;; \"*\") echo s;; esac", "", 0, 0},
		{"case '?x' in '?'x) echo q;; esac", "q\n", 0, 1},
		{"case ax in '?'x) echo q;; ?'x') echo r;; esac", "r\n", 0, 1},
		{"case '[a]' in [a]) echo q;; '['a]) echo r;; esac", "r\n", 0, 1},
		{"case .h in *) echo q;; esac", "q\n", 0, 1},
		{"case .h in ?h) echo q;; esac", "q\n", 0, 1},
		{"case .h in [.]h) echo q;; esac", "q\n", 0, 1},
		{"case . in *) echo q;; esac; case .h in .*) echo r;; esac; case .h in '.'h) echo s;; esac", "q\nr\ns\n", 0, 3},
		{"case h in .h|?.) echo q;; esac", "", 0, 0},
		{"case a/b in a*b) echo q;; esac", "q\n", 0, 1},
		{"case a/b in *) echo q;; esac", "q\n", 0, 1},
		{"case a/b in a?b) echo q;; esac", "q\n", 0, 1},
		{"case a/b in 'a/b') echo q;; esac", "q\n", 0, 1},
		{"case a/b in a'/'b) echo q;; esac", "q\n", 0, 1},
		{"case a/b in \"a/\"*) echo q;; esac", "q\n", 0, 1},
		{"case a/b in a[/]b) echo q;; esac", "q\n", 0, 1},
		{"case '/' in ['/']) echo q;; esac; case '\\' in ['/']) echo r;; esac", "q\nr\n", 0, 2},
		{"case '\\' in [/]) echo r;; esac", "", 0, 0},
		{"case 'a\\b' in 'a\\b') echo q;; esac", "q\n", 0, 1},
		{"case 'a\\b' in a\\\\b) echo q;; esac", "q\n", 0, 1},
		{"case $S in x?y) echo $S;; esac", "x y\n", 0, 1},
		{"case \"$S\" in 'x y') echo q;; esac", "q\n", 0, 1},
		{"case x in $S) echo q;; esac", "", 0, 0},
		{"case 'x y' in $S) echo q;; esac", "q\n", 0, 1},
		{"p='*'; case abc in $p) echo q;; esac", "q\n", 0, 2},
		{"p='*'; case abc in \"$p\") echo q;; esac", "", 0, 1},
		{"p='\\*'; case '*' in $p) echo q;; esac", "q\n", 0, 2},
		{"case * in '*') echo q;; esac", "q\n", 0, 1},
		{"case f in *) echo *;; esac", "d empty f g\n", 0, 1},
		{"case $(echo a b) in 'a b') echo q;; esac", "q\n", 0, 2},
		{"case ab in $(echo 'a*')) echo q;; esac", "q\n", 0, 2},
		{"case ab in \"$(echo 'a*')\") echo q;; esac", "", 0, 1},
		{"case a in `echo a`) echo q;; esac", "q\n", 0, 2},
		{"case a in a) echo q;; $(touch w)) ;; ${1}) ;; esac; test -f w", "q\n", 1, 2},
		{"case a in b|$(echo c)|a|$(touch w)) echo q;; esac; test -f w", "q\n", 1, 3},
		{"case a in ${1}) echo q;; esac; echo $?", "2\n", 0, 1},
		{"case a in ${1}|a) echo q;; a) echo r;; esac; echo $?", "2\n", 0, 1},
		{"case ${1} in *) echo q;; esac; echo $?", "2\n", 0, 1},
		{"false; case $(exit 3) in '') echo $?;; esac", "1\n", 0, 3},
		{"case ${a:=1} in $a) echo $a;; esac; echo $a", "1\n1\n", 0, 2},
		{"case $none in '') echo q;; esac", "q\n", 0, 1},
		{"case a in\na)\necho 1\necho 2\n;;\nesac", "1\n2\n", 0, 2},
		{"case a in a) case b in b) echo q;; esac;; esac", "q\n", 0, 1},
		{"case =a in =*) echo q;; esac; case a in =a) echo r;; esac", "q\n", 0, 1},
	})
}

func TestP1203SubshellsAndGroups(t *testing.T) {
	costAll(t, []row{
		{"(echo a)", "a\n", 0, 1},
		{"(false)", "", 1, 1},
		{"(echo a; (echo b; echo c); echo d)", "a\nb\nc\nd\n", 0, 4},
		{"a=1; (a=2; b=3; echo $a$b); echo $a${b-none}", "23\n1none\n", 0, 5},
		{"a=1; (unset a; echo ${a-none}); echo $a", "none\n1\n", 0, 4},
		{"a=1; (echo $a)", "1\n", 0, 2},
		{"(: ${a:=1}); echo ${a-none}", "none\n", 0, 2},
		{"(for i in a; do :; done); echo ${i-none}", "none\n", 0, 3},
		{"false; (echo $?); echo $?", "1\n0\n", 0, 3},
		{"(exit 9); echo $?", "9\n", 0, 2},
		{"(exit 9; echo a) || echo $?", "9\n", 0, 2},
		{"(${1}); echo $?", "2\n", 0, 2},
		{"(touch w); test -f w", "", 0, 2},
		{"{ echo a; }", "a\n", 0, 1},
		{"{ a=2; }; echo $a", "2\n", 0, 2},
		{"{ false; }; echo $?", "1\n", 0, 2},
		{"{ echo a; exit 3; }; echo b", "a\n", 3, 2},
		{"{ { { echo a; }; }; }", "a\n", 0, 1},
		{"(echo a); { echo b; }\n(echo c)", "a\nb\nc\n", 0, 3},
		{"((a=1; echo $a); echo ${a-none})", "1\nnone\n", 0, 3},
		{"a=1; { (a=2); echo $a; a=3; }; echo $a", "1\n3\n", 0, 5},
	})
}

// P1203: a compound's redirections are made around the whole, whatever compound it is.
func TestP1203CompoundRedirections(t *testing.T) {
	for _, x := range []struct {
		cmd, out string
		status   int
	}{
		{"{ cat; echo a; }", "one\na\n", 0},
		{"(cat; echo a)", "one\na\n", 0},
		{"if cat; then echo a; fi", "one\na\n", 0},
		{"while test ! -f w; do cat; touch w; echo a; done", "one\na\n", 0},
		{"until test -f w; do touch w; cat; echo a; done", "one\na\n", 0},
		{"for i in 1; do cat; echo a; done", "one\na\n", 0},
		{"case x in x) cat; echo a;; esac", "one\na\n", 0},
		{"{ cat; echo a; false; }", "one\na\n", 1},
		{"(cat; exit 3)", "one\n", 3},
		{"for i in; do cat; done", "", 0},
		{"case x in y) cat;; esac", "", 0},
	} {
		run := func(f *vfs.FS, cmd, out string, status int) {
			t.Helper()
			if d := Run(f, nil, cmd, 50, nil); string(d.Out) != out || d.Status != status || d.Err != api.OK {
				t.Errorf("%q: %q, %d, not %q, %d", cmd, d.Out, d.Status, out, status)
			}
		}
		holds := func(f *vfs.FS, name, data string) {
			t.Helper()
			if b, e := f.Read(name); e != api.OK || string(b) != data {
				t.Errorf("%q: %s is %q, %d, not %q", x.cmd, name, b, int(e), data)
			}
		}
		f := sample(t)
		run(f.Twin(), x.cmd+" <f", x.out, x.status)
		run(f.Twin(), x.cmd+" <g <f", x.out, x.status)
		run(f.Twin(), x.cmd+" <f; cat; echo $?", x.out+"0\n", 0)
		g := f.Twin()
		run(g, x.cmd+" <f >out; echo b", "b\n", 0)
		holds(g, "out", x.out)
		run(g, "rm -f w; "+x.cmd+" <f >>out", "", x.status)
		holds(g, "out", x.out+x.out)
		run(g, "rm -f w; "+x.cmd+" <f >f", "", x.status)
		holds(g, "f", x.out)
		g = f.Twin()
		run(g, x.cmd+" <f >p >q", "", x.status)
		holds(g, "p", "")
		holds(g, "q", x.out)
		for redirs, status := range map[string]int{"<no": 1, ">no/x": 1, ">>d": 1, "<f >''": 1, ">${1}": 2, "<f >out <${1}": 2, "<no >${1}": 1, "<${1} <no": 2} {
			g := f.Twin()
			if strings.Contains(redirs, ">out") {
				g.Touch("out")
			}
			before := f.Twin()
			run(g, x.cmd+" "+redirs, "", status)
			if g.Stat("w").Kind != 0 || g.Stat("f") != before.Stat("f") {
				t.Errorf("%q %s has been run", x.cmd, redirs)
			}
			run(f.Twin(), x.cmd+" "+redirs+"; echo $?", fmt.Sprintln(status), 0)
		}
	}
	costAll(t, []row{
		{"{ echo a; echo b >p; echo c; } >q; cat p q", "b\na\nc\n", 0, 4},
		{"{ { echo a; } >p; echo b; } >q; cat p q", "a\nb\n", 0, 3},
		{"{ cat; { cat; cat <f; } <g; cat; } <f", "one\ntwo\none\none\n", 0, 4},
		{"(echo $a) >${a:=w}; cat w; echo $a", "w\nw\n", 0, 3},
		{"for i in a b; do echo $i; done >$i.t; cat .t; echo $i", "a\nb\nb\n", 0, 6},
		{"{ exit 3; } >w; echo a", "", 3, 1},
		{"false; { echo $?; } >w; cat w", "1\n", 0, 3},
		{"false; { :; } >$(exit 4)w; echo $?", "0\n", 0, 4},
		{"if true; then echo a; fi >w | cat; cat w", "a\n", 0, 4},
		{"for i in ${1}; do :; done >w; echo $?; test -f w", "2\n", 0, 2},
		{"case ${1} in a) ;; esac <f; echo $?; cat", "2\n", 0, 2},
		{"{ ${1}; echo $?; } >w; cat w; echo x", "2\nx\n", 0, 4},
	})
}

// P1204: each command has the shell's input, and another one has it again.
func TestP1204Input(t *testing.T) {
	costAll(t, []row{
		{"cat", "", 0, 1},
		{"cat; cat -", "", 0, 2},
		{"{ cat; cat; } <f", "one\none\n", 0, 2},
		{"(cat; (cat); { cat; }) <f", "one\none\none\n", 0, 3},
		{"echo a | { cat; cat; cat <f; cat; }", "a\na\none\na\n", 0, 5},
		{"cat <f; cat", "one\n", 0, 2},
		{"{ cat <f; } <g", "one\n", 0, 1},
		{"{ echo $(cat)$(cat); } <f", "oneone\n", 0, 3},
		{"{ a=$(cat); echo $a; } <f", "one\n", 0, 3},
		{"echo a | echo $(cat)b", "ab\n", 0, 3},
		{"echo $(cat)b <f", "b\n", 0, 2},
		{"{ cat - - <g; cat - -; } <f", "two\ntwo\none\none\n", 0, 2},
		{"{ if cat; then cat; fi; } <f", "one\none\n", 0, 2},
		{"{ for i in $(cat) $(cat); do cat; done; } <f", "one\none\n", 0, 6},
		{"{ case $(cat) in one) cat;; esac; } <f", "one\n", 0, 2},
		{"{ cat | cat | cat; cat; } <f", "one\none\n", 0, 4},
		{"{ cat <no; cat; } <f", "one\n", 0, 2},
		{"{ cat ${1}; cat; } <f", "one\n", 0, 2},
		{"{ cat | { echo x >f; cat; }; cat; } <f", "one\none\n", 0, 4},
		{"cat <f && cat || cat", "one\n", 0, 2},
		{"{ cat > p; cat; } <f; cat p", "one\none\n", 0, 3},
		{"{ true; } <f; cat", "", 0, 2},
		{"{ exit 3; } <f | cat", "", 0, 2},
		{"cat <f | { cat; cat; } | cat", "one\none\n", 0, 4},
	})
}

// big has files of which two have MaxText bytes together.
func big(t testing.TB) *vfs.FS {
	t.Helper()
	return files(t, "big="+strings.Repeat("x", 40000), "rest="+strings.Repeat("y", api.MaxText-40000), "a=a", "b=b")
}

// P1205: the output of MaxText bytes, and one more; of a subshell, of a part of a pipe, too.
func TestP1205Cut(t *testing.T) {
	full := strings.Repeat("x", 40000) + strings.Repeat("y", api.MaxText-40000)
	for _, x := range []row{
		{"cat big rest", full, 0, 1},
		{"cat big; cat rest", full, 0, 2},
		{"cat big; cat rest; cat a", full, 0, 3},
		{"cat big rest; echo $?", full, 0, 2},
		{"cat big rest a; cat b; false", full, 1, 3},
		{"cat big; cat rest b; cat a; echo a >w; cat <w", full, 0, 5},
		{"(cat big; cat rest; cat a)", full, 0, 3},
		{"(cat big); (cat rest; cat a); cat b", full, 0, 4},
		{"{ cat big; cat rest; cat a; } | cat - b", full, 0, 4},
		{"{ cat big; cat rest; cat a; } | cat | cat", full, 0, 5},
		{"cat a | { cat big; cat rest; cat; }", full, 0, 4},
		{"for i in big rest a; do cat $i; done", full, 0, 6},
		{"{ cat big; cat rest; } >w; cat w", full, 0, 3},
		{"{ cat big; cat rest; cat a; } >w; echo $?; cat w", "0\n" + full[:api.MaxText-2], 0, 5},
		{"(cat big; cat rest; cat a) >w; echo $?; cat w", "0\n" + full[:api.MaxText-2], 0, 5},
		{"a=$(cat big rest); case $a in *y) echo in;; esac", "in\n", 0, 3},
		{"a=$(cat big; cat rest; cat a); case $a in *a) echo in;; *y) echo out;; esac", "out\n", 0, 5},
		{"a=$(cat big rest)a", "", 2, 2},
		{"cat a; cat big rest | cat; cat b", "a" + full[:api.MaxText-1], 0, 4},
		{"cat big rest; echo a >w; cat w >v; test -s v", full, 0, 4},
		{"cat big rest; a=$(cat a); test $a = a", full, 0, 4},
		{"cat big rest; cat a | { cat; cat; } >w; test -s w", full, 0, 5},
	} {
		costs(t, big(t), x.cmd, x.out, x.status, x.fuel)
	}
	f := files(t, "big="+full, "a=a")
	does(t, f, "{ cat big; cat a; } >w", "", 0, put("w="+full))
	does(t, f, "{ cat big; cat a; } >>a", "", 1, func(g *vfs.FS) { g.Write("a", nil, true) })
	does(t, f, "cat a >>big; echo $?", "1\n", 0, func(g *vfs.FS) { g.Write("big", nil, true) })
}

// P1206: what is handed in may be written over behind the call, what was answered too.
func TestP1206Memory(t *testing.T) {
	wiped := func(s string) (string, []byte) {
		b := []byte(s)
		return unsafe.String(unsafe.SliceData(b), len(b)), b
	}
	scripts := []string{
		"echo a b", "cat f", "cat <f", "echo $E $S", "a=$E; echo $a >out; cat out", "for i in $S; do echo $i >$i; done", "export Z=$E; make word $E", "E=2 make $S", "echo $(cat f)", "cat f | cat", "{ cat f; echo new; } >>new", "echo ${X:=some}$X", "touch made; mkdir way; mv f way",
		"case $E in v) echo $E;; esac", "make >out", "echo `echo x`", "cp f copy; ar rc l.a f g", "exit 3", "a &&", "no",
	}
	for _, s := range scripts {
		f, g := sample(t), sample(t)
		kept := &maker{}
		var args []string
		var envs []api.Pair
		out := []byte("made")
		kept.answer = func(a []string, e []api.Pair, fuel int) api.Done {
			args, envs = a, e
			return api.Done{Out: out, Status: 1, Fuel: fuel}
		}
		want := Run(g, environment(), s, 50, kept)
		asked := fmt.Sprintf("%q %q", args, envs)
		cmd, cmdBytes := wiped(s)
		room := make([]api.Pair, 0, 6)
		var all [][]byte
		for _, p := range environment() {
			name, b := wiped(p.Name)
			value, c := wiped(p.Value)
			room = append(room, api.Pair{Name: name, Value: value})
			all = append(all, b, c)
		}
		env := room[:4:6]
		room = append(room, pairs("spare=1", "room=2")...)
		got := Run(f, env, cmd, 50, kept)
		if cmd != s || !slices.Equal(room, append(environment(), pairs("spare=1", "room=2")...)) || string(out) != "made" {
			t.Errorf("%q: what is handed in is changed", s)
		}
		for _, b := range append(all, cmdBytes, out) {
			for i := range b {
				b[i] = '#'
			}
		}
		clear(room)
		if string(got.Out) != string(want.Out) || got.Status != want.Status || got.Fuel != want.Fuel || got.Err != want.Err || told(f) != told(g) {
			t.Errorf("%q: %+v, %s, not %+v, %s", s, got, told(f), want, told(g))
		}
		if fmt.Sprintf("%q %q", args, envs) != asked {
			t.Errorf("%q: make was asked %q %q, not %s", s, args, envs, asked)
		}
		if cap(got.Out) != len(got.Out) {
			t.Errorf("%q: there is spare room", s)
		}
		clear(got.Out)
		if told(f) != told(g) {
			t.Errorf("%q: what was answered is the tree's", s)
		}
	}
}

// P1206: a make may do what it likes with what it is handed.
func TestP1206MakeWritesOver(t *testing.T) {
	m := &maker{}
	m.answer = func(args []string, env []api.Pair, fuel int) api.Done {
		for i := range args {
			args[i] = "#"
		}
		for i := range env {
			env[i] = api.Pair{Name: "#", Value: "#"}
		}
		_, _ = append(args, "#"), append(env, api.Pair{Name: "#"})
		return api.Done{Fuel: fuel}
	}
	env := pairs("A=1", "B=2")
	d := Run(sample(t), env, "for i in a b; do make $i c; done; echo $A$B$i; make a", 50, m)
	if string(d.Out) != "12b\n" || !slices.Equal(env, pairs("A=1", "B=2")) {
		t.Errorf("%+v, %q", d, env)
	}
	want := []string{`["a" "c"] [{"A" "1"} {"B" "2"}] 48`, `["b" "c"] [{"A" "1"} {"B" "2"}] 46`, `["a"] [{"A" "1"} {"B" "2"}] 44`}
	if !slices.Equal(m.asked, want) {
		t.Errorf("%q", m.asked)
	}
}

// P1206: what is answered and changed hangs on the arguments alone.
func TestP1206HangsOnItsArgumentsAlone(t *testing.T) {
	scripts := []string{"echo a >x; cat x *", "for i in *; do echo $i; done | cat", "export a=1 b=2 c=3; make", "a=$(cat f); case $a in o*) echo $E;; esac", "exit 3", "(a=1; echo $a) >out; cat out f >>g", "while true; do :; done"}
	run := func(s string) string {
		f := sample(t)
		m := &maker{answer: func(_ []string, _ []api.Pair, fuel int) api.Done { return api.Done{Fuel: fuel} }}
		d := Run(f, environment(), s, 60, m)
		return fmt.Sprintf("%+v %s %q", d, told(f), m.asked)
	}
	var first []string
	for _, s := range scripts {
		first = append(first, run(s))
	}
	var wait sync.WaitGroup
	for g := range 8 {
		wait.Go(func() {
			for i := range 100 {
				if at := (i*5 + g) % len(scripts); run(scripts[at]) != first[at] {
					t.Errorf("%q is told otherwise", scripts[at])
				}
			}
		})
	}
	wait.Wait()
}

// Two calls have nothing in common but the file system.
func TestP1206CallsApart(t *testing.T) {
	f := sample(t)
	Run(f, environment(), "a=1; export b=2; echo x >left; false; exit 3", 50, nil)
	costs(t, f, "echo ${a-none} ${b-none} $?; cat left", "none none 0\nx\n", 0, 2)
}

// Rule 1: a call without a file system answers as one with an empty tree that has no room.
func TestNoFileSystem(t *testing.T) {
	for cmd, want := range map[string]string{"echo a *": "a *\n", "echo a >f; echo $?": "1\n", "cat <f || echo no": "no\n", "{ :; } >>f; echo $?": "1\n", "touch f; echo $?": "1\n", "echo $(cat f) `echo b`": "b\n", "for i in *; do echo $i; done": "*\n"} {
		if d := Run(nil, nil, cmd, 50, nil); string(d.Out) != want || d.Status != 0 {
			t.Errorf("%q: %+v", cmd, d)
		}
	}
}

// Names that no script can name are handed on as they are.
func TestOddEnvironment(t *testing.T) {
	m := &maker{answer: func(_ []string, _ []api.Pair, fuel int) api.Done { return api.Done{Fuel: fuel} }}
	env := []api.Pair{{Name: "", Value: "1"}, {Name: "a b", Value: "2"}, {Name: "A", Value: "3"}, {Name: "=", Value: "4"}, {Name: "a b", Value: "5"}, {Name: "A", Value: "6"}}
	Run(nil, env, "unset '' 'a b' =; export 'a b' '' A; make", 9, m)
	if want := `[] [{"" "1"} {"a b" "2"} {"A" "3"} {"=" "4"}] 6`; len(m.asked) != 1 || m.asked[0] != want {
		t.Errorf("asked %q, not %s", m.asked, want)
	}
}

// What ends a shell is wrapped where it passes, and told apart all the same.
func TestFaults(t *testing.T) {
	var end *ended
	err := error(&fault{api.CmdList, &fault{api.CmdSimple, &ended{3}}})
	if !errors.As(err, &end) || end.status != 3 || errors.Is(err, api.ErrFuel) || err.Error() != "5: 1: exit 3" {
		t.Error(err)
	}
	err = &fault{api.CmdIf, &trouble{wrong, api.ErrFuel}}
	if errors.As(err, &end) || !errors.Is(err, api.ErrFuel) || !strings.HasPrefix(err.Error(), "6: 2: ") {
		t.Error(err)
	}
}

// What is as deep and as long as can be ends soon.
func TestDeepAndLong(t *testing.T) {
	f := sample(t)
	nest := func(n int, open, inner, end string) string {
		return strings.Repeat(open, n) + inner + strings.Repeat(end, n)
	}
	costs(t, f, nest(60, "echo $(", "echo a", ")"), "a\n", 0, 61)
	costs(t, f, nest(60, "(", "exit 3", ")"), "", 3, 1)
	costs(t, f, nest(60, "{ ", "exit 3", "; } <f >>w"), "", 3, 1)
	costs(t, f, nest(60, "if ", "exit 3", "; then :; fi"), "", 3, 1)
	costs(t, f, strings.Repeat("true && ", 2400)+"exit 3", "", 3, 2401)
	costs(t, f, strings.Repeat("true | ", 2400)+"echo a", "a\n", 0, 2401)
	costs(t, f, strings.Repeat("true; ", 2400)+"echo a", "a\n", 0, 2401)
	costs(t, f, strings.Repeat("if false; then :; el", 600)+"if true; then echo a; fi", "a\n", 0, 602)
	// Backquotes hide what is within them from the count of what is open.
	cmd := nest(30, "echo $(", "echo a", ")")
	for range 3 {
		cmd = nest(30, "echo $(", "echo `"+strings.NewReplacer("\\", "\\\\", "`", "\\`").Replace(cmd)+"`", ")")
	}
	if d := Run(f, nil, cmd, 1000, nil); string(d.Out) != "a\n" || d.Err != api.OK {
		t.Errorf("%+v", d)
	}
	// Text grows no further than MaxText.
	d := Run(f, nil, "a=xxxxxxxxxx; while true; do a=$a$a || exit 3; done; echo $a", 1000, nil)
	if d.Status != 3 || d.Fuel < 900 {
		t.Errorf("%.100v", d)
	}
	d = Run(f, nil, "a=x; while case $a in "+strings.Repeat("?", 1000)+") ;; *) ! :;; esac; do :; done; for i in a b c d e f g h i j k l m n o p; do a=$a$a; done; echo $a", 1000, nil)
	if d.Status != 0 || len(d.Out) != api.MaxText {
		t.Errorf("%.100v", d)
	}
}
