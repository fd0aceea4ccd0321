package vars

import (
	"fmt"
	"math"
	"math/rand"
	"slices"
	"strings"
	"testing"
	"unsafe"

	"anvil/api"
)

// origins are all that have a name, rising.
func origins() []int {
	return []int{api.OrigNone, api.OrigDefault, api.OrigEnv, api.OrigFile, api.OrigEnvOver, api.OrigCommand, api.OrigOverride, api.OrigAuto}
}

// holding makes a store with these variables.
func holding(t *testing.T, l ...api.Var) *Store {
	t.Helper()
	s := New()
	for _, v := range l {
		lay(t, s, v)
	}
	return s
}

// lay puts a variable into a store that lets it.
func lay(t *testing.T, s *Store, v api.Var) {
	t.Helper()
	if !s.Set(v.Name, v.Value, v.Flav, v.Origin) {
		t.Fatalf("%+v is refused", v)
	}
	if v.Export != 0 {
		s.Export(v.Name, v.Export)
	}
}

// filled makes a store with n variables, v0 and on.
func filled(t *testing.T, n int) *Store {
	t.Helper()
	s := New()
	for i := range n {
		lay(t, s, api.Var{Name: fmt.Sprint("v", i), Value: "x", Flav: api.FlavSimple, Origin: api.OrigFile})
	}
	return s
}

func wantVar(t *testing.T, what string, s *Store, want api.Var) {
	t.Helper()
	if got, there := s.Get(want.Name); got != want || !there {
		t.Errorf("%s: %+v, %v, not %+v", what, got, there, want)
	}
}

func wantNone(t *testing.T, what string, s *Store, name string) {
	t.Helper()
	if got, there := s.Get(name); got != (api.Var{}) || there {
		t.Errorf("%s: %q is there: %+v, %v", what, name, got, there)
	}
}

// wantList holds a store's variables against these, that have rising names, and each of them against Get.
func wantList(t *testing.T, what string, s *Store, want ...api.Var) {
	t.Helper()
	if got := s.List(); !slices.Equal(got, want) {
		t.Errorf("%s: %+v, not %+v", what, got, want)
	}
	for _, v := range want {
		wantVar(t, what, s, v)
	}
}

func wantTold(t *testing.T, what string, got, want bool) {
	t.Helper()
	if got != want {
		t.Errorf("%s: %v, not %v", what, got, want)
	}
}

func TestTheChaptersExamples(t *testing.T) {
	s := New()
	wantTold(t, "Set a 1", s.Set("a", "1", api.FlavRecursive, api.OrigFile), true)
	wantTold(t, "Append a 2", s.Append("a", "2", api.OrigFile), true)
	wantVar(t, "behind Append", s, api.Var{Name: "a", Value: "1 2", Flav: api.FlavRecursive, Origin: api.OrigFile})
	wantTold(t, "Set a 3 of OrigEnv", s.Set("a", "3", api.FlavRecursive, api.OrigEnv), false)
	wantTold(t, "Set a 4 of OrigCommand", s.Set("a", "4", api.FlavRecursive, api.OrigCommand), true)
	wantTold(t, "Set a 5 of OrigFile", s.Set("a", "5", api.FlavRecursive, api.OrigFile), false)
	wantTold(t, "Set a 5 of OrigOverride", s.Set("a", "5", api.FlavRecursive, api.OrigOverride), true)
	s.Set("@", "d/x.o y", api.FlavSimple, api.OrigAuto)
	wantSpecial(t, s, "@D", "d .")
	wantSpecial(t, s, "@F", "x.o y")
}

func TestOriginsAreTheGivenOnes(t *testing.T) {
	own := []int{origNone, origDefault, origEnv, origFile, origEnvOver, origCommand, origOverride, origAuto}
	if !slices.Equal(own, origins()) {
		t.Errorf("origins: %v, not %v", own, origins())
	}
}

func TestP1401AtTheBeginning(t *testing.T) {
	s := New()
	if s == nil || len(s.List()) != 0 {
		t.Fatal("a new store is none, or has variables")
	}
	for _, name := range []string{"", "a", "@", "@D", "MAKE", ".DEFAULT_GOAL", "\x00", strings.Repeat("x", 100000)} {
		wantNone(t, "a new store", s, name)
	}
	other := New()
	lay(t, other, api.Var{Name: "a"})
	wantNone(t, "another new store", s, "a")
	wantNone(t, "a third one", New(), "a")
}

func TestP1401Get(t *testing.T) {
	a := api.Var{Name: "a", Value: "$(b) c", Flav: api.FlavRecursive, Origin: api.OrigEnv, Export: 1}
	s := holding(t, a)
	for range 2 {
		wantVar(t, "Get", s, a)
		for _, name := range []string{"", "A", "aa", "a ", " a", "b", "a\x00"} {
			wantNone(t, "Get", s, name)
		}
	}
	wantList(t, "Get changes nothing", s, a)
}

func TestP1401List(t *testing.T) {
	one := api.Var{Name: "m", Value: "v", Flav: api.FlavSimple, Origin: api.OrigCommand, Export: 2}
	wantList(t, "none", New())
	wantList(t, "one", holding(t, one), one)
	// By their bytes: no letter's case, no encoding, a beginning ahead of what goes on.
	names := []string{"", "\x00", " ", ".A", "10", "9", "@", "A", "AB", "B", "_", "a", "a\x00", "a b", "aa", "ab", "b", "\x7f", "\x80", "\xc3\xa9", "\xff", "\xff\xff"}
	var want []api.Var
	for i, name := range names {
		want = append(want, api.Var{Name: name, Value: fmt.Sprint(i), Flav: 1 + i%2, Origin: i % 8, Export: i % 3})
	}
	r := rand.New(rand.NewSource(14))
	for range 200 {
		l := slices.Clone(want)
		r.Shuffle(len(l), func(i, j int) { l[i], l[j] = l[j], l[i] })
		wantList(t, "many", holding(t, l...), want...)
	}
	down := slices.Clone(want)
	slices.Reverse(down)
	wantList(t, "falling", holding(t, down...), want...)
}

func TestP1401ListOfManyTimesOne(t *testing.T) {
	s := New()
	for i := range 5 {
		lay(t, s, api.Var{Name: "a", Value: fmt.Sprint(i), Flav: api.FlavSimple, Origin: api.OrigFile})
	}
	wantList(t, "one name", s, api.Var{Name: "a", Value: "4", Flav: api.FlavSimple, Origin: api.OrigFile})
}

// changed turns a store with a, b and c in all ways.
func changed(s *Store) {
	s.Set("a", "new", api.FlavSimple, api.OrigOverride)
	s.Append("b", "more", api.OrigFile)
	s.Undefine("c", api.OrigFile)
	s.Export("d", 1)
	s.Export("b", 2)
	s.Set("e", "5", api.FlavRecursive, api.OrigEnv)
}

func TestP1401Twin(t *testing.T) {
	ahead := []api.Var{
		{Name: "a", Value: "1", Flav: api.FlavRecursive, Origin: api.OrigFile, Export: 1},
		{Name: "b", Value: "2", Flav: api.FlavSimple, Origin: api.OrigDefault},
		{Name: "c", Value: "", Flav: api.FlavRecursive, Origin: api.OrigFile, Export: 2},
	}
	behind := []api.Var{
		{Name: "a", Value: "new", Flav: api.FlavSimple, Origin: api.OrigOverride, Export: 1},
		{Name: "b", Value: "2 more", Flav: api.FlavSimple, Origin: api.OrigFile, Export: 2},
		{Name: "d", Flav: api.FlavRecursive, Origin: api.OrigFile, Export: 1},
		{Name: "e", Value: "5", Flav: api.FlavRecursive, Origin: api.OrigEnv},
	}
	s := holding(t, ahead...)
	twin := s.Twin()
	wantList(t, "a twin", twin, ahead...)
	changed(twin)
	wantList(t, "a twin that was changed", twin, behind...)
	wantList(t, "what it is a twin of", s, ahead...)

	twin = s.Twin()
	changed(s)
	wantList(t, "a store that was changed", s, behind...)
	wantList(t, "its twin", twin, ahead...)

	again := twin.Twin().Twin()
	twin.Undefine("a", api.OrigAuto)
	s.Undefine("a", api.OrigAuto)
	wantList(t, "a twin's twin", again, ahead...)
}

func TestP1401TwinOfNoneAndOfMany(t *testing.T) {
	s := New()
	twin := s.Twin()
	wantList(t, "a twin of none", twin)
	lay(t, twin, api.Var{Name: "a"})
	wantList(t, "an empty store with a twin", s)
	lay(t, s, api.Var{Name: "b"})
	wantNone(t, "a twin of what was empty", twin, "b")

	full := filled(t, api.MaxVars)
	twin = full.Twin()
	if !slices.Equal(full.List(), twin.List()) || len(twin.List()) != api.MaxVars {
		t.Errorf("a twin of many has %d", len(twin.List()))
	}
	wantTold(t, "one more in the twin", twin.Set("w", "", 1, api.OrigAuto), false)
	wantTold(t, "one less in the twin", twin.Undefine("v0", api.OrigAuto), true)
	wantTold(t, "another in the twin", twin.Set("w", "", 1, api.OrigAuto), true)
	wantTold(t, "one more in the store", full.Set("w", "", 1, api.OrigAuto), false)
}

func TestP1402SetOverEachOrigin(t *testing.T) {
	for _, old := range origins() {
		for _, origin := range origins() {
			was := api.Var{Name: "a", Value: "old", Flav: api.FlavRecursive, Origin: old, Export: 2}
			s := holding(t, was)
			what := fmt.Sprintf("%d over %d", origin, old)
			wantTold(t, what, s.Set("a", "new", api.FlavSimple, origin), origin >= old)
			if origin >= old {
				was = api.Var{Name: "a", Value: "new", Flav: api.FlavSimple, Origin: origin, Export: 2}
			}
			wantList(t, what, s, was)
		}
	}
}

func TestP1402SetTakesAnyNumbers(t *testing.T) {
	numbers := []int{math.MinInt, -8, -1, 0, 1, 3, 7, 8, 99, math.MaxInt}
	for _, old := range numbers {
		for _, origin := range numbers {
			s := holding(t, api.Var{Name: "a", Value: "old", Flav: old, Origin: old})
			want := api.Var{Name: "a", Value: "old", Flav: old, Origin: old}
			if origin >= old {
				want = api.Var{Name: "a", Value: "new", Flav: origin, Origin: origin}
			}
			what := fmt.Sprintf("%d over %d", origin, old)
			wantTold(t, what, s.Set("a", "new", origin, origin), origin >= old)
			wantList(t, what, s, want)
		}
	}
}

func TestP1402SetTurnsAllButExport(t *testing.T) {
	for how := range 3 {
		s := holding(t, api.Var{Name: "a", Value: "old", Flav: api.FlavSimple, Origin: api.OrigEnv, Export: how})
		for _, want := range []api.Var{
			{Name: "a", Value: "", Flav: api.FlavRecursive, Origin: api.OrigEnv, Export: how},
			{Name: "a", Value: " $x\n\t ", Flav: api.FlavSimple, Origin: api.OrigFile, Export: how},
			{Name: "a", Value: "\x00\xff", Flav: api.FlavNone, Origin: api.OrigAuto, Export: how},
		} {
			wantTold(t, "Set", s.Set("a", want.Value, want.Flav, want.Origin), true)
			wantList(t, "Set", s, want)
		}
		wantTold(t, "Set of a smaller origin", s.Set("a", "x", api.FlavSimple, api.OrigOverride), false)
		wantList(t, "Set of a smaller origin", s, api.Var{Name: "a", Value: "\x00\xff", Origin: api.OrigAuto, Export: how})
	}
}

func TestP1402SetOfOneLeavesOthers(t *testing.T) {
	a, b, c := api.Var{Name: "a", Value: "1", Origin: 7}, api.Var{Name: "b", Value: "2"}, api.Var{Name: "c", Value: "3", Origin: 7, Export: 1}
	s := holding(t, a, b, c)
	b.Value, b.Flav, b.Origin = "x", 2, 1
	wantTold(t, "Set", s.Set("b", "x", 2, 1), true)
	wantList(t, "Set", s, a, b, c)
}

func TestTheEmptyName(t *testing.T) {
	s := New()
	wantTold(t, "Undefine", s.Undefine("", 0), true)
	wantTold(t, "Set", s.Set("", "x", api.FlavSimple, api.OrigFile), true)
	wantTold(t, "Append", s.Append("", "y", api.OrigFile), true)
	s.Export("", 1)
	wantList(t, "the empty name", s, api.Var{Value: "x y", Flav: api.FlavSimple, Origin: api.OrigFile, Export: 1})
	wantTold(t, "Set of a smaller origin", s.Set("", "", 0, api.OrigEnv), false)
	wantTold(t, "Undefine", s.Undefine("", api.OrigFile), true)
	wantNone(t, "behind Undefine", s, "")
	s.Export("", 2)
	wantList(t, "Export alone", s, api.Var{Flav: api.FlavRecursive, Origin: api.OrigFile, Export: 2})
	s = New()
	wantTold(t, "Append to none", s.Append("", "y", api.OrigEnv), true)
	wantList(t, "Append to none", s, api.Var{Value: "y", Flav: api.FlavRecursive, Origin: api.OrigEnv})
}

func TestMaxVarsAreThere(t *testing.T) {
	s := filled(t, api.MaxVars)
	all := s.List()
	// Of another one, nothing comes to be, whatever its origin.
	for _, origin := range append(origins(), -1, math.MaxInt, math.MinInt) {
		wantTold(t, "Set of another", s.Set("w", "y", api.FlavSimple, origin), false)
		wantTold(t, "Append to another", s.Append("w", "y", origin), false)
	}
	for how := range 3 {
		s.Export("w", how)
	}
	s.Export("", 1)
	wantNone(t, "another one", s, "w")
	if !slices.Equal(s.List(), all) {
		t.Error("a full store was changed by what it refused")
	}
	// Of one of them, all goes on as ever.
	wantTold(t, "Set of one", s.Set("v7", "y", api.FlavRecursive, api.OrigCommand), true)
	wantTold(t, "Append to one", s.Append("v7", "z", api.OrigOverride), true)
	s.Export("v7", 1)
	wantVar(t, "one of them", s, api.Var{Name: "v7", Value: "y z", Flav: api.FlavRecursive, Origin: api.OrigOverride, Export: 1})
	wantTold(t, "Set of one, of a smaller origin", s.Set("v7", "", 1, api.OrigFile), false)
	wantTold(t, "Append to one, of a smaller origin", s.Append("v7", "", api.OrigFile), false)
	if len(s.List()) != api.MaxVars {
		t.Errorf("%d variables", len(s.List()))
	}
}

func TestOneLessThanMaxVarsAreThere(t *testing.T) {
	w := api.Var{Name: "w", Value: "y", Flav: api.FlavRecursive, Origin: api.OrigEnv}
	for what, call := range map[string]func(s *Store) bool{
		"Set":    func(s *Store) bool { return s.Set("w", "y", api.FlavRecursive, api.OrigEnv) },
		"Append": func(s *Store) bool { return s.Append("w", "y", api.OrigEnv) },
	} {
		s := filled(t, api.MaxVars-1)
		wantTold(t, what, call(s), true)
		wantVar(t, what, s, w)
		wantTold(t, what+", then one more", s.Set("x", "", 1, 7), false)
		wantTold(t, what+", then Append to one more", s.Append("x", "", 7), false)
		s.Export("x", 1)
		wantNone(t, what, s, "x")
	}
	s := filled(t, api.MaxVars-1)
	s.Export("w", 1)
	wantVar(t, "Export", s, api.Var{Name: "w", Flav: api.FlavRecursive, Origin: api.OrigFile, Export: 1})
	wantTold(t, "Export, then one more", s.Set("x", "", 1, 7), false)
	// A how that is none brings nothing that would take the last room.
	s = filled(t, api.MaxVars-1)
	s.Export("w", 3)
	s.Export("w", -1)
	wantTold(t, "Export of no how, then one more", s.Set("x", "", 1, 7), true)
}

func TestUndefinedAmongMaxVars(t *testing.T) {
	for what, again := range map[string]func(s *Store, name string){
		"Set":    func(s *Store, name string) { s.Set(name, "", api.FlavRecursive, api.OrigFile) },
		"Append": func(s *Store, name string) { s.Append(name, "", api.OrigFile) },
		"Export": func(s *Store, name string) { s.Export(name, 0) },
	} {
		for _, name := range []string{"v3", "w"} {
			s := filled(t, api.MaxVars)
			wantTold(t, "Undefine of a smaller origin", s.Undefine("v3", api.OrigEnv), false)
			again(s, "w")
			wantNone(t, "no room for "+what, s, "w")
			wantTold(t, "Undefine of none", s.Undefine("w", api.OrigAuto), true)
			again(s, "w")
			wantNone(t, "still no room for "+what, s, "w")
			wantTold(t, "Undefine", s.Undefine("v3", api.OrigFile), true)
			wantNone(t, "behind Undefine", s, "v3")
			again(s, name)
			wantVar(t, what, s, api.Var{Name: name, Flav: api.FlavRecursive, Origin: api.OrigFile})
			again(s, "x")
			wantNone(t, "no room again for "+what, s, "x")
			if len(s.List()) != api.MaxVars {
				t.Errorf("%s: %d variables", what, len(s.List()))
			}
		}
	}
}

func TestP1403Append(t *testing.T) {
	for _, x := range []struct{ old, value, want string }{
		{"1", "2", "1 2"},
		{"1 2", "3", "1 2 3"},
		{"", "x", "x"},
		{"", "", ""},
		{"", " ", " "},
		{"1", "", "1 "},
		{" ", "x", "  x"},
		{"a ", " b", "a   b"},
		{"a\n", "\tb", "a\n \tb"},
		{"$(a)", "$(b)", "$(a) $(b)"},
		{"\x00", "\xff", "\x00 \xff"},
	} {
		for _, flav := range []int{api.FlavSimple, api.FlavRecursive, api.FlavNone, -3, 44} {
			for how := range 3 {
				s := holding(t, api.Var{Name: "a", Value: x.old, Flav: flav, Origin: api.OrigEnv, Export: how})
				wantTold(t, "Append", s.Append("a", x.value, api.OrigOverride), true)
				wantList(t, fmt.Sprintf("%q and %q", x.old, x.value), s, api.Var{Name: "a", Value: x.want, Flav: flav, Origin: api.OrigOverride, Export: how})
			}
		}
	}
}

func TestP1403AppendToNone(t *testing.T) {
	for _, value := range []string{"", "x", " ", " x y "} {
		for _, origin := range append(origins(), -9, 70) {
			s := New()
			wantTold(t, "Append to none", s.Append("a", value, origin), true)
			wantList(t, "Append to none", s, api.Var{Name: "a", Value: value, Flav: api.FlavRecursive, Origin: origin})
		}
	}
}

func TestP1403AppendOverEachOrigin(t *testing.T) {
	for _, old := range append(origins(), -1, 8) {
		for _, origin := range append(origins(), -1, 8) {
			for _, value := range []string{"", "1"} {
				want := api.Var{Name: "a", Value: value, Flav: api.FlavSimple, Origin: old, Export: 1}
				s := holding(t, want)
				what := fmt.Sprintf("%d behind %d", origin, old)
				wantTold(t, what, s.Append("a", "2", origin), origin >= old)
				if origin >= old {
					want.Value, want.Origin = strings.TrimLeft(value+" 2", " "), origin
				}
				wantList(t, what, s, want)
			}
		}
	}
}

func TestP1403AppendHasNoBound(t *testing.T) {
	s := New()
	long := strings.Repeat("x", api.MaxText)
	wantTold(t, "Append", s.Append("a", long, api.OrigFile), true)
	wantTold(t, "Append", s.Append("a", long, api.OrigFile), true)
	wantVar(t, "a long value", s, api.Var{Name: "a", Value: long + " " + long, Flav: api.FlavRecursive, Origin: api.OrigFile})
}

func TestP1403Undefine(t *testing.T) {
	b := api.Var{Name: "b", Value: "2", Flav: api.FlavSimple, Origin: api.OrigAuto, Export: 1}
	for _, old := range append(origins(), -1, 8) {
		for _, origin := range append(origins(), -1, 8) {
			a := api.Var{Name: "a", Value: "1", Flav: api.FlavSimple, Origin: old, Export: 1}
			s := holding(t, a, b)
			what := fmt.Sprintf("Undefine by %d of %d", origin, old)
			wantTold(t, what, s.Undefine("a", origin), origin >= old)
			if origin < old {
				wantList(t, what, s, a, b)
				continue
			}
			wantList(t, what, s, b)
			wantNone(t, what, s, "a")
			wantTold(t, what+", again", s.Undefine("a", math.MinInt), true)
			// What is set anew has neither the old origin's power nor the old Export.
			wantTold(t, what+", then Set", s.Set("a", "", api.FlavRecursive, math.MinInt), true)
			wantVar(t, what+", then Set", s, api.Var{Name: "a", Flav: api.FlavRecursive, Origin: math.MinInt})
		}
	}
}

func TestP1403UndefineOfNone(t *testing.T) {
	a := api.Var{Name: "a", Value: "1", Origin: api.OrigAuto}
	for _, s := range []*Store{New(), holding(t, a)} {
		ahead := s.List()
		for _, name := range []string{"", "A", "aa", "b"} {
			for _, origin := range append(origins(), -1, 8, math.MinInt, math.MaxInt) {
				wantTold(t, "Undefine of none", s.Undefine(name, origin), true)
			}
		}
		wantList(t, "Undefine of none", s, ahead...)
	}
}

func TestP1404Export(t *testing.T) {
	for _, origin := range append(origins(), -1, 8) {
		for _, flav := range []int{api.FlavNone, api.FlavRecursive, api.FlavSimple} {
			for old := range 3 {
				for how := range 3 {
					a := api.Var{Name: "a", Value: "1", Flav: flav, Origin: origin, Export: old}
					b := api.Var{Name: "b", Value: "2"}
					s := holding(t, a, b)
					s.Export("a", how)
					a.Export = how
					wantList(t, fmt.Sprintf("Export %d over %d", how, old), s, a, b)
				}
			}
		}
	}
}

func TestP1404ExportOfNone(t *testing.T) {
	for how := range 3 {
		s := New()
		s.Export("a", how)
		a := api.Var{Name: "a", Flav: api.FlavRecursive, Origin: api.OrigFile, Export: how}
		wantList(t, "one that was not there", s, a)
		wantTold(t, "Set of a smaller origin", s.Set("a", "x", api.FlavSimple, api.OrigEnv), false)
		wantTold(t, "Append of the same one", s.Append("a", "x", api.OrigFile), true)
		a.Value = "x"
		wantList(t, "behind Append", s, a)
		wantTold(t, "Set", s.Set("a", "y", api.FlavSimple, api.OrigCommand), true)
		wantVar(t, "behind Set", s, api.Var{Name: "a", Value: "y", Flav: api.FlavSimple, Origin: api.OrigCommand, Export: how})
	}
}

func TestP1404AnyOtherHow(t *testing.T) {
	for _, how := range []int{3, 4, 100, math.MaxInt, -1, -2, math.MinInt, 1 << 32, 1<<32 + 1, 1<<8 + 1} {
		for old := range 3 {
			a := api.Var{Name: "a", Value: "1", Flav: api.FlavSimple, Origin: api.OrigEnv, Export: old}
			s := holding(t, a)
			s.Export("a", how)
			s.Export("b", how)
			s.Export("", how)
			wantList(t, fmt.Sprint("Export ", how), s, a)
		}
	}
}

func wantSpecial(t *testing.T, s *Store, name, want string) {
	t.Helper()
	if got, there := Special(s, name); got != want || !there {
		t.Errorf("Special %q: %q, %v, not %q", name, got, there, want)
	}
}

func wantNotSpecial(t *testing.T, s *Store, name string) {
	t.Helper()
	if got, there := Special(s, name); got != "" || there {
		t.Errorf("Special %q: %q, %v", name, got, there)
	}
}

// automatic makes a store in which a variable of that name is an automatic one.
func automatic(t *testing.T, name, value string) *Store {
	t.Helper()
	return holding(t, api.Var{Name: name, Value: value, Flav: api.FlavSimple, Origin: api.OrigAuto})
}

func TestP1405SpecialOfEachFirstByte(t *testing.T) {
	firsts := "@%<?^+*|"
	all, none := New(), New()
	for i := range 256 {
		name := string([]byte{byte(i)})
		lay(t, all, api.Var{Name: name, Value: fmt.Sprintf("d%d/x f%d", i, i), Flav: api.FlavSimple, Origin: api.OrigAuto})
	}
	for i := range 256 {
		name := string([]byte{byte(i)})
		lone := automatic(t, name, "p/q")
		if !strings.Contains(firsts, name) {
			for _, s := range []*Store{all, none, lone} {
				wantNotSpecial(t, s, name+"D")
				wantNotSpecial(t, s, name+"F")
			}
			continue
		}
		wantSpecial(t, all, name+"D", fmt.Sprintf("d%d .", i))
		wantSpecial(t, all, name+"F", fmt.Sprintf("x f%d", i))
		wantSpecial(t, lone, name+"D", "p")
		wantSpecial(t, lone, name+"F", "q")
		wantNotSpecial(t, none, name+"D")
		wantNotSpecial(t, none, name+"F")
	}
}

func TestP1405SpecialOfEachSecondByte(t *testing.T) {
	s := New()
	for i := range 8 {
		lay(t, s, api.Var{Name: "@%<?^+*|"[i : i+1], Value: "d/x", Flav: api.FlavSimple, Origin: api.OrigAuto})
	}
	for _, first := range []string{"@", "%", "<", "?", "^", "+", "*", "|"} {
		for i := range 256 {
			name := first + string([]byte{byte(i)})
			switch i {
			case 'D':
				wantSpecial(t, s, name, "d")
			case 'F':
				wantSpecial(t, s, name, "x")
			default:
				wantNotSpecial(t, s, name)
			}
		}
	}
}

func TestP1405SpecialOfOtherNames(t *testing.T) {
	s := New()
	names := []string{"", "@", "D", "F", "@DD", "@@D", "@DF", "@D ", " @D", "DF", "FD", "D@", "F@", "DD", "FF", "@@", "@d", "@f", "$@D", "(@D)", "@D\x00", "\xc3\xa9D", "\u2039D"}
	for _, name := range append(names, "@", "\xc3", "\u2039", "%<", "@%<?^+*|") {
		lay(t, s, api.Var{Name: name, Value: "d/x", Flav: api.FlavSimple, Origin: api.OrigAuto})
	}
	for _, name := range names {
		wantNotSpecial(t, s, name)
	}
	wantNotSpecial(t, s, "%<D")
	wantNotSpecial(t, s, "@%<?^+*|D")
	wantNotSpecial(t, s, strings.Repeat("@D", 10000))
	// The variable of that very name is not the one that counts.
	lone := automatic(t, "@D", "d/x")
	wantNotSpecial(t, lone, "@D")
}

func TestP1405SpecialOfEachOrigin(t *testing.T) {
	for _, origin := range append(origins(), -1, 8, 71, math.MinInt, math.MaxInt) {
		for _, flav := range []int{api.FlavNone, api.FlavSimple, api.FlavRecursive} {
			s := holding(t, api.Var{Name: "<", Value: "d/x", Flav: flav, Origin: origin, Export: 1})
			if origin == api.OrigAuto {
				wantSpecial(t, s, "<D", "d")
				wantSpecial(t, s, "<F", "x")
				continue
			}
			wantNotSpecial(t, s, "<D")
			wantNotSpecial(t, s, "<F")
		}
	}
}

func TestP1405SpecialOfWords(t *testing.T) {
	for _, x := range []struct{ value, dirs, files string }{
		{"", "", ""},
		{" \t\n ", "", ""},
		{"x", ".", "x"},
		{"x.o", ".", "x.o"},
		{"d/x.o", "d", "x.o"},
		{"a/b/c", "a/b", "c"},
		{"/x", "/", "x"},
		{"/", "/", ""},
		{"//", "/", ""},
		{"//x", "/", "x"},
		{"///x", "//", "x"},
		{"/a/x", "/a", "x"},
		{"d/", "d", ""},
		{"a/b/", "a/b", ""},
		{"/a/", "/a", ""},
		{"a//x", "a/", "x"},
		{"./x", ".", "x"},
		{"../x", "..", "x"},
		{"..", ".", ".."},
		{".", ".", "."},
		{"a/./x", "a/.", "x"},
		{"d/x.o y", "d .", "x.o y"},
		{"x y z", ". . .", "x y z"},
		{"d/x.o y /r a/b/c", "d . / a/b", "x.o y r c"},
		{"  d/x \t e/y\n\nz ", "d e .", "x y z"},
		{"d/x d/x", "d d", "x x"},
		{"d/ x", "d .", " x"},
		{"x d/", ". d", "x "},
		{"d/ e/", "d e", " "},
		{"/ / /", "/ / /", "  "},
		{"lib.a(d/x.o)", "lib.a(d", "x.o)"},
		{"d\\x $(a)/b %/c", ". $(a) %", "d\\x b c"},
		{"a\rb/\v\fc", "a\rb", "\v\fc"},
		{"\xff/\x00 \xc3\xa9/\xc3\xa8", "\xff \xc3\xa9", "\x00 \xc3\xa8"},
	} {
		for _, first := range []string{"@", "|"} {
			s := automatic(t, first, x.value)
			wantSpecial(t, s, first+"D", x.dirs)
			wantSpecial(t, s, first+"F", x.files)
			wantList(t, "Special changes nothing", s, api.Var{Name: first, Value: x.value, Flav: api.FlavSimple, Origin: api.OrigAuto})
		}
	}
}

func TestP1405SpecialOfManyWords(t *testing.T) {
	const n = 20000
	s := automatic(t, "^", strings.Repeat("a/b/c ", n))
	wantSpecial(t, s, "^D", strings.TrimSuffix(strings.Repeat("a/b ", n), " "))
	wantSpecial(t, s, "^F", strings.TrimSuffix(strings.Repeat("c ", n), " "))
}

func TestP1405SpecialFollowsTheStore(t *testing.T) {
	s := automatic(t, "@", "d/x")
	wantSpecial(t, s, "@D", "d")
	s.Append("@", "e/y", api.OrigAuto)
	wantSpecial(t, s, "@D", "d e")
	twin := s.Twin()
	s.Undefine("@", api.OrigAuto)
	wantNotSpecial(t, s, "@D")
	wantSpecial(t, twin, "@F", "x y")
	s.Export("@", 1)
	wantNotSpecial(t, s, "@D")
}

// over tells a text whose memory can be written over afterwards.
func over(s string) (string, []byte) {
	b := []byte(s)
	return unsafe.String(unsafe.SliceData(b), len(b)), b
}

func spoil(b []byte) {
	for i := range b {
		b[i] = '!'
	}
}

func TestWhatIsHandedInIsNotKept(t *testing.T) {
	s := New()
	for _, x := range []struct {
		call func(name, value string)
		want api.Var
	}{
		{func(name, value string) { s.Set(name, value, 1, 3) }, api.Var{Name: "name", Value: "value", Flav: 1, Origin: 3}},
		{func(name, value string) { s.Set(name, value, 2, 4) }, api.Var{Name: "name", Value: "value", Flav: 2, Origin: 4}},
		{func(name, value string) { s.Append(name, value, 5) }, api.Var{Name: "name", Value: "value value", Flav: 2, Origin: 5}},
		{func(name, _ string) { s.Append(name, "", 5) }, api.Var{Name: "name", Value: "value value ", Flav: 2, Origin: 5}},
		{func(name, _ string) { s.Set(name, "", 1, 5) }, api.Var{Name: "name", Flav: 1, Origin: 5}},
		{func(name, value string) { s.Append(name, value, 5) }, api.Var{Name: "name", Value: "value", Flav: 1, Origin: 5}},
		{func(name, _ string) { s.Export(name, 2) }, api.Var{Name: "name", Value: "value", Flav: 1, Origin: 5, Export: 2}},
		{func(name, _ string) { s.Undefine(name, 5); s.Export(name, 1) }, api.Var{Name: "name", Flav: 1, Origin: 3, Export: 1}},
		{func(name, value string) { s.Undefine(name, 5); s.Append(name, value, 1) }, api.Var{Name: "name", Value: "value", Flav: 1, Origin: 1}},
	} {
		name, nameBytes := over("name")
		value, valueBytes := over("value")
		x.call(name, value)
		spoil(nameBytes)
		spoil(valueBytes)
		wantList(t, "written over", s, x.want)
	}
}

// turn writes over the memory of a text that was answered.
func turn(s string) { spoil(unsafe.Slice(unsafe.StringData(s), len(s))) }

func TestWhatIsAnsweredIsNew(t *testing.T) {
	want := []api.Var{{Name: strings.Clone("@"), Value: strings.Clone("dir/file"), Flav: 2, Origin: 7}, {Name: strings.Clone("name"), Value: strings.Clone("value"), Flav: 1, Origin: 3, Export: 1}}
	s := holding(t, want...)
	twin := s.Twin()
	got, _ := s.Get("name")
	turn(got.Name)
	turn(got.Value)
	for _, v := range s.List() {
		turn(v.Name)
		turn(v.Value)
	}
	clear(s.List())
	for _, name := range []string{"@D", "@F"} {
		told, _ := Special(s, name)
		turn(told)
	}
	wantList(t, "a store whose answers were written over", s, want...)
	wantList(t, "its twin", twin, want...)
	// A twin's texts are its own: what the store holds can be written over.
	for _, v := range s.byName {
		turn(v.Value)
	}
	wantList(t, "a twin of what was written over", twin, want...)
}

func TestListsAreTheirOwn(t *testing.T) {
	s := filled(t, 5)
	one, two := s.List(), s.List()
	clear(one[:cap(one)])
	if !slices.Equal(two, s.List()) || len(two) != 5 {
		t.Errorf("a list that another one is part of: %+v", two)
	}
}

func TestHold(t *testing.T) {
	for _, old := range []api.Var{
		{Name: "a", Value: "old", Flav: api.FlavRecursive, Origin: api.OrigFile},
		{Name: "a", Value: "", Flav: api.FlavSimple, Origin: api.OrigAuto, Export: 2},
		{Name: "a", Value: "old", Flav: 7, Origin: 99, Export: 1},
		{Name: "", Value: "old", Flav: api.FlavRecursive, Origin: -5},
	} {
		s := holding(t, old, api.Var{Name: "b", Value: "other", Flav: 1, Origin: 3})
		before := s.List()
		back := s.Hold(old.Name, "new")
		wantVar(t, "held", s, api.Var{Name: old.Name, Value: "new", Flav: api.FlavSimple, Origin: api.OrigAuto, Export: old.Export})
		s.Export(old.Name, 1)
		wantTold(t, "Set over a held one", s.Set(old.Name, "x", 1, api.OrigOverride), false)
		inner := s.Hold(old.Name, "newer")
		wantVar(t, "held twice", s, api.Var{Name: old.Name, Value: "newer", Flav: api.FlavSimple, Origin: api.OrigAuto, Export: 1})
		inner()
		wantVar(t, "held once", s, api.Var{Name: old.Name, Value: "new", Flav: api.FlavSimple, Origin: api.OrigAuto, Export: 1})
		back()
		wantList(t, "put back", s, before...)
	}
}

func TestHoldOfNone(t *testing.T) {
	s := filled(t, api.MaxVars)
	before := s.List()
	back := s.Hold("new", "1")
	wantVar(t, "held", s, api.Var{Name: "new", Value: "1", Flav: api.FlavSimple, Origin: api.OrigAuto})
	wantTold(t, "Set of one more", s.Set("newer", "1", 1, 3), false)
	if l := s.Twin().List(); !slices.Equal(l, s.List()) || len(l) != api.MaxVars+1 {
		t.Errorf("the twin of a store that holds one more: %d variables", len(l))
	}
	back()
	wantList(t, "put back", s, before...)
	name, value := []byte("name"), []byte("value")
	back = s.Hold(unsafe.String(&name[0], 4), unsafe.String(&value[0], 5))
	clear(name)
	clear(value)
	wantVar(t, "held", s, api.Var{Name: "name", Value: "value", Flav: api.FlavSimple, Origin: api.OrigAuto})
	back()
	wantList(t, "put back", s, before...)
}

func TestNoStore(t *testing.T) {
	var s *Store
	wantNone(t, "no store", s, "a")
	wantTold(t, "Set", s.Set("a", "1", 1, 3), false)
	wantTold(t, "Append", s.Append("a", "1", 3), false)
	wantTold(t, "Undefine", s.Undefine("a", 0), true)
	s.Export("a", 1)
	s.Export("a", 9)
	s.Hold("a", "1")()
	wantList(t, "no store", s)
	wantNotSpecial(t, s, "@D")
	wantNotSpecial(t, s, "")
	twin := s.Twin()
	wantList(t, "the twin of none", twin)
	lay(t, twin, api.Var{Name: "a"})
}

func TestStoreThatNewHasNotMade(t *testing.T) {
	for what, call := range map[string]func(s *Store){
		"Set":    func(s *Store) { s.Set("a", "", api.FlavRecursive, api.OrigFile) },
		"Append": func(s *Store) { s.Append("a", "", api.OrigFile) },
		"Export": func(s *Store) { s.Export("a", 0) },
	} {
		var s Store
		wantNone(t, what, &s, "a")
		wantTold(t, what, s.Undefine("a", 0), true)
		wantNotSpecial(t, &s, "@D")
		wantList(t, what, s.Twin())
		call(&s)
		wantList(t, what, &s, api.Var{Name: "a", Flav: api.FlavRecursive, Origin: api.OrigFile})
	}
}

// plain is a second telling of the chapter: variables on a list, in the order in which they came.
type plain struct{ list []api.Var }

func (p *plain) at(name string) int {
	return slices.IndexFunc(p.list, func(v api.Var) bool { return v.Name == name })
}

func (p *plain) set(v api.Var) bool {
	i := p.at(v.Name)
	switch {
	case i < 0 && len(p.list) == api.MaxVars:
		return false
	case i < 0:
		p.list = append(p.list, v)
		return true
	case p.list[i].Origin > v.Origin:
		return false
	}
	v.Export = p.list[i].Export
	p.list[i] = v
	return true
}

func (p *plain) append(name, value string, origin int) bool {
	v := api.Var{Name: name, Value: value, Flav: api.FlavRecursive, Origin: origin}
	if i := p.at(name); i >= 0 {
		v.Flav = p.list[i].Flav
		if p.list[i].Value != "" {
			v.Value = strings.Join([]string{p.list[i].Value, value}, " ")
		}
	}
	return p.set(v)
}

func (p *plain) undefine(name string, origin int) bool {
	i := p.at(name)
	if i >= 0 && p.list[i].Origin > origin {
		return false
	}
	p.list = slices.DeleteFunc(p.list, func(v api.Var) bool { return v.Name == name })
	return true
}

func (p *plain) export(name string, how int) {
	if how != 0 && how != 1 && how != 2 {
		return
	}
	if p.at(name) < 0 {
		p.set(api.Var{Name: name, Flav: api.FlavRecursive, Origin: api.OrigFile})
	}
	if i := p.at(name); i >= 0 {
		p.list[i].Export = how
	}
}

func (p *plain) sorted() []api.Var {
	l := slices.Clone(p.list)
	slices.SortFunc(l, func(a, b api.Var) int { return strings.Compare(a.Name, b.Name) })
	return l
}

func (p *plain) special(name string) (string, bool) {
	if len(name) != 2 || strings.IndexByte("DF", name[1]) < 0 || strings.IndexByte("@%<?^+*|", name[0]) < 0 {
		return "", false
	}
	i := p.at(name[:1])
	if i < 0 || p.list[i].Origin != api.OrigAuto {
		return "", false
	}
	told := ""
	for n, w := range strings.FieldsFunc(p.list[i].Value, func(r rune) bool { return r == ' ' || r == '\t' || r == '\n' }) {
		if n > 0 {
			told += " "
		}
		slash := strings.LastIndex(w, "/")
		switch {
		case name[1] == 'F':
			told += w[slash+1:]
		case slash < 0:
			told += "."
		case slash == 0:
			told += "/"
		default:
			told += w[:slash]
		}
	}
	return told, true
}

// both is a store and its second telling.
type both struct {
	store *Store
	plain *plain
}

func (b both) twin() both {
	return both{b.store.Twin(), &plain{slices.Clone(b.plain.list)}}
}

// step makes one call on both, and holds what they answer against each other.
func (b both) step(t *testing.T, r *rand.Rand, name string) {
	t.Helper()
	values := []string{"", "1", "d/x", "a/b/c y", "/r", " ", "d/ e"}
	value := values[r.Intn(len(values))]
	flav, origin, how := r.Intn(3), r.Intn(9), r.Intn(5)-1
	switch r.Intn(5) {
	case 0, 1:
		wantTold(t, "Set "+name, b.store.Set(name, value, flav, origin), b.plain.set(api.Var{Name: name, Value: value, Flav: flav, Origin: origin}))
	case 2:
		wantTold(t, "Append "+name, b.store.Append(name, value, origin), b.plain.append(name, value, origin))
	case 3:
		wantTold(t, "Undefine "+name, b.store.Undefine(name, origin), b.plain.undefine(name, origin))
	case 4:
		b.store.Export(name, how)
		b.plain.export(name, how)
	}
}

func (b both) hold(t *testing.T, name string) {
	t.Helper()
	var want api.Var
	i := b.plain.at(name)
	if i >= 0 {
		want = b.plain.list[i]
	}
	if got, there := b.store.Get(name); got != want || there != (i >= 0) {
		t.Fatalf("Get %q: %+v, %v, not %+v", name, got, there, want)
	}
	for _, second := range []string{"D", "F", "X", ""} {
		want, wantThere := b.plain.special(name + second)
		if got, there := Special(b.store, name+second); got != want || there != wantThere {
			t.Fatalf("Special %q: %q, %v, not %q, %v", name+second, got, there, want, wantThere)
		}
	}
}

func TestAgainstThePlainTelling(t *testing.T) {
	names := []string{"", "a", "b", "aa", "@", "%", "<", "?", "^", "+", "*", "|", "$", "@D"}
	for seed := range 60 {
		r := rand.New(rand.NewSource(int64(seed)))
		all := []both{{New(), &plain{}}}
		for range 400 {
			one := all[r.Intn(len(all))]
			name := names[r.Intn(len(names))]
			one.step(t, r, name)
			one.hold(t, name)
			if len(all) < 4 && r.Intn(50) == 0 {
				all = append(all, one.twin())
			}
			for _, b := range all {
				if got, want := b.store.List(), b.plain.sorted(); !slices.Equal(got, want) {
					t.Fatalf("List: %+v, not %+v", got, want)
				}
			}
		}
	}
}

func TestAgainstThePlainTellingNearMaxVars(t *testing.T) {
	r := rand.New(rand.NewSource(1400))
	b := both{filled(t, api.MaxVars-2), &plain{filled(t, api.MaxVars-2).List()}}
	for range 4000 {
		name := fmt.Sprint("v", api.MaxVars-6+r.Intn(12))
		b.step(t, r, name)
		b.hold(t, name)
	}
	if got, want := b.store.List(), b.plain.sorted(); !slices.Equal(got, want) || len(got) > api.MaxVars {
		t.Errorf("%d variables, not %d", len(got), len(want))
	}
}
