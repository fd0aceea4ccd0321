package expand

import (
	"fmt"
	"math"
	"reflect"
	"slices"
	"strconv"
	"strings"
	"sync"
	"testing"
	"unsafe"

	"anvil/api"
	"anvil/refs"
	"anvil/vars"
	"anvil/vfs"
)

const plenty = 100000

// holding makes a store with these variables.
func holding(t *testing.T, l ...api.Var) *vars.Store {
	t.Helper()
	s := vars.New()
	for _, v := range l {
		if !s.Set(v.Name, v.Value, v.Flav, v.Origin) {
			t.Fatalf("%+v is refused", v)
		}
		s.Export(v.Name, v.Export)
	}
	return s
}

func recursive(name, value string) api.Var {
	return api.Var{Name: name, Value: value, Flav: api.FlavRecursive, Origin: api.OrigFile}
}

func simple(name, value string) api.Var {
	return api.Var{Name: name, Value: value, Flav: api.FlavSimple, Origin: api.OrigFile}
}

func automatic(name, value string) api.Var {
	return api.Var{Name: name, Value: value, Flav: api.FlavSimple, Origin: api.OrigAuto}
}

// usual makes the store that most tests ask.
func usual(t *testing.T) *vars.Store {
	t.Helper()
	return holding(t,
		simple("a", "x.c y.c"), recursive("b", "$(a) $(c)"), recursive("r", "$(r)"), recursive("f", "$(2)-$(1)"),
		simple("s", "$(a)"), recursive("n", "a"), recursive("d", "$$x"), simple("sp", " "), recursive("e", ""),
		recursive("p", "$(q)"), recursive("q", "<$(p)>"), recursive("wrong", "$(x"), recursive("all", "$(0)|$(1)|$(2)|$(3)|$(4)|$(5)|$(6)|$(7)|$(8)|$(9)|$(10)|$(11)"),
		simple("comma", ","), simple("colon", "a:.c=.o"), automatic("@", "dir/t.o u"), simple("1", "one"), recursive("9", "nine"), simple("10", "ten"), recursive("pct", "%.c"))
}

// tree makes a file system of these files; those that end in a slash are directories.
func tree(t *testing.T, names ...string) *vfs.FS {
	t.Helper()
	f, e := vfs.New(api.Tree{Room: 10000})
	if e != api.OK {
		t.Fatal(e)
	}
	for _, n := range names {
		if strings.HasSuffix(n, "/") {
			e = f.Mkdir(strings.TrimSuffix(n, "/"))
		} else {
			e = f.Write(n, []byte(n), false)
		}
		if e != api.OK {
			t.Fatal(n, e)
		}
	}
	return f
}

func short(s string) string {
	if len(s) > 120 {
		return fmt.Sprintf("%s.. (%d bytes)", s[:120], len(s))
	}
	return s
}

func want(t *testing.T, s *vars.Store, text, wanted string) {
	t.Helper()
	if got, left, e := Expand(s, nil, text, plenty); e != api.OK || got != wanted || left < 0 || left > plenty {
		t.Errorf("%q: %q, %d, %d, not %q", short(text), short(got), left, int(e), short(wanted))
	}
}

func wantError(t *testing.T, s *vars.Store, text string, wanted api.Errno) {
	t.Helper()
	wantErrorWith(t, s, text, plenty, wanted)
}

func wantErrorWith(t *testing.T, s *vars.Store, text string, fuel int, wanted api.Errno) {
	t.Helper()
	if got, left, e := Expand(s, nil, text, fuel); e != wanted || got != "" || left != 0 {
		t.Errorf("%q with %d: %q, %d, %d, not %d", short(text), fuel, short(got), left, int(e), int(wanted))
	}
}

// wantCost holds that a text costs just so much: with less it is out of fuel, with more that is left.
func wantCost(t *testing.T, s *vars.Store, text string, cost int) {
	t.Helper()
	for fuel := range cost {
		wantErrorWith(t, s, text, fuel, api.ErrFuel)
	}
	whole, _, _ := Expand(s, nil, text, plenty)
	for _, more := range []int{0, 1, 2, 50, math.MaxInt - cost} {
		if got, left, e := Expand(s, nil, text, cost+more); e != api.OK || left != more || got != whole {
			t.Errorf("%q with %d: %q, %d, %d; it costs %d", short(text), cost+more, short(got), left, int(e), cost)
		}
	}
}

func TestTheChaptersExamples(t *testing.T) {
	s := holding(t, simple("a", "x.c y.c"), recursive("b", "$(a) $(c)"), recursive("r", "$(r)"), recursive("f", "$(2)-$(1)"))
	want(t, s, "$(a:.c=.o)", "x.o y.o")
	want(t, s, "$(b)", "x.c y.c ")
	wantError(t, s, "$(r)", api.ErrSelf)
	want(t, s, "$(words $(a) z)", "3")
	want(t, s, "$(foreach i,1 2,<$(i)>)", "<1> <2>")
	want(t, s, "$(if ,a,b)", "b")
	wantError(t, s, "$(word 0,a)", api.ErrNumber)
	want(t, s, "$(call f,p,q)", "q-p")
	wantCost(t, s, "$(a:.c=.o)", 1)
	wantCost(t, s, "$(b)", 3)
}

func TestP1601BytesAreAsTheyAre(t *testing.T) {
	s := usual(t)
	for _, b := range []string{"", "a", " ", "  a \t\nb  ", "a,b:c=d", "(a)", "{b}", "\x00\xff", "%", "subst a,b,c", "\\", "#"} {
		want(t, s, b, b)
		wantCost(t, s, b, 0)
	}
	want(t, s, "$$", "$")
	want(t, s, "a$$(b)$$$$", "a$(b)$$")
	want(t, s, "$", "$")
	want(t, s, "x$", "x$")
	want(t, s, " $a ${a} $(a)$$a ", " x.c y.c x.c y.c x.c y.c$a ")
	for i := range 256 {
		b := string([]byte{byte(i)})
		want(t, s, b, b)
	}
}

func TestP1601ParsesErrorComesFirst(t *testing.T) {
	s := usual(t)
	for _, text := range []string{"$(x", "${x", "a $(b) $(x", "$(", "${", "$(a)${", "$(subst a,b,c", "$(error a)$(x", "$(shell a)$(x", "$(r)$(", "$(word 0,a) ${x)"} {
		wantError(t, s, text, api.ErrRef)
		wantErrorWith(t, s, text, 0, api.ErrRef)
	}
	wantError(t, s, "$(wrong)", api.ErrRef)
	wantError(t, s, "$(error a)$(wrong)", api.ErrUser)
	wantError(t, s, "$(wrong)$(error a)", api.ErrRef)
	wantError(t, s, "$(strip ${x)", api.ErrRef)
	wantError(t, s, "$(if a,${x)", api.ErrRef)
	want(t, s, "$(if ,${x)", "")
}

func TestP1601Fuel(t *testing.T) {
	s := usual(t)
	for text, cost := range map[string]int{
		"": 0, "a$$": 0, "$a": 1, "$(a)": 1, "$()": 1, "$(none)": 1, "$a$a": 2, "$(b)": 3, "$(b)$(b)": 6, "$(n)": 1, "$($(n))": 2, "$($($(n)))": 3, "$(s)": 1, "$(@D)": 1,
		"$(a:.c=.o)": 1, "$(a:$(pct)=%.o)": 2, "$(b:.c=.o)": 3, "$(strip a)": 1, "$(strip $(a) $(b))": 5, "$(subst $(n),$(n),$(n))": 4, "$(words )": 1,
		"$(if ,$(a),$(b))": 4, "$(if x,$(a),$(b))": 2, "$(if $(a),$(n))": 3, "$(if ,$(a))": 1, "$(or $(a),$(b))": 2, "$(or $(none),$(b),$(a))": 5, "$(and $(none),$(b))": 2, "$(and $(a),$(b))": 5,
		"$(foreach i,1 2 3,$(i))": 4, "$(foreach i,,$(i))": 1, "$(foreach $(n),$(a),$(a)$(a))": 7, "$(foreach i,1 2,x)": 1, "$(foreach i,1 2,$(foreach j,3 4,$(i)$(j)))": 11,
		"$(call f,p,q)": 3, "$(call f,$(a),$(b))": 7, "$(call a)": 1, "$(call none,$(a))": 2, "$(call if,$(a),$(b),$(n))": 6, "$(call subst,a,b,$(a))": 2, "$(call call,f,1,2)": 3,
		"$(value b)": 1, "$(origin b)": 1, "$(flavor $(n))": 2, "$(warning $(a))": 2, "$(info )": 1,
	} {
		wantCost(t, s, text, cost)
	}
	for _, fuel := range []int{0, -1, -1000, math.MinInt} {
		wantErrorWith(t, s, "$(a)", fuel, api.ErrFuel)
		if got, left, e := Expand(s, nil, "a$$b", fuel); got != "a$b" || left != 0 || e != api.OK {
			t.Errorf("a text without references with %d: %q, %d, %d", fuel, got, left, int(e))
		}
	}
}

func TestP1601FuelIsAskedAheadOfAll(t *testing.T) {
	s := usual(t)
	for text, fuel := range map[string]int{
		"$(error a)": 0, "$(shell a)": 0, "$(subst a)": 0, "$(if a)": 0, "$(r)": 1, "$(word 0,a)": 0, "$(wildcard *)": 0, "$(strip $(error a))": 1, "$(strip $(subst a))": 1, "$(wrong)": 0, "a$(a)$(error x)": 1,
		nested(61): 60, "$(foreach i,1 2,$(if $(findstring 2,$(i)),$(error x)))": 7,
	} {
		wantErrorWith(t, s, text, fuel, api.ErrFuel)
		if _, _, e := Expand(s, nil, text, fuel+1); e == api.OK || e == api.ErrFuel {
			t.Errorf("%q with %d: %d", short(text), fuel+1, int(e))
		}
	}
}

func TestP1601TheFirstErrorFromTheLeft(t *testing.T) {
	s := usual(t)
	errors := []struct {
		text string
		e    api.Errno
	}{
		{"$(error x)", api.ErrUser}, {"$(shell x)", api.ErrHost}, {"$(r)", api.ErrSelf}, {"$(word 0,a)", api.ErrNumber}, {"$(subst a)", api.ErrRef}, {nested(61), api.ErrDeep}, {strings.Repeat("x", api.MaxText+1), api.ErrLong}, {"$(wrong)", api.ErrRef}, {"$(wildcard a)", api.ErrHost}, {"$(call strip)", api.ErrRef},
	}
	for _, one := range errors {
		for _, two := range errors {
			wantError(t, s, one.text+two.text, one.e)
			wantError(t, s, "a$(a)"+one.text+" "+two.text, one.e)
			if one.e == api.ErrDeep {
				continue
			}
			for _, around := range []string{"$(strip %s)%s", "$(subst a,%s,%s)", "$(%s)%s", "$(a:%s=%s)", "$(if %s,%s)", "$(if ,,%s)%s", "$(or %s,%s)", "$(or ,%s,%s)", "$(and a,%s,%s)", "$(foreach i,%s,%s)", "$(foreach %s,%s,)", "$(foreach i,1 2,%s%s)", "$(call f,%s,%s)", "$(call %s,%s)", "$(word %s,%s)", "$(warning %s)%s", "$(error %s%s)", "$(shell %s%s)", "$(wordlist %s,%s,a)"} {
				wantError(t, s, fmt.Sprintf(around, one.text, two.text), one.e)
			}
		}
	}
	// Too few arguments are seen ahead of what the others have.
	wantError(t, s, "$(if $(error x))", api.ErrRef)
	wantError(t, s, "$(subst $(error x),$(r))", api.ErrRef)
	// A text is too long as soon as it is, and a list as well.
	x := strings.Repeat("x", api.MaxText)
	wantError(t, s, x+"y$(error x)", api.ErrLong)
	wantError(t, s, x+"$(error x)y", api.ErrUser)
	wantError(t, s, x+"$(n)$(error x)", api.ErrLong)
	wantError(t, s, "$(foreach i,1 2 3,$(if $(filter 3,$(i)),$(error x))"+x[1:]+")", api.ErrLong)
	wantError(t, s, "$(foreach i,1 2 3,$(if $(filter 2,$(i)),$(error x))"+x[1:]+")", api.ErrUser)
}

// nested is n parts within one another.
func nested(n int) string { return strings.Repeat("$(", n) + strings.Repeat(")", n) }

func TestP1601Deep(t *testing.T) {
	s := usual(t)
	want(t, s, nested(60), "")
	wantCost(t, s, nested(60), 60)
	wantError(t, s, nested(61), api.ErrDeep)
	wantError(t, s, nested(1000), api.ErrDeep)
	want(t, s, nested(60)+nested(60), "")
	wantError(t, s, nested(60)+nested(61), api.ErrDeep)
	for open, inner := range map[string]string{"$(strip ": "a", "$(if ,,": "b", "$(or ,": "c", "$(and x,": "d", "$(foreach i,1,": "e", "$(call or,": "f", "$(subst z,,": "g"} {
		want(t, s, strings.Repeat(open, 60)+inner+strings.Repeat(")", 60), inner)
		want(t, s, strings.Repeat(open, 59)+"$(none)"+inner+strings.Repeat(")", 59), inner)
		wantError(t, s, strings.Repeat(open, 60)+"$(none)"+inner+strings.Repeat(")", 60), api.ErrDeep)
		wantError(t, s, strings.Repeat(open, 61)+inner+strings.Repeat(")", 61), api.ErrDeep)
	}
	// What would be deep is not, where it is not expanded.
	want(t, s, "$(if ,"+nested(70)+",a)", "a")
	want(t, s, "$(foreach i,,"+nested(70)+")", "")
	// Behind a deep part the next one begins anew; so it does within a list.
	want(t, s, "$(foreach i,1 2 3,"+nested(59)+")", "  ")
	wantError(t, s, "$(foreach i,1 2 3,"+nested(60)+")", api.ErrDeep)
	want(t, s, "$(if ,"+strings.Repeat("$(", 500)+strings.Repeat(")", 500)+")", "")
}

func TestP1601DeepByVariables(t *testing.T) {
	// v1 is $(v2) and so on: the parts of a variable's value are within the variable's.
	for n := 58; n < 64; n++ {
		s := vars.New()
		for i := 1; i < n; i++ {
			s.Set(fmt.Sprint("v", i), fmt.Sprintf("$(v%d)", i+1), api.FlavRecursive, api.OrigFile)
		}
		s.Set(fmt.Sprint("v", n), "end", api.FlavRecursive, api.OrigFile)
		if n <= 60 {
			want(t, s, "$(v1)$(v1)", "endend")
			wantCost(t, s, "$(v1)", n)
		} else {
			wantError(t, s, "$(v1)", api.ErrDeep)
		}
		if n <= 59 {
			want(t, s, "$(strip $(v1))", "end")
			want(t, s, "$(v1:d=t)", "ent")
			want(t, s, "$(call v1)", "end")
			want(t, s, "$($(v1))", "")
		} else {
			wantError(t, s, "$(strip $(v1))", api.ErrDeep)
			wantError(t, s, "$($(v1))", api.ErrDeep)
		}
	}
	s := holding(t, recursive("on", "$(call on)"), recursive("in", "<$(call in,$(1)x)>"), recursive("two", "$(call two)$(call two)"))
	wantError(t, s, "$(call on)", api.ErrDeep)
	wantError(t, s, "$(on)", api.ErrDeep)
	wantError(t, s, "$(call in,a)", api.ErrDeep)
	wantError(t, s, "$(call two)", api.ErrDeep)
	wantErrorWith(t, s, "$(call on)", 60, api.ErrFuel)
	wantErrorWith(t, s, "$(call on)", 61, api.ErrDeep)
}

func TestP1601Long(t *testing.T) {
	just := strings.Repeat("x", api.MaxText)
	s := holding(t, simple("just", just), simple("more", just+"x"), recursive("rjust", just), recursive("rmore", just+"x"), recursive("twice", "$(just)$(just)"), simple("half", just[:api.MaxText/2]), simple("many", strings.Repeat("a ", api.MaxText/2)), simple("blank", strings.Repeat(" ", api.MaxText+1)), simple("dollars", strings.Repeat("$$", api.MaxText)))
	for _, text := range []string{just, "$(just)", "$(rjust)", "$(half)$(half)", "$(strip $(just))", "$(if x,$(just))", "$(or $(just))", "$(and $(just))", "$(foreach i,1,$(just))", "$(call just)", "$(call rjust)", "$(value just)", "$(value rjust)", "$(just:y=z)", "$(just:%=%)", "$(subst y,zz,$(just))", "$(subst x,y,$(just))", "$(findstring x,$(just))", "$(addsuffix ,$(just))", "$(lastword a $(half))$(half)", "$(just)$(none)$(if ,)", "$(if ,$(more))$(just)"} {
		got, _, e := Expand(s, nil, text, plenty)
		if e != api.OK || len(got) != api.MaxText && !strings.Contains(text, "findstring") {
			t.Errorf("%q: %d bytes, %d", short(text), len(got), int(e))
		}
		if len(got) == api.MaxText {
			wantError(t, s, text+"y", api.ErrLong)
			wantError(t, s, "y"+text, api.ErrLong)
			wantError(t, s, text+"$$", api.ErrLong)
			want(t, s, "$(if "+text+",y)", "y")
		}
	}
	for _, text := range []string{just + "x", "$(more)", "$(rmore)", "$(twice)", "$(if ,,$(more))", "$(if $(more),a)", "$(if $(rmore),a)", "$(words $(twice))", "$(if $(just)x,a)", "$(words x$(just))", "$(value more)", "$(call more)", "$(call rmore)", "$(more:x=)", "$(blank:a=b)", "$(words $(blank))", "$(foreach i,1 2,$(half))", "$(foreach i,1 2,$(just))", "$(subst x,xx,$(just))", "$(subst x,xx,$(half)x)", "$(addsuffix x,$(just))", "$(addprefix x,$(just))", "$(join $(just),x)", "$(join a $(half),$(half))", "$(patsubst %,%x,$(just))", "$(just:%=%x)", "$(just:x=xx)", "$(dir $(many))", "$(abspath $(many))", "$(words $(addsuffix x,$(just)))", "$(if $(just:=x),a)", "$($(more))", "$(origin $(more))", "$(info $(more))", "$(call f,$(more))", "$(foreach i,$(more),)", "$(foreach $(more),,)"} {
		wantError(t, s, text, api.ErrLong)
	}
	want(t, s, "$(origin more) $(flavor more)", "file simple")
	want(t, s, "$(words $(many)) $(words $(just))", "32768 1")
	want(t, s, "$(words $(foreach i,$(many),$(i)))", "32768")
	wantError(t, s, "$(foreach i,$(many),$(i)$(i))", api.ErrLong)
	wantError(t, s, "$(dollars)", api.ErrLong)
	// A text may be long as it stands.
	want(t, s, strings.Repeat("$(none)", 20000)+strings.Repeat("$$", 1000), strings.Repeat("$", 1000))
	want(t, s, "$(if ,"+strings.Repeat(just, 20)+")a", "a")
}

func TestP1601ManyLongWordsTakeNoRoom(t *testing.T) {
	long, many := strings.Repeat("x", api.MaxText), strings.Repeat("a ", api.MaxText/2)
	s := holding(t, simple("long", long), simple("many", many))
	for _, text := range []string{"$(addsuffix $(long),$(many))", "$(addprefix $(long),$(many))", "$(patsubst %,$(long),$(many))", "$(patsubst %,%$(long),$(many))", "$(many:%=$(long))", "$(many:a=$(long))", "$(foreach i,$(many),$(long))", "$(subst a,$(long),$(many))"} {
		wantError(t, s, text, api.ErrLong)
	}
	f := tree(t, "a.c", "b.c", "c.c")
	stars := holding(t, simple("many", strings.Repeat("* ", api.MaxText/2)))
	if got, left, e := Expand(stars, f, "$(wildcard $(many))", 5); got != "" || left != 0 || e != api.ErrLong {
		t.Errorf("many wildcards: %d bytes, %d, %d", len(got), left, int(e))
	}
}

func TestP1602Variables(t *testing.T) {
	s := usual(t)
	for text, value := range map[string]string{
		"$(none)": "", "${none}": "", "$z": "", "$()": "", "${}": "", "$( )": "", "$(a)": "x.c y.c", "${a}": "x.c y.c", "$a": "x.c y.c", "$( a)": "", "$(a )": "", "$s": "$(a)", "$(b)": "x.c y.c ", "$(d)": "$x", "$e": "",
		"$($(n))": "x.c y.c", "$($n)": "x.c y.c", "$($($($(n))))": "", "$(${n})": "x.c y.c", "$($(none)a)": "x.c y.c", "$($(sp))": "", "$(s$(none)p)": " ", "$(@)": "dir/t.o u", "$@": "dir/t.o u", "$(1)$(10)": "oneten", "$10": "one0",
		"$(@D)": "dir .", "$(@F)": "t.o u", "${@D}": "dir .", "$(@$(none)F)": "t.o u", "$(<D)": "", "$(@X)": "", "$(1D)": "", "$@D": "dir/t.o uD", "$(@D:r=x)": "dix .", "$(subst)": "", "$(subst,a)": "", "$(words,a b)": "",
	} {
		want(t, s, text, value)
	}
}

func TestP1602EachFlavourAndOrigin(t *testing.T) {
	for origin := -1; origin < 10; origin++ {
		for flav, wanted := range map[int]string{api.FlavSimple: "$(x)", api.FlavRecursive: "y"} {
			s := holding(t, simple("x", "y"), api.Var{Name: "v", Value: "$(x)", Flav: flav, Origin: origin, Export: 2})
			want(t, s, "$(v)$v", wanted+wanted)
			want(t, s, "$(call v)", wanted)
			want(t, s, "$(v:%=%)", wanted)
		}
	}
	for _, flav := range []int{0, 3, -1, math.MaxInt} {
		s := holding(t, api.Var{Name: "v", Value: "$(x)", Flav: flav, Origin: api.OrigFile})
		want(t, s, "$(v)", "$(x)")
	}
}

func TestP1602TheEmptyName(t *testing.T) {
	for _, v := range []api.Var{simple("", "x"), recursive("", "$()x"), recursive("", "$(error a)")} {
		s := holding(t, v)
		want(t, s, "<$()${}$($(none))>", "<>")
		want(t, s, "<$(:=y)>", "<>")
		want(t, s, "<$(call )$(call ,a)>", "<>")
		want(t, s, "<$(foreach ,1 2,$())>", "< >")
	}
}

func TestP1602SpecialGoesAhead(t *testing.T) {
	s := holding(t, automatic("@", "d/x"), automatic("@D", "no"), recursive("@F", "$(error a)"), simple("<", "d/x"), simple("<D", "yes"))
	want(t, s, "$(@D) $(@F) $(<D) $(<F)", "d x yes ")
	want(t, s, "$(value @D) $(origin @D) $(flavor @F)", "no automatic recursive")
	want(t, s, "$(foreach <,p/q r/s,$(<D)$(<F))", "pq rs")
	want(t, s, "$(foreach ^,p/q,$(^D))$(^D)", "p")
	want(t, s, "$(call @D)", "d")
}

func TestP1602Itself(t *testing.T) {
	s := holding(t, recursive("r", "$(r)"), recursive("p", "$(q)"), recursive("q", "<$(p)>"), recursive("s", "$(if ,$(s),x)"), recursive("t", "$(foreach t,1 2,$(t))"), recursive("u", "$(value u)$(origin u)$(flavor u)"), recursive("v", "$($(w))"), recursive("w", "v"), recursive("x", "$(strip $(x:a=b))"), simple("y", "$(y)"), recursive("ok", "$(one)$(one)$(two)"), recursive("one", "1"), recursive("two", "$(one)$(one)"))
	for _, text := range []string{"$(r)", "$r", "a$(r)", "$(r:a=b)", "$(strip $(r))", "$($(r))", "$(p)", "$(q)", "$(v)", "$(x)", "$(foreach i,1,$(r))", "$(if $(r),a)", "$(call r)", "$(call p)", "$(call v)"} {
		wantError(t, s, text, api.ErrSelf)
	}
	want(t, s, "$(s)$(t)", "x1 2")
	want(t, s, "$(u)", "$(value u)$(origin u)$(flavor u)filerecursive")
	want(t, s, "$(y)", "$(y)")
	want(t, s, "$(ok)$(ok)", "11111111")
	want(t, s, "$(one)$(one)$(two)", "1111")
}

func TestP1602Substituted(t *testing.T) {
	s := holding(t, simple("a", "x.c y.c z.h"), simple("blank", "  p.c \t q.c\n"), recursive("b", "$(a) w.c"), simple("c", ".c"), simple("change", "a:.c=.o"), simple("eq", "="), simple("col", ":"), simple("a=b", "k.c"), simple("a:b", "colon"), simple("a=b:c", "other"), simple("a%", "%.c a"), simple("none:", "n"), automatic("@", "d/x.c y.c"))
	for text, value := range map[string]string{
		"$(a:.c=.o)": "x.o y.o z.h", "$(a:%.c=%.o)": "x.o y.o z.h", "$(a:%.c=d/%.o)": "d/x.o d/y.o z.h", "$(a:x%=w%)": "w.c y.c z.h", "$(a:%=%)": "x.c y.c z.h", "$(a:=)": "x.c y.c z.h", "$(a:=.d)": "x.c.d y.c.d z.h.d", "$(a:.c=)": "x y z.h", "$(a:x.c=)": " y.c z.h", "$(a:%.c=)": "  z.h", "$(a:%=)": "  ",
		"$(a:x.c=z)": "z y.c z.h", "$(a:.c=%)": "x% y% z.h", "$(a:.c=.%)": "x.% y.% z.h", "$(a:%.c=%%)": "x% y% z.h", "$(a:%.c=q)": "q q z.h", "$(a:.c=.o=p)": "x.o=p y.o=p z.h", "$(a:.c=.o:p)": "x.o:p y.o:p z.h", "$(a:b:.c=.o)": "x.c y.c z.h",
		"$(blank:.c=.o)": "p.o q.o", "$(blank:=)": "p.c q.c", "$(b:.c=.o)": "x.o y.o z.h w.o", "$(a:$(c)=.o)": "x.o y.o z.h", "$(a$(col)$(c)$(eq).o)": "x.o y.o z.h", "$($(change))": "x.o y.o z.h", "$(a:.c=$(a))": "xx.c y.c z.h yx.c y.c z.h z.h",
		"$(none:.c=.o)": "", "$(:.c=.o)": "", "$(a=b)": "k.c", "$(a:b)": "colon", "$(a=b:c)": "other", "$(a=b:c=d)": "k.d", "$(a:)": "", "$(none:)": "n", "$(a:.c)": "", "$(a :.c=.o)": "", "$(a: .c=.o)": "x.c y.c z.h", "$(a:.c= .o)": "x .o y .o z.h", "$(a%:%.c=%%%.o)": "%%%.o a",
		"$(@D:d=e)": "e .", "$(@:.c=.o)": "d/x.o y.o", "$(@F:.c=.o)": "x.o y.o", "$(a:%.c=%.o )": "x.o  y.o  z.h",
		"${a:.c=.o}": "x.o y.o z.h", "${a:.c=)}": "x) y) z.h", "$(subst:.c=.o)": "",
	} {
		want(t, s, text, value)
	}
	wantError(t, s, "$(subst :.c=.o)", api.ErrRef)
}

func TestP1603EachFunctionIsKnown(t *testing.T) {
	x := &Expander{}
	for _, name := range refs.Funcs() {
		if x.known(name) == nil {
			t.Errorf("%s is not there", name)
		}
	}
	if got, all := len(functions()), len(refs.Funcs()); got != all {
		t.Errorf("%d functions, not %d", got, all)
	}
}

func TestP1603TooFewArguments(t *testing.T) {
	s := usual(t)
	for _, name := range refs.Funcs() {
		least, _ := refs.Bounds(name)
		for n := 0; n < least; n++ {
			args := make([]string, n)
			for i := range args {
				args[i] = "$(error seen)"
			}
			if n > 0 {
				wantError(t, s, "$("+name+" "+strings.Join(args, ",")+")", api.ErrRef)
				for i := range args {
					args[i] = "x"
				}
			}
			wantError(t, s, "$("+strings.Join(append([]string{"call " + name}, args...), ",")+")", api.ErrRef)
		}
		if least > 1 {
			wantError(t, s, "$("+name+" )", api.ErrRef)
			wantErrorWith(t, s, "$("+name+" a)", 0, api.ErrFuel)
		}
	}
}

func TestP1603MoreArguments(t *testing.T) {
	s := usual(t)
	for text, value := range map[string]string{
		"$(subst a,b,a,a)": "b,b", "$(patsubst %,x,a,b)": "x", "$(strip a,b ,c)": "a,b ,c", "$(findstring a,b,a)": "a", "$(sort b,a a)": "a b,a", "$(filter %,a,b c)": "a,b c", "$(filter-out a,a,b a)": "a,b", "$(word 1,a,b)": "a,b", "$(wordlist 1,1,a,b c)": "a,b", "$(words a,b,c)": "1", "$(firstword a,b c)": "a,b", "$(lastword c a,b)": "a,b", "$(dir a,b/c)": "a,b/", "$(notdir a,b/c)": "c", "$(suffix a.b,c)": ".b,c", "$(basename a.b,c)": "a", "$(addsuffix a,b,c)": "b,ca", "$(addprefix a,b,c)": "ab,c", "$(join a,b,c)": "ab,c", "$(abspath a,b)": "/a,b", "$(if a,b,c,d)": "b", "$(if ,b,c,d)": "c,d", "$(foreach i,1 2,$(i),x)": "1,x 2,x", "$(value a,b)": "", "$(info a,b)": "", "$(warning a,b)": "",
		"$(call subst,a,b,a,$(n),c)": "b", "$(call strip, a ,b)": "a", "$(call words,a b,c d)": "2", "$(call if,,a,b,c)": "b", "$(call foreach,i,1 2,x,y)": "x x", "$(call value,n,x,y)": "a", "$(call origin,n,x)": "file",
	} {
		want(t, s, text, value)
	}
	wantError(t, s, "$(error a,b)", api.ErrUser)
	wantError(t, s, "$(call words,a,$(error x))", api.ErrUser)
}

func TestP1603BlanksAtTheFirstOnesBeginning(t *testing.T) {
	s := usual(t)
	for _, b := range []string{" ", "  ", "\t", "\n", " \t\n "} {
		for text, value := range map[string]string{
			"$(subst%sa,b,a a)": "b b", "$(patsubst%s%%,x,a b)": "x x", "$(findstring%sa,a)": "a", "$(addsuffix%sx,a)": "ax", "$(addprefix%sx,a)": "xa", "$(value%sn)": "a", "$(origin%sn)": "file", "$(flavor%sn)": "recursive", "$(foreach%si,1 2,$(i))": "1 2", "$(call%sf,1,2)": "2-1", "$(word%s1,a)": "a", "$(if%sa,b)": "b", "$(or%sa)": "a", "$(and%sa)": "a", "$(words%sa)": "1", "$(subst%sa, b,a)": " b",
		} {
			want(t, s, fmt.Sprintf(text, b), value)
		}
	}
	// Blanks that come of a reference are no blanks of the argument.
	want(t, s, "$(subst $(sp),-,a b)", "a-b")
	want(t, s, "$(addprefix $(sp)x,a)", " xa")
	want(t, s, "<$(addsuffix $(sp),a b)>", "<a  b >")
	// Those of the others count.
	want(t, s, "$(subst a, b , a )", "  b  ")
	want(t, s, "$(if a, b )", " b ")
	want(t, s, "$(foreach i,1 2, $(i) )", " 1   2 ")
	want(t, s, "$(call f, a , b )", " b - a ")
	want(t, s, "$(call addprefix, x,a b)", "xa xb")
}

func TestP1603Texts(t *testing.T) {
	s := usual(t)
	for text, value := range map[string]string{
		"$(subst a,b,aca)": "bcb", "$(subst aa,b,aaa)": "ba", "$(subst ,x,ab)": "abx", "$(subst a,,aca)": "c", "$(subst a,b,)": "", "$(subst ,,)": "", "$(subst x, ,axb)": "a b", "$(subst $(comma),;,a,b)": "a;b", "$(subst .c,.o,$(a))": "x.o y.o", "$(subst a,b,  a  a )": "  b  b ",
		"$(patsubst %.c,%.o,a.c b.h)": "a.o b.h", "$(patsubst %.c,%.o, a.c   b.c )": "a.o b.o", "$(patsubst a,b,a ab a)": "b ab b", "$(patsubst %,x%y,)": "", "$(patsubst %.c,,a.c b.c)": " ", "$(patsubst ,x,a)": "a", "$(patsubst $(pct),%.o,$(a))": "x.o y.o", "$(patsubst a%b%,%,axb%)": "x", "$(patsubst %,%%,a)": "a%",
		"$(strip )": "", "$(strip  a  b )": "a b", "$(strip \ta\n\nb)": "a b", "$(strip $(a)  $(none) z)": "x.c y.c z",
		"$(findstring a,abc)": "a", "$(findstring x,abc)": "", "$(findstring ,abc)": "", "$(findstring bc,abc)": "bc", "$(findstring a b,x a b y)": "a b", "$(findstring a,)": "", "$(findstring abcd,abc)": "",
		"$(sort )": "", "$(sort b a b)": "a b", "$(sort  10 9 1 B a A)": "1 10 9 A B a", "$(sort a a a)": "a",
		"$(filter %.c,a.c b.h)": "a.c", "$(filter %.c %.h,a.c b.h d.c a.c)": "a.c b.h d.c a.c", "$(filter ,a b)": "", "$(filter %,)": "", "$(filter a,b a  a)": "a a", "$(filter $(pct),$(a) q)": "x.c y.c",
		"$(filter-out %.c,a.c b.h)": "b.h", "$(filter-out ,a  b)": "a b", "$(filter-out %,a b)": "", "$(filter-out a b,a c b c)": "c c",
	} {
		want(t, s, text, value)
	}
}

func TestP1603Words(t *testing.T) {
	s := usual(t)
	for text, value := range map[string]string{
		"$(word 1,a b c)": "a", "$(word 2,a b c)": "b", "$(word 3,a b c)": "c", "$(word 4,a b c)": "", "$(word 1,)": "", "$(word 999999999,a)": "", "$(word 002,a b)": "b", "$(word  2 ,a b)": "b", "$(word $(words a b),x y z)": "y", "$(word 1$(none),  a )": "a", "$(word \t1\n,a)": "a", "$(word 2,a\tb\nc)": "b",
		"$(wordlist 2,3,a b c d)": "b c", "$(wordlist 1,1,a b)": "a", "$(wordlist 1,9,a b)": "a b", "$(wordlist 2,1,a b)": "", "$(wordlist 1,0,a b)": "", "$(wordlist 3,4,a b)": "", "$(wordlist 2,2,a b)": "b", "$(wordlist 3,3,a b)": "", "$(wordlist 999999999,999999999,a)": "", "$(wordlist 1,999999999,  a   b )": "a b", "$(wordlist 01, 02 ,a b c)": "a b", "$(wordlist 1,2,)": "", "$(wordlist 3,2,a b c)": "",
		"$(words )": "0", "$(words a)": "1", "$(words  a b\tc\nd )": "4", "$(words $(none))": "0", "$(words $(a))": "2",
		"$(firstword )": "", "$(firstword a)": "a", "$(firstword  b a )": "b", "$(lastword )": "", "$(lastword a)": "a", "$(lastword b a )": "a", "$(lastword $(a))": "y.c",
	} {
		want(t, s, text, value)
	}
	for _, n := range []string{"0", "00", "000000000", "", " ", "x", "-1", "+1", "1 2", "1x", "1.", "0x1", "1234567890", "$(none)", "$(a)", "٣"} {
		wantError(t, s, "$(word "+n+",a b)", api.ErrNumber)
		wantError(t, s, "$(wordlist "+n+",2,a b)", api.ErrNumber)
		if strings.Trim(n, "0") != "" || n == "" {
			wantError(t, s, "$(wordlist 1,"+n+",a b)", api.ErrNumber)
		} else {
			want(t, s, "$(wordlist 1,"+n+",a b)", "")
		}
	}
	wantError(t, s, "$(word 0,$(error x))", api.ErrUser)
	wantError(t, s, "$(wordlist x,1,$(error x))", api.ErrUser)
}

func TestP1603Names(t *testing.T) {
	s := usual(t)
	for text, value := range map[string]string{
		"$(dir a/b c)": "a/ ./", "$(dir )": "", "$(dir /a  b/c/d /)": "/ b/c/ /", "$(dir a/)": "a/",
		"$(notdir a/b c/)": "b ", "$(notdir )": "", "$(notdir c/ d/ e)": "  e", "$(notdir /a b)": "a b",
		"$(suffix a.c b d/e.f)": ".c .f", "$(suffix a b c)": "", "$(suffix )": "", "$(suffix a.b/c x.)": ".", "$(suffix a.b.c .d)": ".c .d",
		"$(basename a.c b)": "a b", "$(basename )": "", "$(basename src/a.b.c .d x.y/z)": "src/a.b  x.y/z",
		"$(addsuffix .c,a b)": "a.c b.c", "$(addsuffix .c,)": "", "$(addsuffix ,a  b)": "a b", "$(addsuffix x y,a b)": "ax y bx y", "$(addprefix d/,a b)": "d/a d/b", "$(addprefix d/,)": "", "$(addprefix ,a  b)": "a b", "$(addprefix p ,a b)": "p a p b",
		"$(join a b,c d)": "ac bd", "$(join a b,c d e)": "ac bd e", "$(join a b c,d)": "ad b c", "$(join ,a b)": "a b", "$(join a b,)": "a b", "$(join ,)": "", "$(join  a  b , .c  .o )": "a.c b.o",
		"$(abspath a ../b)": "/a /b", "$(abspath )": "", "$(abspath / . .. a/)": "/ / / /a", "$(abspath ./a//b/../c)": "/a/c",
	} {
		want(t, s, text, value)
	}
}

func TestP1603Wildcard(t *testing.T) {
	s := usual(t)
	f := tree(t, "a.c", "b.c", "d/", "d/x.c", ".h", "e/", "e/x.c")
	for text, value := range map[string]string{
		"$(wildcard *.c)": "a.c b.c", "$(wildcard *.c q*)": "a.c b.c", "$(wildcard q*)": "", "$(wildcard a.c none)": "a.c", "$(wildcard )": "", "$(wildcard */x.c  *.c)": "d/x.c e/x.c a.c b.c", "$(wildcard *)": "a.c b.c d e", "$(wildcard ./a.c a.c)": "a.c a.c", "$(wildcard q* *.c q*)": "a.c b.c", "$(wildcard [ab].c)": "a.c b.c", "$(wildcard *.c,x)": "", "$(wildcard $(patsubst %,%.c,a z b))": "a.c b.c",
		"$(patsubst %.c,%.o,$(wildcard *.c))": "a.o b.o", "$(abspath d e/x)": "/d /e/x", "$(call wildcard,*.c,q)": "a.c b.c",
	} {
		if got, _, e := Expand(s, f, text, plenty); got != value || e != api.OK {
			t.Errorf("%q: %q, %d, not %q", text, got, int(e), value)
		}
	}
	for _, text := range []string{"$(wildcard *)", "$(wildcard )", "$(wildcard a)", "$(call wildcard,a)", "$(if $(wildcard a),b)", "a$(wildcard $(none))"} {
		wantError(t, s, text, api.ErrHost)
	}
	wantError(t, s, "$(wildcard $(error x))", api.ErrUser)
	want(t, s, "$(abspath a)$(if ,$(wildcard a))", "/a")
}

func TestP1603If(t *testing.T) {
	s := usual(t)
	for text, value := range map[string]string{
		"$(if a,b)": "b", "$(if a,b,c)": "b", "$(if ,b)": "", "$(if ,b,c)": "c", "$(if  ,b,c)": "c", "$(if $(none),b,c)": "c", "$(if $(e),b,c)": "c", "$(if $(sp),b,c)": "b", "$(if  $(none) ,b,c)": "c", "$(if a,,c)": "", "$(if ,b,)": "", "$(if a, b , c )": " b ", "$(if ,b, c )": " c ",
		"$(if a,b,$(error x))": "b", "$(if ,$(error x),c)": "c", "$(if a,b,$(r))": "b", "$(if ,${x,b)": "", "$(if $(if a,b),c,d)": "c", "$(if a,$$x)": "$x",
	} {
		want(t, s, text, value)
	}
	wantError(t, s, "$(if a,$(error x),c)", api.ErrUser)
	wantError(t, s, "$(if ,b,$(error x))", api.ErrUser)
	wantError(t, s, "$(if $(error x),b,c)", api.ErrUser)
	wantError(t, s, "$(if a)", api.ErrRef)
}

func TestP1603OrAnd(t *testing.T) {
	s := usual(t)
	for text, value := range map[string]string{
		"$(or )": "", "$(or a)": "a", "$(or a,b)": "a", "$(or ,b)": "b", "$(or ,,c,$(error x))": "c", "$(or , b , c)": "b", "$(or $(none),$(sp),c)": " ", "$(or  ,\t)": "", "$(or a,$(r))": "a", "$(or $(a),$(error x))": "x.c y.c", "$(or ,,,,,,,,,,,,z)": "z", "$(or a,${x)": "a",
		"$(and )": "", "$(and a)": "a", "$(and a,b)": "b", "$(and a,,$(error x))": "", "$(and ,$(error x))": "", "$(and a, b )": "b", "$(and a,$(none),c)": "", "$(and $(a),$(sp))": " ", "$(and a,b,c,d)": "d", "$(and a, )": "", "$(and a,b,)": "", "$(and ,${x)": "",
	} {
		want(t, s, text, value)
	}
	wantError(t, s, "$(or ,$(error x),a)", api.ErrUser)
	wantError(t, s, "$(and a,$(error x),)", api.ErrUser)
	wantError(t, s, "$(and a,b,$(error x))", api.ErrUser)
}

func TestP1603Foreach(t *testing.T) {
	s := usual(t)
	for text, value := range map[string]string{
		"$(foreach i,,x)": "", "$(foreach i, ,$(error x))": "", "$(foreach i,1,x)": "x", "$(foreach i,1 2,x)": "x x", "$(foreach i,1 2,)": " ", "$(foreach i, 1  2\t3 ,<$(i)>)": "<1> <2> <3>", "$(foreach i,$(a),$(i:.c=.o))": "x.o y.o", "$(foreach $(n),1 2,$(a))": "1 2", "$(a)$(foreach a,1 2,$(a))$(a)": "x.c y.c1 2x.c y.c", "$(foreach i,1 2,$(foreach j,a b,$(i)$(j)))": "1a 1b 2a 2b", "$(foreach i,1 2,$(foreach i,a b,$(i))$(i))": "a b1 a b2", "$(foreach i,1,$(i))$(i)": "1",
		"$(foreach i,a b,$(origin i)/$(flavor i)/$(value i))": "automatic/simple/a automatic/simple/b", "$(foreach i,$$x $$(a),$(i))": "$x $(a)", "$(foreach i,$$(a),$(value i)$(call i))": "$(a)$(a)", "$(foreach b,1 2,$(b)$(origin b))$(flavor b)": "1automatic 2automaticrecursive", "$(foreach n,a b,$($(n)))": "x.c y.c x.c y.c ", "$(foreach i ,1,$(i)$(i ))": "1", "$(foreach i j,1 2,$(i j))": "1 2", "$(foreach @,p/q,$(@D)$@)$(@D)": "pp/qdir .", "$(foreach i,1 2, a )": " a   a ", "$(foreach i,1 2,$(sp))": "   ",
		"$(foreach i,1 2,$(call f,$(i),x))": "x-1 x-2", "$(foreach 1,x y,$(1)$(call f,p,q)$(1))": "xq-px yq-py", "$(foreach i,1 2,$(if $(filter 1,$(i)),one,$(i)))": "one 2", "$(foreach r,1 2,$(r))": "1 2", "$(foreach c,z,$(b))": "x.c y.c z",
	} {
		want(t, s, text, value)
	}
	wantError(t, s, "$(foreach i,1 2)", api.ErrRef)
	wantError(t, s, "$(foreach i,1 2,$(r))", api.ErrSelf)
	wantError(t, s, "$(foreach i,$(error x),a)", api.ErrUser)
	wantError(t, s, "$(foreach r,1,$(r))$(r)", api.ErrSelf)
}

func TestP1603ForeachOfAnyVariable(t *testing.T) {
	for origin := -1; origin < 10; origin++ {
		for flav := range 4 {
			s := holding(t, api.Var{Name: "v", Value: "old", Flav: flav, Origin: origin, Export: 1})
			want(t, s, "$(v)$(foreach v,1 2,$(v)$(origin v)$(flavor v))$(v)", "old1automaticsimple 2automaticsimpleold")
			want(t, s, "$(call value,v)$(foreach v,$(v),$(v))", "oldold")
		}
	}
	// A store that has no room for one more lends a name all the same.
	full := vars.New()
	for i := range api.MaxVars {
		full.Set(fmt.Sprint("v", i), "x", api.FlavSimple, api.OrigFile)
	}
	full.Set("v1", "$(1)$(2)$(9)", api.FlavRecursive, api.OrigFile)
	want(t, full, "$(foreach i,1 2,$(i)$(v0))$(call v1,a,b)$(i)$(1)", "1x 2xab")
}

func TestP1603Call(t *testing.T) {
	s := usual(t)
	for text, value := range map[string]string{
		"$(call f,p,q)": "q-p", "$(call f,p)": "-p", "$(call f)": "-", "$(call f,,q)": "q-", "$(call  f ,p,q)": "q-p", "$(call $(none)f$(sp),p,q)": "q-p", "$(call a)": "x.c y.c", "$(call a,b)": "x.c y.c", "$(call s)": "$(a)", "$(call b)": "x.c y.c ", "$(call none,a)": "", "$(call )": "", "$(call ,a)": "", "$(call d)": "$x", "$(call e,1)": "",
		"$(call all)": "all||||||||||ten|", "$(call all,a,b,c,d,e,f,g,h,i)": "all|a|b|c|d|e|f|g|h|i|ten|", "$(call all,a,b,c,d,e,f,g,h,i,j,k,l)": "all|a|b|c|d|e|f|g|h|i|j|k", "$(call all,a,b,c,d,e,f,g,h,i,j)": "all|a|b|c|d|e|f|g|h|i|j|", "$(call  all )": "all||||||||||ten|", "$(1)$(call f,2)$(1)": "one-2one", "$(call f,$(call f,1,2),3)": "3-2-1",
		"$(call f,$$(a),$$x)": "$x-$(a)", "$(call f,$(comma),$(comma))": ",-,", "$(call 1,x)": "x", "$(call 0)": "0", "$(call 2,x)": "", "$(call 10)": "ten", "$(call 3,a,b,$$(c))": "$(c)", "$(call a:.c=.o)": "",
		"$(call subst,a,b,aca)": "bcb", "$(call $(n)$(none)bspath,x)": "/x", "$(call  words ,a b)": "2", "$(call sort,b a)": "a b", "$(call value,b)": "$(a) $(c)", "$(call origin,1)": "file", "$(call call,f,1,2)": "2-1", "$(call call,call,f,1,2)": "2-1", "$(call call,value,b)": "$(a) $(c)", "$(call info,a)$(call warning,b)": "", "$(call word,2,a b)": "b",
		"$(call if,,a,$$(b))": "$(b)", "$(call if,a,$$(b))": "$(b)", "$(call if, ,a,b)": "b", "$(call if,,a)": "", "$(call if,$$(none),a,b)": "a", "$(call or,,$$(a),b)": "$(a)", "$(call or, , b )": "b", "$(call or,,)": "", "$(call and,a,$$(b))": "$(b)", "$(call and,a,,c)": "", "$(call and, a )": "a", "$(call foreach,i,1 2,$$(i))": "$(i) $(i)", "$(call foreach,i,,x)": "", "$(call foreach,$$(n),$$(a) b,c)": "c c",
	} {
		want(t, s, text, value)
	}
	for text, e := range map[string]api.Errno{
		"$(call f,$(error x))": api.ErrUser, "$(call if,a,b,$(error x))": api.ErrUser, "$(call or,a,$(r))": api.ErrSelf, "$(call error,x)": api.ErrUser, "$(call shell,x)": api.ErrHost, "$(call eval,x)": api.ErrHost, "$(call subst,a)": api.ErrRef, "$(call if)": api.ErrRef, "$(call if,a)": api.ErrRef, "$(call call)": api.ErrRef, "$(call or)": api.ErrRef, "$(call foreach,i,1)": api.ErrRef, "$(call word,0,a)": api.ErrNumber, "$(call wrong)": api.ErrRef, "$(call $(error x),$(r))": api.ErrUser, "$(call call,call,call)": api.ErrRef,
	} {
		wantError(t, s, text, e)
	}
}

func TestP1603CallWithinItself(t *testing.T) {
	s := holding(t,
		recursive("rec", "$(if $(1),<$(call rec,$(2),$(3))>,end)"), recursive("down", "$(1)$(if $(word 2,$(1)), $(call down,$(wordlist 2,99,$(1))))"), recursive("map", "$(foreach x,$(2),$(call $(1),$(x)))"), recursive("wrap", "[$(1)]"),
		recursive("x", "$(call g)"), recursive("g", "$(x)"), recursive("h", "$(if $(1),done,$(call h,1))"), recursive("twice", "$(call $(1),$(call $(1),$(2)))"), recursive("outer", "$(1)$(call inner)$(1)$(10)"), recursive("inner", "($(1)$(10))"), recursive("self", "$(self)"), recursive("i", "$(call $(0)1)"), recursive("i1", "$(0)"))
	for text, value := range map[string]string{
		"$(call rec)": "end", "$(call rec,a)": "<end>", "$(call rec,a,b)": "<<end>>", "$(call rec,a,b,c)": "<<<end>>>", "$(call down,1 2 3)": "1 2 3 2 3 3", "$(call map,wrap,a b)": "[a] [b]", "$(call map,dir,a/b c)": "a/ ./", "$(call twice,wrap,z)": "[[z]]", "$(h)": "done", "$(call h)": "done",
		"$(call outer,a,b,c,d,e,f,g,h,i,j)": "a(j)aj", "$(call i)": "i1", "$(i)": "",
	} {
		want(t, s, text, value)
	}
	// A call does not count as expanding its variable; what is expanded already does.
	wantError(t, s, "$(x)", api.ErrSelf)
	wantError(t, s, "$(call x)", api.ErrSelf)
	wantError(t, s, "$(g)", api.ErrSelf)
	wantError(t, s, "$(call self)", api.ErrSelf)
	wantError(t, s, "$(self)", api.ErrSelf)
}

func TestP1603ValueOriginFlavor(t *testing.T) {
	names := []string{"undefined", "default", "environment", "file", "environment override", "command line", "override", "automatic"}
	for origin, name := range names {
		for flav, flavour := range []string{"undefined", "recursive", "simple"} {
			s := holding(t, api.Var{Name: "v", Value: "$(x) $$", Flav: flav, Origin: origin})
			want(t, s, "$(origin v)", name)
			want(t, s, "$(flavor v)", flavour)
			want(t, s, "$(value v)", "$(x) $$")
			want(t, s, "$(call origin,v) $(call flavor,v) $(call value,v)", name+" "+flavour+" $(x) $$")
			want(t, s, "$(origin w) $(flavor w)<$(value w)>", "undefined undefined<>")
			want(t, s, "$(origin v ) $(flavor v )<$(value v )>", "undefined undefined<>")
			want(t, s, "$(origin )$(flavor )<$(value )>", "undefinedundefined<>")
		}
	}
	for _, n := range []int{-1, 8, 100, math.MinInt, math.MaxInt} {
		s := holding(t, api.Var{Name: "v", Value: "x", Flav: n, Origin: n})
		want(t, s, "$(origin v) $(flavor v) $(value v)", "undefined undefined x")
	}
	s := usual(t)
	want(t, s, "$(value b)", "$(a) $(c)")
	want(t, s, "$(value $(n))", "x.c y.c")
	want(t, s, "$(value r)$(value wrong)", "$(r)$(x")
	want(t, s, "$(value a:.c=.o)$(origin a:.c=.o)", "undefined")
	want(t, s, "$(value @D)$(origin @D)$(flavor @D)", "undefinedundefined")
}

func TestP1603WhatWantsAHost(t *testing.T) {
	s, f := usual(t), tree(t, "a.c")
	for text, wanted := range map[string]api.Errno{
		"$(error )": api.ErrUser, "$(error a b)": api.ErrUser, "$(error $(a))": api.ErrUser, "$(error $(shell a))": api.ErrHost, "$(shell )": api.ErrHost, "$(shell echo a)": api.ErrHost, "$(shell $(error a))": api.ErrUser, "$(eval )": api.ErrHost, "$(eval a = 1)": api.ErrHost, "$(eval $(r))": api.ErrSelf, "$(if $(shell a),b)": api.ErrHost, "$(info $(error x))": api.ErrUser, "$(warning $(eval x))": api.ErrHost,
	} {
		wantError(t, s, text, wanted)
		if got, left, e := Expand(s, f, text, plenty); got != "" || left != 0 || e != wanted {
			t.Errorf("%q with a file system: %q, %d, %d", text, got, left, int(e))
		}
	}
	want(t, s, "$(warning a)$(info b)c$(info )$(warning $(a),b)", "c")
	want(t, s, "$(if ,$(error a)$(shell b)$(eval c),d)", "d")
}

// texts are what all kinds of parts do, errors among them.
func texts() []string {
	return []string{
		"", "a", "$(a)", "$(b)", "$(r)", "$(a:.c=.o)", "$(x", "$(foreach a,1 2,$(a))", "$(foreach i,1 2,$(call f,$(i),$(error x)))", "$(foreach i,1 2,$(if $(filter 2,$(i)),$(r)))", "$(foreach new,1 2,$(new)$(call f,$(new)))", "$(call f,a,b)", "$(call all,a,b,c,d,e,f,g,h,i,j,k)", "$(call r)", "$(call f,$(call all,1,2,3,4,5,6,7,8,9,10,11,12))", "$(foreach @,p/q,$(@D)$(error x))", "$(foreach i,1,$(shell x))", "$(foreach i,1,$(eval x))", "$(wildcard *)", "$(foreach i,*.c *,$(wildcard $(i)))", "$(foreach sp,1 2,$(foreach sp,3 4,$(foreach sp,5 6,$(sp)$(word 0,x))))", "$(call rec,1,2,3)", "$(foreach ,1 2,$())", "$(foreach 1,1 2,$(call f,$(1)$(call f,$(1))))",
	}
}

func TestP1604TheStoreAndTheFilesAreAsTheyWere(t *testing.T) {
	for _, text := range texts() {
		for _, fuel := range []int{0, 1, 2, 3, 4, 5, 6, 7, 8, 9, 10, 11, 12, 15, 20, 30, plenty} {
			s, f := usual(t), tree(t, "a.c", "b.c", "d/")
			s.Export("a", 1)
			s.Export("i", 2)
			vars, files := s.List(), f.Tree()
			Expand(s, f, text, fuel)
			if !slices.Equal(s.List(), vars) || !reflect.DeepEqual(f.Tree(), files) {
				t.Errorf("%q with %d has changed something", text, fuel)
			}
		}
	}
}

func TestP1604AnswersHangOnTheArguments(t *testing.T) {
	type answer struct {
		text string
		left int
		e    api.Errno
	}
	s, f := usual(t), tree(t, "a.c", "b.c", "d/")
	first := map[string]answer{}
	for _, text := range texts() {
		got, left, e := Expand(usual(t), tree(t, "a.c", "b.c", "d/"), text, 50)
		first[text] = answer{got, left, e}
	}
	for range 3 {
		for text, wanted := range first {
			got, left, e := Expand(s, f, text, 50)
			if (answer{got, left, e}) != wanted {
				t.Errorf("%q: %q, %d, %d, not %+v", text, got, left, int(e), wanted)
			}
		}
	}
	// One store, asked from several sides at once, is not changed even for a while.
	var all sync.WaitGroup
	for range 8 {
		all.Add(1)
		go func() {
			defer all.Done()
			for range 20 {
				for text, wanted := range first {
					got, left, e := Expand(s, f, text, 50)
					if (answer{got, left, e}) != wanted {
						t.Errorf("%q, with others: %q, %d, %d, not %+v", text, got, left, int(e), wanted)
					}
				}
			}
		}()
	}
	all.Wait()
}

func TestWhatIsHandedInIsNotKept(t *testing.T) {
	for _, text := range []string{"plain", "$(none)plain", "$(if a,plain)", "$(foreach plain,plain,$(plain))", "$(call plain,plain)plain", "$(or plain)", "$(value plain)plain", "$(strip plain)"} {
		s := vars.New()
		bytes := []byte(text)
		got, _, e := Expand(s, nil, unsafe.String(&bytes[0], len(bytes)), plenty)
		for i := range bytes {
			bytes[i] = '#'
		}
		if got != "plain" || e != api.OK || len(s.List()) != 0 {
			t.Errorf("%q, written over: %q, %d, %v", text, got, int(e), s.List())
		}
	}
}

func TestNoStore(t *testing.T) {
	want(t, nil, "$(a)$(foreach i,1 2,$(i))$(call f,a)$(origin a)$(@D)", "1 2undefined")
	wantError(t, nil, "$(error a)", api.ErrUser)
	want(t, &vars.Store{}, "$(a)$(foreach i,1 2,$(i))$(call f,a)$(origin a)$(@D)", "1 2undefined")
}

func TestErrorsAreWrapped(t *testing.T) {
	x := New(usual(t), nil, plenty, nobody{})
	_, err := x.Text("a$(strip $(if b,$(r)))")
	if number(err) != api.ErrSelf || err.Error() != "strip: if: r: r: anvil" {
		t.Errorf("an error within parts: %v", err)
	}
	x.Fuel = 2
	if _, err = x.Text("$(strip $(if b,$(r)))"); err != api.ErrFuel {
		t.Errorf("out of fuel: %v", err)
	}
}

func TestGreatInputs(t *testing.T) {
	s := usual(t)
	want(t, s, "$(words "+strings.Repeat("a ", 32000)+")", "32000")
	var args []string
	for i := range 3000 {
		args = append(args, strconv.Itoa(i))
	}
	s.Set("far", "$(2999)", api.FlavRecursive, api.OrigFile)
	want(t, s, "$(call far,"+strings.Join(args, ",")+")", "2998")
	want(t, s, strings.Repeat("$(if ,x)", 50000), "")
	if got, left, e := Expand(s, nil, strings.Repeat("$(foreach i,1 2 3 4,", 8)+"$(none)"+strings.Repeat(")", 8), 200000); e != api.OK || left != 200000-(65536+(4*4*4*4*4*4*4*4-1)/3) {
		t.Errorf("lists within lists: %d bytes, %d, %d", len(got), left, int(e))
	}
}
