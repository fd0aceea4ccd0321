package ar

import (
	"bytes"
	"errors"
	"fmt"
	"math"
	"math/rand"
	"regexp"
	"slices"
	"strconv"
	"strings"
	"testing"
	"unsafe"

	"anvil/api"
)

const greatest = 999999999999

// of makes a member of a name, a date and data.
func of(name string, date int, data string) api.Member {
	return api.Member{Name: name, Date: date, Data: []byte(data)}
}

// told writes members out, so that nil and empty lists are the same.
func told(l []api.Member) string {
	var b strings.Builder
	for _, m := range l {
		fmt.Fprintf(&b, "%q %d %q | ", m.Name, m.Date, m.Data)
	}
	return b.String()
}

// plainHead is a head as the form tells it.
func plainHead(name, date, owner, group, mode string, size int) string {
	return filled(name, 16) + filled(date, 12) + filled(owner, 6) + filled(group, 6) + filled(mode, 8) + filled(strconv.Itoa(size), 10) + "`\n"
}

// filled counts bytes, where fmt would count runes.
func filled(s string, width int) string { return s + strings.Repeat(" ", max(0, width-len(s))) }

func plainData(data string) string {
	if len(data)%2 == 1 {
		return data + "\n"
	}
	return data
}

// plainMember is a member under the name as it stands in the head.
func plainMember(column string, date int, data string) string {
	return plainHead(column, strconv.Itoa(date), "0", "0", "100644", len(data)) + plainData(data)
}

func plainTable(data string) string {
	return plainHead("//", "", "", "", "", len(data)) + plainData(data)
}

// plainWrite is a second telling of the form, of members with which nothing is wrong.
func plainWrite(l []api.Member) string {
	table, members := "", ""
	for _, m := range l {
		column := m.Name + "/"
		if len(m.Name) > 15 {
			column = "/" + strconv.Itoa(len(table))
			table += m.Name + "/\n"
		}
		members += plainMember(column, m.Date, string(m.Data))
	}
	if table != "" {
		table = plainTable(table)
	}
	return "!<arch>\n" + table + members
}

const (
	digits = `(0|[1-9][0-9]*) *`
	edge   = 256 // no byte: it stands where the second and the third column begin
)

// The patterns of a head: of a member with a short name, of one with a long name, of the name table.
var (
	shortHead = regexp.MustCompile(`^([^/\x00\n]{1,15})/ *Ā` + digits + `Ā0     0     100644  ` + digits + "`\n$")
	longHead  = regexp.MustCompile(`^/` + digits + `Ā` + digits + `Ā0     0     100644  ` + digits + "`\n$")
	tableHead = regexp.MustCompile(`^// {14}Ā {12}Ā {20}` + digits + "`\n$")
)

// headLine is a head with the edges of its first two columns, each byte a rune, so that a pattern counts bytes; empty, if there is none.
func headLine(s string) string {
	if len(s) < 60 {
		return ""
	}
	var b strings.Builder
	for i := range 60 {
		if i == 16 || i == 28 {
			b.WriteRune(edge)
		}
		b.WriteRune(rune(s[i]))
	}
	return b.String()
}

func narrow(s string) string {
	var b []byte
	for _, r := range s {
		b = append(b, byte(r))
	}
	return string(b)
}

func plainNumber(s string) int {
	n, _ := strconv.Atoi(s)
	return n
}

// takeData tells the data ahead and what stands behind.
func takeData(s string, size int) (data, rest string, ok bool) {
	whole := size + size%2
	if len(s) < whole || size < whole && s[size] != '\n' {
		return "", "", false
	}
	return s[:size], s[whole:], true
}

// plainParse is a second reading that refuses at once what the form has not.
func plainParse(s string) ([]api.Member, bool) {
	rest, ok := strings.CutPrefix(s, "!<arch>\n")
	var l []api.Member
	table, place := "", 0
	if m := tableHead.FindStringSubmatch(headLine(rest)); ok && m != nil {
		if table, rest, ok = takeData(rest[60:], plainNumber(m[1])); table == "" {
			return nil, false
		}
	}
	for ok && rest != "" {
		line, name := headLine(rest), ""
		m := shortHead.FindStringSubmatch(line)
		if m != nil {
			name = narrow(m[1])
		} else if m = longHead.FindStringSubmatch(line); m == nil || m[1] != strconv.Itoa(place) {
			return nil, false
		} else if name, _, ok = strings.Cut(table[place:], "/\n"); !ok || len(name) < 16 || len(name) > 255 || strings.ContainsAny(name, "/\x00\n") {
			return nil, false
		} else {
			place += len(name) + 2
		}
		var data string
		if data, rest, ok = takeData(rest[60:], plainNumber(m[3])); ok {
			l = append(l, of(name, plainNumber(m[2]), data))
		}
	}
	return l, ok && place == len(table)
}

// writes asks that the members are written as the second telling has it, and read again from there.
func writes(t *testing.T, l ...api.Member) []byte {
	t.Helper()
	before := told(l)
	b, e := Write(l)
	if want := plainWrite(l); e != api.OK || string(b) != want {
		t.Fatalf("Write: %.300q, %d, not %.300q", b, e, want)
	}
	got, e := Parse(b)
	if e != api.OK || told(got) != before {
		t.Fatalf("Parse of %.300q: %.300s, %d, not %.300s", b, told(got), e, before)
	}
	if told(l) != before {
		t.Fatalf("the members are %s now, not %s", told(l), before)
	}
	return b
}

// refuses asks that Write tells that error, and nothing beside it.
func refuses(t *testing.T, want api.Errno, l ...api.Member) {
	t.Helper()
	if b, e := Write(l); e != want || len(b) != 0 {
		t.Errorf("Write of %.200s: %d bytes, %d, not %d", told(l), len(b), e, want)
	}
}

// noArchive asks that the bytes are none.
func noArchive(t *testing.T, s string) {
	t.Helper()
	if l, e := Parse([]byte(s)); e != api.ErrArch || len(l) != 0 {
		t.Errorf("Parse of %.300q: %.200s, %d", s, told(l), e)
	}
}

// asThePlain asks that the bytes are read as the second reading has it, and, if they are an archive, written just so again; it tells whether they are.
func asThePlain(t *testing.T, s string) bool {
	t.Helper()
	want, ok := plainParse(s)
	if !ok {
		noArchive(t, s)
		return false
	}
	got, e := Parse([]byte(s))
	if e != api.OK || told(got) != told(want) {
		t.Errorf("Parse of %.300q: %.200s, %d, not %.200s", s, told(got), e, told(want))
	}
	if b, e := Write(got); e != api.OK || string(b) != s {
		t.Errorf("Write of what was parsed: %.300q, %d, not %.300q", b, e, s)
	}
	return true
}

func TestP701TheForm(t *testing.T) {
	long := strings.Repeat("n", 16)
	for _, x := range []struct {
		l    []api.Member
		want string
	}{
		{nil, "!<arch>\n"},
		{[]api.Member{}, "!<arch>\n"},
		{[]api.Member{of("x.o", 5, "ab")}, "!<arch>\nx.o/            5           0     0     100644  2         `\nab"},
		{[]api.Member{of("x.o", 5, "abc")}, "!<arch>\nx.o/            5           0     0     100644  3         `\nabc\n"},
		{[]api.Member{of("x", 0, "")}, "!<arch>\nx/              0           0     0     100644  0         `\n"},
		{[]api.Member{of("x", greatest, "\n"), of("y", 1, "")}, "!<arch>\n" +
			"x/              9999999999990     0     100644  1         `\n\n\n" +
			"y/              1           0     0     100644  0         `\n"},
		{[]api.Member{of(long, 7, "q")}, "!<arch>\n" +
			"//                                              18        `\nnnnnnnnnnnnnnnnn/\n" +
			"/0              7           0     0     100644  1         `\nq\n"},
		{[]api.Member{of("a", 1, ""), of(long+"o", 2, "q!"), of("b", 3, "z"), of(long, 4, "")}, "!<arch>\n" +
			"//                                              37        `\nnnnnnnnnnnnnnnnno/\nnnnnnnnnnnnnnnnn/\n\n" +
			"a/              1           0     0     100644  0         `\n" +
			"/0              2           0     0     100644  2         `\nq!" +
			"b/              3           0     0     100644  1         `\nz\n" +
			"/19             4           0     0     100644  0         `\n"},
	} {
		if b, e := Write(x.l); e != api.OK || string(b) != x.want {
			t.Errorf("Write of %s: %q, %d, not %q", told(x.l), b, e, x.want)
		}
		writes(t, x.l...)
	}
	if b, _ := Write([]api.Member{of("x.o", 5, "ab")}); len(b) != 8+60+2 {
		t.Errorf("the chapter's example: %d bytes", len(b))
	}
}

func TestP701LengthsOfNames(t *testing.T) {
	for n := 1; n <= api.MaxName; n++ {
		name := strings.Repeat("n", n)
		b := writes(t, of(name, 1, "d"))
		if tabled := bytes.HasPrefix(b[8:], []byte("//")); tabled != (n >= 16) {
			t.Errorf("a name of %d bytes: %q", n, b)
		}
		writes(t, of("a", 1, ""), of(name, 2, ""), of(name, 3, "d"))
	}
	for _, n := range []int{api.MaxName + 1, api.MaxName + 2, 1000, 60000} {
		refuses(t, api.ErrArg, of(strings.Repeat("n", n), 1, "d"))
	}
}

func TestP701SeveralLongNames(t *testing.T) {
	a, b, c := strings.Repeat("a", 16), strings.Repeat("b", 200), strings.Repeat("c", api.MaxName)
	writes(t, of(a, 1, ""), of(b, 2, "x"), of(c, 3, "yy"))
	writes(t, of(c, 1, ""), of("s", 4, "short"), of(b, 2, "x"), of(strings.Repeat("t", 15), 5, "z"), of(a, 3, "yy"))
	// One is the beginning, or the end, of the other.
	writes(t, of(a, 1, ""), of(a+"a", 2, ""), of("x"+a, 3, ""), of(a, 4, ""))
	// The same one twice stands twice in the table.
	two := writes(t, of(a, 1, "x"), of("s", 0, ""), of(a, 1, "x"))
	if n := bytes.Count(two, []byte(a+"/\n")); n != 2 || !bytes.Contains(two, []byte("\n/0  ")) || !bytes.Contains(two, []byte("/18  ")) {
		t.Errorf("the same long name twice: %q", two)
	}
	var many []api.Member
	for i := range 150 {
		many = append(many, of(fmt.Sprintf("%s%03d", b, i*7%150), i, ""))
	}
	writes(t, many...)
}

func TestP701BytesOfNames(t *testing.T) {
	for c := range 256 {
		one := string([]byte{byte(c)})
		for _, name := range []string{one, one + "b", "a" + one, "a" + one + "b", strings.Repeat("n", 14) + one, strings.Repeat("n", 15) + one, one + strings.Repeat("n", 100), strings.Repeat("n", 254) + one} {
			if strings.Contains("/\x00\n", one) {
				refuses(t, api.ErrArg, of(name, 1, "d"))
				refuses(t, api.ErrArg, of("good", 1, "d"), of(name, 1, "d"))
			} else {
				writes(t, of(name, 1, "d"), of("x", 2, "e"))
			}
		}
	}
	for _, name := range []string{"", "/", "//", "/0", "a/", "a/\n", "\n", "\x00", "a\x00", " /", strings.Repeat("n", 20) + "/\n" + strings.Repeat("m", 20)} {
		refuses(t, api.ErrArg, of(name, 1, "d"))
		refuses(t, api.ErrArg, of("a", 1, ""), of(name, 1, ""), of("b", 1, ""))
		refuses(t, api.ErrArg, of("a", 1, ""), of("b", 1, ""), of(name, 1, ""))
	}
	for _, name := range []string{" ", "   ", " a ", "a ", ".", "..", "`", "\\", "0", "-1", "\xff\xfe", "é", strings.Repeat(" ", 15), strings.Repeat(" ", 16), strings.Repeat(" ", 255)} {
		writes(t, of(name, 1, "d"), of(name, 2, ""))
	}
}

func TestP701Dates(t *testing.T) {
	for _, d := range []int{0, 1, 9, 10, 99999999999, greatest - 1, greatest} {
		writes(t, of("a", d, "d"))
		writes(t, of("a", 1, ""), of(strings.Repeat("n", 16), d, "d"), of("b", 1, ""))
	}
	for _, d := range []int{-1, -2, -greatest, greatest + 1, greatest + 2, math.MinInt, math.MaxInt} {
		refuses(t, api.ErrArg, of("a", d, "d"))
		refuses(t, api.ErrArg, of("a", 1, ""), of(strings.Repeat("n", 16), d, "d"), of("b", 1, ""))
		refuses(t, api.ErrArg, of("a", 1, ""), of("b", d, ""))
	}
}

func TestP701Data(t *testing.T) {
	for n := range 300 {
		b := writes(t, api.Member{Name: "a", Data: make([]byte, n)}, of("b", 0, "\n"))
		if want := 8 + 60 + n + n%2 + 60 + 2; len(b) != want {
			t.Errorf("data of %d bytes: %d in all, not %d", n, len(b), want)
		}
	}
	for _, d := range []string{"", "\n", "\n\n", "\n\n\n", "`\n", "!<arch>\n", "!<arch>", plainWrite([]api.Member{of("in", 1, "x")}), plainTable("names/\n"), "\x00", "\xff\xfe\xfd", strings.Repeat(" ", 60)} {
		writes(t, of("a", 1, d))
		writes(t, of("a", 1, d), of(strings.Repeat("n", 16), 1, d), of("b", 1, d))
	}
}

func TestP701MaxText(t *testing.T) {
	long, longer := strings.Repeat("n", 16), strings.Repeat("n", 17)
	for _, x := range []struct {
		l    []api.Member // the last one is filled up
		head int          // bytes of all but its data
	}{
		{[]api.Member{of("a", 1, "")}, 68},
		{[]api.Member{of("a", 1, "x"), of("b", 2, "")}, 130},
		{[]api.Member{of(long, 1, "")}, 8 + 78 + 60},
		{[]api.Member{of(longer, 1, "")}, 8 + 80 + 60},
		{[]api.Member{of(longer, 1, "xyz"), of(long, 2, "")}, 8 + 60 + 38 + 64 + 60},
	} {
		for n := api.MaxText - x.head - 3; n <= api.MaxText-x.head+3; n++ {
			l := slices.Clone(x.l)
			l[len(l)-1].Data = bytes.Repeat([]byte{'x'}, n)
			if x.head+n+n%2 > api.MaxText {
				refuses(t, api.ErrLong, l...)
			} else if b := writes(t, l...); len(b) != x.head+n+n%2 {
				t.Errorf("%d bytes, not %d", len(b), x.head+n+n%2)
			}
		}
	}
	refuses(t, api.ErrLong, of("a", 1, strings.Repeat("d", api.MaxText+1)))
	refuses(t, api.ErrLong, of("a", 1, strings.Repeat("d", 40000)), of("b", 1, strings.Repeat("d", 40000)))
	refuses(t, api.ErrLong, slices.Repeat([]api.Member{of("a", 1, strings.Repeat("d", 1<<20))}, api.MaxWords)...)
}

func TestP701ManyMembers(t *testing.T) {
	// As many as there is room for, which is less than MaxWords.
	most := (api.MaxText - 8) / 60
	writes(t, slices.Repeat([]api.Member{of("a", 1, "")}, most)...)
	for _, n := range []int{most + 1, api.MaxWords - 1, api.MaxWords, api.MaxWords + 1, 3 * api.MaxWords} {
		refuses(t, api.ErrLong, slices.Repeat([]api.Member{of("a", 1, "")}, n)...)
		refuses(t, api.ErrLong, make([]api.Member, n)...)
	}
}

func TestP701WhichErrorComesFirst(t *testing.T) {
	full := strings.Repeat("d", api.MaxText)
	for _, m := range []api.Member{of("", 1, full), of("a/b", 1, full), of("a\nb", 1, full), of("a\x00", 1, full), of("a", -1, full), of("a", greatest+1, full), of(strings.Repeat("n", 256), 1, full), of(strings.Repeat("n", api.MaxText), 1, "")} {
		refuses(t, api.ErrLong, m)
		refuses(t, api.ErrLong, of("good", 1, ""), m)
		refuses(t, api.ErrLong, m, of("good", 1, ""))
	}
	refuses(t, api.ErrLong, of("", -1, ""), of("good", 1, full))
	refuses(t, api.ErrLong, of("good", 1, full), of("", -1, ""))
	// One that is wrong is counted as any: just MaxText bytes in all, then one more.
	for _, n := range []int{-1, 0, 1} {
		want := api.ErrArg
		if n > 0 {
			want = api.ErrLong
		}
		refuses(t, want, of("", 1, full[:api.MaxText-68+n]))
		refuses(t, want, of("/", 1, full[:api.MaxText-68+n]))
		refuses(t, want, of("a", greatest+1, full[:api.MaxText-68+n]))
		refuses(t, want, of("a", -1, full[:api.MaxText-68+n]))
		refuses(t, want, of(strings.Repeat("n", 256), 1, full[:api.MaxText-68-60-258+n]))
		refuses(t, want, of(strings.Repeat("/", 100), 1, full[:api.MaxText-68-60-102+n]))
	}
}

func TestP701FaultsAreWrapped(t *testing.T) {
	for i := range 3 {
		l := []api.Member{of("a", 1, ""), of("b", 1, ""), of("c", 1, "")}
		l[i].Name = ""
		_, err := written(l)
		var f *fault
		if !errors.Is(err, api.ErrArg) || errors.Is(err, api.ErrLong) || !errors.As(err, &f) || f.place != i || err.Error() != strconv.Itoa(i)+": anvil" {
			t.Errorf("the fault at %d: %v", i, err)
		}
	}
	_, err := parsed([]byte(plainWrite([]api.Member{of("a", 1, "")}) + "x"))
	var f *fault
	if !errors.Is(err, api.ErrArch) || !errors.As(err, &f) || f.place != 68 {
		t.Errorf("the fault behind a member: %v", err)
	}
}

// some is an archive with a table of an odd number of bytes, long and short names, odd, even and no data.
func some() []api.Member {
	return []api.Member{of("a.o", 5, "ab"), of(strings.Repeat("n", 16), 0, "odd"), of("b c", greatest, ""), of(strings.Repeat("m", 17), 10, "\n"), of(strings.Repeat("s", 15), 7, "x")}
}

func TestP702PlainArchives(t *testing.T) {
	for _, l := range [][]api.Member{nil, some(), some()[:1], some()[1:2], some()[3:]} {
		s := plainWrite(l)
		if got, e := Parse([]byte(s)); e != api.OK || told(got) != told(l) {
			t.Errorf("Parse of %q: %s, %d", s, told(got), e)
		}
		asThePlain(t, s)
	}
}

func TestP702TooLong(t *testing.T) {
	for _, n := range []int{api.MaxText + 1, api.MaxText + 2, 1 << 20} {
		for _, s := range []string{"", "!<arch>\n", plainWrite(some())} {
			b := append([]byte(s), make([]byte, n-len(s))...)
			if l, e := Parse(b); e != api.ErrLong || len(l) != 0 {
				t.Errorf("Parse of %d bytes: %s, %d", n, told(l), e)
			}
		}
		if l, e := Parse([]byte(plainWrite([]api.Member{of("a", 1, strings.Repeat("d", n-68))}))); e != api.ErrLong || len(l) != 0 {
			t.Errorf("Parse of an archive of %d bytes: %s, %d", n, told(l), e)
		}
	}
	noArchive(t, strings.Repeat("\x00", api.MaxText))
	full := plainWrite([]api.Member{of("a", 1, strings.Repeat("d", api.MaxText-68))})
	if l, e := Parse([]byte(full)); e != api.OK || len(l) != 1 || len(full) != api.MaxText {
		t.Errorf("Parse of just MaxText bytes: %d members, %d", len(l), e)
	}
}

func TestP702CutOffAndPutBehind(t *testing.T) {
	if l, e := Parse(nil); e != api.ErrArch || len(l) != 0 {
		t.Errorf("Parse of nil: %d", e)
	}
	whole := plainWrite(some())
	good := 0
	for n := range len(whole) {
		if asThePlain(t, whole[:n]) {
			good++
		}
		asThePlain(t, whole[n:])
	}
	// Of its beginnings two are archives: the magic alone, and all but the last member; others have not all that their table tells.
	if good != 2 {
		t.Errorf("%d beginnings are archives", good)
	}
	for c := range 256 {
		noArchive(t, whole+string([]byte{byte(c)}))
		noArchive(t, "!<arch>\n"+string([]byte{byte(c)}))
		noArchive(t, plainWrite(some()[:1])+string([]byte{byte(c)}))
		noArchive(t, string([]byte{byte(c)})+whole)
	}
	noArchive(t, whole+whole)
	noArchive(t, "!<arch>\n!<arch>\n")
	noArchive(t, whole+strings.Repeat(" ", 60))
}

func TestP702EachByteTurned(t *testing.T) {
	for _, l := range [][]api.Member{nil, some()[:1], some()[1:2], some()} {
		whole := plainWrite(l)
		good := 0
		for i := range len(whole) {
			for c := range 256 {
				b := []byte(whole)
				if b[i] == byte(c) {
					continue
				}
				b[i] = byte(c)
				if asThePlain(t, string(b)) {
					good++
				}
			}
		}
		if (good > 0) != (len(l) > 0) {
			t.Errorf("%d of the turned ones are archives", good)
		}
	}
}

func TestP702EachByteTakenAwayDoubledPutIn(t *testing.T) {
	whole := plainWrite(some())
	for i := range len(whole) {
		asThePlain(t, whole[:i]+whole[i+1:])
		asThePlain(t, whole[:i]+whole[i:i+1]+whole[i:])
		for _, c := range []string{" ", "/", "\n", "0", "1", "`", "\x00"} {
			asThePlain(t, whole[:i]+c+whole[i:])
			if i+1 < len(whole) { // the length stays
				asThePlain(t, whole[:i]+c+whole[i:len(whole)-1])
			}
		}
	}
}

func TestP702Numbers(t *testing.T) {
	with := func(date, size string) string {
		return "!<arch>\n" + filled("a/", 16) + filled(date, 12) + "0     0     100644  " + filled(size, 10) + "`\nab"
	}
	for _, d := range []string{"0", "1", "10", "123456789012", "999999999999", "99999999999"} {
		if l, e := Parse([]byte(with(d, "2"))); e != api.OK || len(l) != 1 || strconv.Itoa(l[0].Date) != d || string(l[0].Data) != "ab" {
			t.Errorf("the date %s: %s, %d", d, told(l), e)
		}
	}
	for _, d := range []string{"", "00", "01", "000000000001", "-0", "-1", "+1", " 1", "1 2", "1a", "a", "0x1", "1_0", "1.0", "1e3", "\t1", "1\t", "1\x00", "\xd9\xa1"} {
		noArchive(t, with(d, "2"))
		noArchive(t, with("1", d))
	}
	for _, n := range []string{"0", "1", "3", "4", "02", "2147483647", "4294967298", "9999999999", "-2"} {
		noArchive(t, with("1", n))
	}
	noArchive(t, "!<arch>\n"+plainHead("a/", "1", "0", "0", "100644", 3)+"abc")
	noArchive(t, "!<arch>\n"+plainHead("a/", "1", "0", "0", "100644", 3)+"abc ")
	noArchive(t, "!<arch>\n"+plainHead("a/", "1", "0", "0", "100644", 2)+"ab\n")
	for _, h := range []string{
		plainHead("a/", "1", "1", "0", "100644", 0), plainHead("a/", "1", "0", "1", "100644", 0), plainHead("a/", "1", "", "0", "100644", 0), plainHead("a/", "1", "0", "", "100644", 0), plainHead("a/", "1", "00", "0", "100644", 0),
		plainHead("a/", "1", "0", "0", "100600", 0), plainHead("a/", "1", "0", "0", "644", 0), plainHead("a/", "1", "0", "0", "0100644", 0), plainHead("a/", "1", "0", "0", "", 0), plainHead("a/", "1", "000000", "0", "100644", 0),
	} {
		noArchive(t, "!<arch>\n"+h)
	}
}

func TestP702ShortNames(t *testing.T) {
	for _, c := range []string{"", "/", "//", "///", "a", "a//", "/a/", "a/b/", "a/ x", "a\n/", "a\x00/", " a", "/0", "/1", "/-1", "/+0", "nnnnnnnnnnnnnnnn", "//a", "/ 0"} {
		noArchive(t, "!<arch>\n"+plainMember(c, 1, "ab"))
		noArchive(t, plainWrite(some()[:1])+plainMember(c, 1, "ab"))
	}
	for _, c := range []string{" /", "a /", "nnnnnnnnnnnnnnn/", "   /", "\xff/"} {
		if !asThePlain(t, "!<arch>\n"+plainMember(c, 1, "ab")) {
			t.Errorf("the name %q", c)
		}
	}
}

func TestP702NameTables(t *testing.T) {
	a, b := strings.Repeat("a", 16), strings.Repeat("b", 17)
	tableA, tableB, tableAB := plainTable(a+"/\n"), plainTable(b+"/\n"), plainTable(a+"/\n"+b+"/\n")
	short, first, second := plainMember("s/", 1, "x"), plainMember("/0", 2, "yy"), plainMember("/18", 3, "z")
	for _, s := range []string{tableA + first, tableA + short + first, tableA + first + short, tableB + first, tableAB + first + second, tableAB + short + first + short + second + short} {
		if !asThePlain(t, "!<arch>\n"+s) {
			t.Errorf("%q is an archive", s)
		}
	}
	for _, s := range []string{
		// Without need.
		tableA, tableA + short, plainTable(""), plainTable("") + short, plainTable("") + first, tableAB + first, tableAB + short,
		plainTable("s/\n") + short, plainTable("s/\n") + plainMember("/0", 1, "x"), plainTable(strings.Repeat("n", 15)+"/\n") + first,
		// In the wrong order, or the wrong place, or twice.
		tableAB + second + first, plainTable(b+"/\n"+a+"/\n") + first + second, plainTable(b+"/\n"+a+"/\n") + plainMember("/19", 3, "z") + first,
		first + tableA, short + tableA + first, first + second + tableAB, tableA + first + tableA, tableA + tableA + first, tableA + first + tableB + first, tableA + tableB + first, tableB + tableA + first, tableA + first + plainTable(""),
		// Two of one place, or one of one name.
		tableA + first + first, tableAB + first + first, tableAB + first + second + second, plainTable(a+"/\n"+a+"/\n") + first + first, plainTable(a+"/\n"+a+"/\n") + second + second,
		// A place that is no name's.
		tableA + plainMember("/1", 2, "yy"), tableA + plainMember("/15", 2, "yy"), tableA + plainMember("/16", 2, "yy"), tableA + plainMember("/17", 2, "yy"), tableA + plainMember("/18", 2, "yy"), tableA + plainMember("/19", 2, "yy"), tableA + plainMember("/999999999999999", 2, "yy"),
		tableAB + first + plainMember("/19", 3, "z"), tableAB + first + plainMember("/17", 3, "z"), tableAB + plainMember("/1", 2, "yy") + second,
		tableA + plainMember("/00", 2, "yy"), tableA + plainMember("/-0", 2, "yy"), tableA + plainMember("/+0", 2, "yy"), tableA + plainMember("/", 2, "yy"), tableA + plainMember("/0/", 2, "yy"), tableA + plainMember("/ 0", 2, "yy"), tableA + plainMember("/a", 2, "yy"),
		// Names that can't stand there.
		plainTable(a) + first, plainTable(a+"/") + first, plainTable(a+"\n") + first, plainTable(a+"/\n\n") + first, plainTable(a+"/\n"+b) + first, plainTable("/\n") + first, plainTable("\n"+a+"/\n") + first,
		plainTable(a+"/"+b+"/\n") + first, plainTable(a+"\n"+b+"/\n") + first, plainTable(a+"\x00"+b+"/\n") + first, plainTable(a+"//\n") + first, plainTable(strings.Repeat("n", 256)+"/\n") + first, plainTable(a+"/\n/\n"+b+"/\n") + first + plainMember("/20", 3, "z"),
		// A head that is a member's.
		plainMember("//", 0, a+"/\n") + first, plainHead("//", "0", "", "", "", 18) + a + "/\n" + first, plainHead("//", "", "0", "", "", 18) + a + "/\n" + first, plainHead("//", "", "", "0", "", 18) + a + "/\n" + first, plainHead("//", "", "", "", "100644", 18) + a + "/\n" + first,
		plainHead("///", "", "", "", "", 18) + a + "/\n" + first, plainHead("//", "", "", "", "", 17) + a + "/\n" + first, plainHead("//", "", "", "", "", 20) + a + "/\n" + first,
		plainHead("s/", "", "", "", "", 2) + "ab",
	} {
		if asThePlain(t, "!<arch>\n"+s) {
			t.Errorf("%q is none by the second reading either", s)
		}
		noArchive(t, "!<arch>\n"+s)
	}
	// As long as a name can be, and one more.
	for n := 250; n < 260; n++ {
		if ok := asThePlain(t, "!<arch>\n"+plainTable(strings.Repeat("n", n)+"/\n")+first); ok != (n <= 255) {
			t.Errorf("a name of %d bytes", n)
		}
	}
}

func TestP702ManyMembersOfOneLongName(t *testing.T) {
	// Each would have all of a great table as its name: that must end, and be refused.
	s := "!<arch>\n" + plainTable(strings.Repeat("n", 30000)+"/\n") + strings.Repeat(plainMember("/0", 1, ""), 500)
	noArchive(t, s)
}

// palette mixes members of what the form tells apart.
func palette(r *rand.Rand) api.Member {
	names := []string{"a", "b.o", " ", "n ", "`", strings.Repeat("s", 14), strings.Repeat("s", 15), strings.Repeat("l", 16), strings.Repeat("l", 17), strings.Repeat("l", 18), strings.Repeat("x", 255), "\xff", "0"}
	dates := []int{0, 1, 9, 10, 123456, greatest - 1, greatest}
	data := []string{"", "x", "xy", "\n", "/\n", "`\n", "!<arch>\n", strings.Repeat("d", 61)}
	return of(names[r.Intn(len(names))], dates[r.Intn(len(dates))], data[r.Intn(len(data))])
}

func TestP702WrittenAndParsedAgain(t *testing.T) {
	r := rand.New(rand.NewSource(7))
	for range 3000 {
		var l []api.Member
		for range r.Intn(7) {
			l = append(l, palette(r))
		}
		b := writes(t, l...)
		if !asThePlain(t, string(b)) {
			t.Fatalf("%s is written as %q", told(l), b)
		}
		// A few bytes turned, moved or taken away are read as the second reading has it.
		for range 5 {
			c := slices.Clone(b)
			i, j := r.Intn(len(c)), r.Intn(len(c))
			switch r.Intn(4) {
			case 0:
				c[i] = " /\n0129`a"[r.Intn(9)]
			case 1:
				c[i], c[j] = c[j], c[i]
			case 2:
				c = slices.Delete(c, min(i, j), max(i, j))
			case 3:
				c = slices.Concat(c[:i], c[j:])
			}
			asThePlain(t, string(c))
		}
	}
}

func TestP702PiecesInAnyOrder(t *testing.T) {
	a, b := strings.Repeat("a", 16), strings.Repeat("b", 17)
	pieces := []string{plainTable(a + "/\n"), plainTable(a + "/\n" + b + "/\n"), plainTable(b + "/\n" + a + "/\n"), plainMember("s/", 1, "x"), plainMember("/0", 2, "yy"), plainMember("/18", 3, "z"), plainMember("/19", 3, "z"), "\n"}
	texts, last, good := []string{""}, []string{""}, 0
	for range 4 {
		var next []string
		for _, s := range last {
			for _, p := range pieces {
				next = append(next, s+p)
			}
		}
		texts, last = append(texts, next...), next
	}
	for _, s := range texts {
		if asThePlain(t, "!<arch>\n"+s) {
			good++
		}
	}
	// Of s alone 0 to 4; a's table with 1, 2 or 3 members (1, 2, 3 ways); the other two with 2 or 3 (1 and 3 ways each).
	if good != 5+6+4+4 {
		t.Errorf("%d are archives", good)
	}
}

func TestP703Find(t *testing.T) {
	l := []api.Member{of("a", 1, ""), of("b", 2, ""), of("a", 3, ""), of("", 4, ""), of("/", 5, ""), of(strings.Repeat("n", 300), 6, ""), of("b", 7, "")}
	for name, want := range map[string]int{"a": 0, "b": 1, "": 3, "/": 4, strings.Repeat("n", 300): 5, "c": -1, "A": -1, "a/": -1, "a ": -1, strings.Repeat("n", 299): -1, "\x00": -1} {
		if got := Find(l, name); got != want {
			t.Errorf("Find %.20q: %d, not %d", name, got, want)
		}
	}
	for _, l := range [][]api.Member{nil, {}} {
		if got := Find(l, ""); got != -1 {
			t.Errorf("Find in no members: %d", got)
		}
	}
	if got := Find(l[1:], "a"); got != 1 {
		t.Errorf("Find of the second a: %d", got)
	}
}

func TestP703Put(t *testing.T) {
	a, b, c := of("a", 1, "x"), of("b", 2, "yy"), of("a", 3, "z")
	odd := api.Member{Name: "/\n", Date: -5, Data: make([]byte, api.MaxText+1)}
	for _, x := range []struct {
		l    []api.Member
		m    api.Member
		want []api.Member
	}{
		{nil, a, []api.Member{a}},
		{[]api.Member{}, of("", 0, ""), []api.Member{of("", 0, "")}},
		{[]api.Member{a, b, c}, of("a", 9, "new"), []api.Member{of("a", 9, "new"), b, c}},
		{[]api.Member{b, a, c}, of("a", 9, "new"), []api.Member{b, of("a", 9, "new"), c}},
		{[]api.Member{a, b, c}, of("b", 9, ""), []api.Member{a, of("b", 9, ""), c}},
		{[]api.Member{a, c, b}, of("b", 0, ""), []api.Member{a, c, of("b", 0, "")}},
		{[]api.Member{a, b, c}, of("d", 9, "new"), []api.Member{a, b, c, of("d", 9, "new")}},
		{[]api.Member{a, b, c}, of("", 9, "new"), []api.Member{a, b, c, of("", 9, "new")}},
		// What could not be written can be put: a list is not held against the form.
		{[]api.Member{odd}, odd, []api.Member{odd}},
		{[]api.Member{a, odd}, b, []api.Member{a, odd, b}},
	} {
		before := told(x.l)
		if got := Put(x.l, x.m); told(got) != told(x.want) {
			t.Errorf("Put %.40q: %.200s, not %.200s", x.m.Name, told(got), told(x.want))
		}
		if told(x.l) != before {
			t.Errorf("Put %.40q: the list is %.200s now", x.m.Name, told(x.l))
		}
	}
	many := slices.Repeat([]api.Member{a}, 2*api.MaxWords)
	if got := Put(many, b); len(got) != 2*api.MaxWords+1 || got[2*api.MaxWords].Name != "b" {
		t.Errorf("Put behind many: %d", len(got))
	}
}

func TestP704HandedInStands(t *testing.T) {
	room := append(some(), of("spare", 1, "spare"), of("spare", 2, "spare"))
	l := room[:len(room)-2]
	data := []byte("data and spare")
	m := api.Member{Name: "new", Date: 4, Data: data[:4]}
	before := told(room)
	whole := []byte(plainWrite(l) + "spare")
	for range 2 {
		Write(l)
		Find(l, "a.o")
		Put(l, m)
		Put(l, api.Member{Name: "a.o", Data: data[:4]})
		if got, e := Parse(whole[:len(whole)-5]); e != api.OK || told(got) != told(l) {
			t.Errorf("Parse: %s, %d", told(got), e)
		}
		Parse(whole)
	}
	if told(room) != before || string(data) != "data and spare" || string(whole) != plainWrite(l)+"spare" {
		t.Errorf("what was handed in is %s, %q, %q now", told(room), data, whole)
	}
}

func TestP704NothingIsKept(t *testing.T) {
	l := some()
	b, _ := Write(l)
	want := string(b)
	got, _ := Parse(b)
	had := told(got)
	m := of("new", 4, "data")
	put, behind := Put(l, api.Member{Name: "a.o", Data: m.Data}), Put(l, m)
	wantPut, wantBehind := told(put), told(behind)
	for i := range l {
		clear(l[i].Data)
		l[i] = api.Member{}
	}
	clear(m.Data)
	if string(b) != want || told(put) != wantPut || told(behind) != wantBehind {
		t.Errorf("what was answered hangs on the members: %q, %s, %s", b, told(put), told(behind))
	}
	clear(b[:cap(b)])
	if told(got) != had {
		t.Errorf("what was parsed hangs on the bytes: %s, not %s", told(got), had)
	}
}

// spoil changes all that can be reached from an answer, its spare room too.
func spoil(l []api.Member) {
	for i := range l {
		clear(l[i].Data[:cap(l[i].Data)])
		l[i].Data = append(l[i].Data, "more"...)
		l[i].Name, l[i].Date = "spoilt", -1
	}
	clear(l[:cap(l)])
}

func TestP704AnswersAreNew(t *testing.T) {
	l := some()
	before := told(l)
	whole := []byte(plainWrite(l))
	spoil(Put(l, of("new", 4, "data")))
	m := of("a.o", 4, "data")
	spoil(Put(l, m))
	got, _ := Parse(whole)
	spoil(got)
	b, _ := Write(l)
	clear(b[:cap(b)])
	if told(l) != before || told([]api.Member{m}) != told([]api.Member{of("a.o", 4, "data")}) || string(whole) != plainWrite(l) {
		t.Errorf("an answer that was changed has changed %s, %s or %q", told(l), told([]api.Member{m}), whole)
	}
	writes(t, l...)
	if b, e := Write(nil); e != api.OK || string(b) != "!<arch>\n" {
		t.Errorf("Write of none: %q, %d", b, e)
	} else {
		clear(b)
	}
	if b, _ := Write(nil); string(b) != "!<arch>\n" {
		t.Errorf("Write of none, the second time: %q", b)
	}
}

func TestP704DataOfOneAnswerIsApart(t *testing.T) {
	shared := []byte("data")
	l := []api.Member{{Name: "a", Data: shared}, {Name: "b", Data: shared}, {Name: "c", Data: shared[1:2]}}
	whole := []byte(plainWrite(l))
	parsed, _ := Parse(whole)
	for _, got := range [][]api.Member{Put(l, api.Member{Name: "d", Data: shared}), Put(l, api.Member{Name: "b", Data: shared}), parsed} {
		for i := range got {
			var others []api.Member
			others = append(append(others, got[:i]...), got[i+1:]...)
			before := told(others)
			clear(got[i].Data[:cap(got[i].Data)])
			got[i].Data = append(got[i].Data[:0], "something longer than it was"...)
			if told(others) != before {
				t.Errorf("member %d shares its data with others: %s", i, told(others))
			}
		}
	}
	if string(shared) != "data" || string(whole) != plainWrite(l) {
		t.Errorf("what was handed in is %q, %q now", shared, whole)
	}
}

// within tells whether two texts share memory.
func within(a, b string) bool {
	if a == "" || b == "" {
		return false
	}
	p, q := uintptr(unsafe.Pointer(unsafe.StringData(a))), uintptr(unsafe.Pointer(unsafe.StringData(b)))
	return p < q+uintptr(len(b)) && q < p+uintptr(len(a))
}

func TestP704NamesAreNew(t *testing.T) {
	l := []api.Member{of(strings.Clone("first"), 1, ""), of(strings.Repeat("n", 20), 2, ""), of(strings.Repeat("n", 20), 3, ""), of(strings.Clone("first"), 4, "")}
	m := of(strings.Clone("other"), 5, "")
	b, _ := Write(l)
	parsed, _ := Parse(b)
	for _, got := range [][]api.Member{Put(l, m), Put(l, l[3]), parsed} {
		for i, x := range got {
			for _, y := range slices.Concat(got[i+1:], l, []api.Member{m, {Name: unsafe.String(&b[0], len(b))}}) {
				if within(x.Name, y.Name) {
					t.Errorf("the name %q shares its memory with %.20q", x.Name, y.Name)
				}
			}
		}
	}
}

func FuzzParse(f *testing.F) {
	f.Add([]byte(plainWrite(some())))
	f.Add([]byte("!<arch>\n"))
	f.Fuzz(func(t *testing.T, b []byte) {
		if len(b) <= api.MaxText {
			asThePlain(t, string(b))
		}
	})
}
