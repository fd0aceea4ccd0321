// Package text is layer 1: words and texts of bytes.
package text

import (
	"iter"
	"slices"
	"strconv"
	"strings"

	"anvil/api"
)

const mostDigits = 9

// Split tells the words of s, in order.
func Split(s string) []string {
	var l []string
	for w := range words(s) {
		l = append(l, strings.Clone(w))
	}
	return l
}

// Join puts the texts of l one behind the other, a space between each two.
func Join(l []string) string { return glue(" ", l...) }

// Trim tells s without the blanks at its beginning and end.
func Trim(s string) string {
	from, to := 0, len(s)
	for from < to && blank(s[from]) {
		from++
	}
	for from < to && blank(s[to-1]) {
		to--
	}
	return strings.Clone(s[from:to])
}

// Replace puts to at each place of from in s; an empty from has one place, the end of s.
func Replace(s, from, to string) (string, api.Errno) {
	// The length is reckoned ahead, so that no text beyond the limit is ever built.
	if len(s)+places(s, from)*(len(to)-len(from)) > api.MaxText {
		return "", api.ErrLong
	}
	if from == "" {
		return glue("", s, to), api.OK
	}
	// ReplaceAll hands s itself back where nothing is replaced: the answer must be new memory.
	return strings.Clone(strings.ReplaceAll(s, from, to)), api.OK
}

// Find tells the first place of sub in s, or -1.
func Find(s, sub string) int { return strings.Index(s, sub) }

// Sort tells the texts of l by their bytes, rising, each once.
func Sort(l []string) []string {
	sorted := slices.Clone(l)
	slices.Sort(sorted)
	return Copies(slices.Compact(sorted))
}

// Copies tells the texts of l in memory of their own: for the layers that keep what they are told.
func Copies(l []string) []string {
	var own []string
	for _, s := range l {
		own = append(own, strings.Clone(s))
	}
	return own
}

// Number tells the number that 1 to 9 digits stand for, and whether s is such a text.
func Number(s string) (int, bool) {
	if len(s) < 1 || len(s) > mostDigits {
		return 0, false
	}
	n := 0
	for i := range len(s) {
		if !digit(s[i]) {
			return 0, false
		}
		n = n*10 + int(s[i]-'0')
	}
	return n, true
}

// Decimal tells n in digits.
func Decimal(n int) string { return strconv.Itoa(n) }

// words tells the words of s one by one; they share the memory of s.
func words(s string) iter.Seq[string] {
	return func(yield func(string) bool) {
		for at := 0; at < len(s); {
			if blank(s[at]) {
				at++
				continue
			}
			end := wordEnd(s, at)
			if !yield(s[at:end]) {
				return
			}
			at = end
		}
	}
}

// wordEnd tells the place behind the word that begins at at.
func wordEnd(s string, at int) int {
	for at < len(s) && !blank(s[at]) {
		at++
	}
	return at
}

// glue joins texts with between between each two; strings.Join would hand a lone one back as it is, not as new memory.
func glue(between string, parts ...string) string {
	var b strings.Builder
	for i, p := range parts {
		if i > 0 {
			b.WriteString(between)
		}
		b.WriteString(p)
	}
	return b.String()
}

// places tells how many places of from in s are replaced.
func places(s, from string) int {
	if from == "" {
		return 1
	}
	return strings.Count(s, from)
}

func blank(c byte) bool {
	switch c {
	case ' ':
		fallthrough
	case '\t':
		fallthrough
	case '\n':
		return true
	}
	return false
}

func digit(c byte) bool { return '0' <= c && c <= '9' }
