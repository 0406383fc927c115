package find_test

import (
	"strings"
	"testing"

	"sccsettle/api"
	"sccsettle/find"
	"sccsettle/plain"
)

func wantLike(t *testing.T, text, mask string, want bool) {
	t.Helper()
	if got, err := find.Like(text, mask); got != want || err != nil {
		t.Errorf("Like of %.60q, %.60q: %v, %v; want %v", text, mask, got, err, want)
	}
}

func refuseLike(t *testing.T, text, mask string, want api.Errno) {
	t.Helper()
	if got, err := find.Like(text, mask); got || plain.Told(err) != want {
		t.Errorf("Like of %.60q, %.60q: %v, %v; want %v", text, mask, got, err, want)
	}
}

func TestD2Like(t *testing.T) {
	for _, c := range []struct {
		mask     string
		are, not []string
	}{
		{"", []string{""}, []string{"a", "*", "?"}},
		{"a", []string{"a"}, []string{"", "b", "aa", "A", "ab", "ba"}},
		{"abc", []string{"abc"}, []string{"", "ab", "abcd", "xabc", "abC", "bca"}},
		{"?", []string{"a", "?", "*", "~", "\n", "\xff", "\x00"}, []string{"", "ab", "??"}},
		{"??", []string{"ab", "\u00e9"}, []string{"", "a", "abc"}},
		{"a?c", []string{"abc", "acc", "a?c", "a\nc"}, []string{"ac", "abbc", "abcd", "bbc"}},
		{"*", []string{"", "a", "ab", "*", "\n", "a\nb", "\xff\xfe"}, nil},
		{"**", []string{"", "a", "ab"}, nil},
		{"a*", []string{"a", "ab", "aa", "a*", "abcba"}, []string{"", "b", "ba"}},
		{"*a", []string{"a", "ba", "aa", "aba"}, []string{"", "b", "ab"}},
		{"*a*", []string{"a", "ba", "ab", "bab", "aaa"}, []string{"", "b", "bb"}},
		{"a*a", []string{"aa", "aba", "aaa", "abaca"}, []string{"", "a", "ab", "ba", "abab"}},
		{"a*b*c", []string{"abc", "aXbYc", "abbcc", "abcbc", "aabc"}, []string{"ac", "acb", "abcd", "xabc", "ab"}},
		{"*ab*ba*", []string{"abba", "xabxbax", "abbaba", "ababa"}, []string{"aba", "bab", "ab", "baab"}},
		{"?*", []string{"a", "ab", "abc"}, []string{""}},
		{"*?", []string{"a", "ab", "abc"}, []string{""}},
		{"?*?", []string{"ab", "abc", "abcd"}, []string{"", "a"}},
		{"*??*", []string{"ab", "abc", "abcd"}, []string{"", "a"}},
		{"a?*", []string{"ab", "abc"}, []string{"a", "", "ba"}},
		{"~a", []string{"a"}, []string{"", "~a", "b", "aa"}},
		{"~?", []string{"?"}, []string{"", "a", "~?", "??"}},
		{"~*", []string{"*"}, []string{"", "a", "~*", "**", "ab"}},
		{"~~", []string{"~"}, []string{"", "~~", "a"}},
		{"~~~~", []string{"~~"}, []string{"~", "~~~", "~~~~"}},
		{"~~*", []string{"~", "~a", "~*"}, []string{"", "a", "*"}},
		{"~~~*", []string{"~*"}, []string{"~", "~a", "*", "~**"}},
		{"~~?", []string{"~a", "~?"}, []string{"~", "~ab", "?"}},
		{"*~*", []string{"*", "a*", "**"}, []string{"", "a", "*a"}},
		{"~**", []string{"*", "*a", "**"}, []string{"", "a", "a*"}},
		{"a~?b", []string{"a?b"}, []string{"acb", "a~?b", "ab"}},
		{"~\n~\xff", []string{"\n\xff"}, []string{"\n", "\xff"}},
		{"[a-c]", []string{"[a-c]"}, []string{"a", "b", "-"}},
		{".+", []string{".+"}, []string{"a", "aa", ".."}},
		{"a\\*", []string{"a\\", "a\\b"}, []string{"a*", "a"}},
	} {
		for _, text := range c.are {
			wantLike(t, text, c.mask, true)
		}
		for _, text := range c.not {
			wantLike(t, text, c.mask, false)
		}
	}
}

// TestD2Bytes: of all bytes, `?` and `*` take each one, one behind `~` is that one alone, and none is another one.
func TestD2Bytes(t *testing.T) {
	for a := range 256 {
		one := string([]byte{byte(a)})
		wantLike(t, one, "?", true)
		wantLike(t, one, "*", true)
		for b := range 256 {
			other := string([]byte{byte(b)})
			wantLike(t, other, "~"+one, a == b)
			if one == "~" {
				continue
			}
			wantLike(t, other, one, a == b || one == "?" || one == "*")
		}
	}
	wantLike(t, "\u00e9", "?", false)
	wantLike(t, "\u00e9", "\xc3?", true)
	wantLike(t, "\ufffd", "\xff", false)
}

// TestD2NoMask: it is none whatever the text, also where that is none of it long ahead of the end.
func TestD2NoMask(t *testing.T) {
	for _, mask := range []string{"~", "~~~", "a~", "b~", "*~", "?~", "~a~", "~*~", "~?~", "~~~~~", "aab~", "ab*~~~", strings.Repeat("~", 199), strings.Repeat("a", 199) + "~"} {
		for _, text := range []string{"", "a", "~", "ab", "aab", mask, strings.Repeat("x", 200)} {
			refuseLike(t, text, mask, api.ErrSyntax)
		}
	}
	wantLike(t, strings.Repeat("~", 100), strings.Repeat("~", 200), true)
	wantLike(t, strings.Repeat("~", 99), strings.Repeat("~", 200), false)
}

func TestD2Long(t *testing.T) {
	long := strings.Repeat("a", 200)
	for _, mask := range []string{long, strings.Repeat("?", 200), strings.Repeat("*", 200), "*", "a*", "*a", strings.Repeat("a*", 100), strings.Repeat("?*", 100)} {
		wantLike(t, long, mask, true)
	}
	wantLike(t, long[:100], strings.Repeat("~a", 100), true)
	wantLike(t, long, strings.Repeat("~a", 100), false)
	wantLike(t, long[1:], long, false)
	wantLike(t, long, long[1:], false)
	wantLike(t, long[1:], strings.Repeat("?", 200), false)
	wantLike(t, long, strings.Repeat("?", 199), false)
	wantLike(t, "", strings.Repeat("*", 200), true)
	for _, tooLong := range []string{long + "a", strings.Repeat("*", 201), strings.Repeat("~", 201), strings.Repeat("a", 1<<20)} {
		// Told ahead of a mask that is none.
		for _, other := range []string{"", "a", "*", "~", long} {
			refuseLike(t, tooLong, other, api.ErrFull)
			refuseLike(t, other, tooLong, api.ErrFull)
		}
		refuseLike(t, tooLong, tooLong, api.ErrFull)
	}
}

// TestD2Ends: a mask with many `*` has far too many ways to be tried one by one.
func TestD2Ends(t *testing.T) {
	long := strings.Repeat("a", 200)
	wantLike(t, long, strings.Repeat("*a", 99)+"*b", false)
	wantLike(t, long[1:]+"b", strings.Repeat("*a", 99)+"*b", true)
	wantLike(t, long, strings.Repeat("a*", 99)+"b", false)
	wantLike(t, long, strings.Repeat("*?", 100), true)
	wantLike(t, long[101:], strings.Repeat("*?", 100), false)
	wantLike(t, long[100:], strings.Repeat("*?", 100), true)
}
