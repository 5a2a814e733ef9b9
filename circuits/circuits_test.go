package circuits

import (
	"reflect"
	"slices"
	"strings"
	"testing"

	"diagram/api"
)

func TestSplit(t *testing.T) {
	for _, c := range []struct{ line, words string }{
		{"", ""}, {"   ", ""}, {"in a", "in a"}, {"  in   a  ", "in a"}, {"next a=b", "next a = b"}, {"latch a?", "latch a ?"}, {"latch a0", "latch a0"},
		{"bad=!(a&b)^c|0", "bad = ! ( a & b ) ^ c | 0"}, {"a1b2 1 0", "a1b2 1 0"}, {"abcdefgh(abcdefgh", "abcdefgh ( abcdefgh"}, {"0=1", "0 = 1"},
	} {
		words, ok := split(c.line)
		if !ok || !slices.Equal(words, strings.Fields(c.words)) {
			t.Errorf("split(%q) = %q, %v, want %q", c.line, words, ok, c.words)
		}
	}
	for _, line := range []string{"\t", "in a\r", "abcdefghi", "00", "01", "0a", "2", "A", "a_b", "a.b", "é", "\xff", "\x00", "a #"} {
		if words, ok := split(line); ok {
			t.Errorf("split(%q) = %q", line, words)
		}
	}
}

func TestParse(t *testing.T) {
	for _, c := range []struct{ expr, made string }{
		{"0", "0"}, {"a", "a"}, {"!a", "a !"}, {"!!a", "a ! !"}, {"((a))", "a"},
		{"a|b|c", "a b | c |"}, {"a&b&c", "a b & c &"}, {"a^b^c", "a b ^ c ^"},
		{"a|b^c&d", "a b c d & ^ |"}, {"a&b^c|d", "a b & c ^ d |"}, {"a&(b^(c|d))", "a b c d | ^ &"}, {"!a&b", "a ! b &"}, {"!(a&b)", "a b & !"}, {"a&!b", "a b ! &"},
	} {
		words, _ := split(c.expr)
		made, ok := parse(words)
		if !ok || !slices.Equal(made, strings.Fields(c.made)) {
			t.Errorf("parse(%q) = %q, %v, want %q", c.expr, made, ok, c.made)
		}
	}
}

func TestRead(t *testing.T) {
	got, e, line := Read("next b = a & !i\n\nin i\nlatch b ?\nlatch a 1\nbad = b\nnext a=0\nin j")
	want := Circuit{
		Inputs: []string{"i", "j"},
		Latches: []Latch{
			{"b", "?", Expression{"a", "i", "!", "&"}},
			{"a", "1", Expression{"0"}},
		},
		Bad: Expression{"b"},
	}
	if e != api.OK || line != 0 || !reflect.DeepEqual(got, want) {
		t.Errorf("%+v, %d, %d, want %+v", got, e, line, want)
	}
}

func TestReadRefuses(t *testing.T) {
	for _, c := range []struct {
		text string
		e    api.Errno
		line int
	}{
		{strings.Repeat("\n", api.MaxText+1), api.ErrLimit, 0}, {"in a\nwhat", api.ErrText, 2}, {"in a\nin a", api.ErrTwice, 2}, {"in a\nin b\nin c\nin d", api.ErrLimit, 4}, {"bad = a", api.ErrName, 1}, {"bad = 0\nlatch a 0", api.ErrMissing, 2}, {"", api.ErrMissing, 0},
	} {
		got, e, line := Read(c.text)
		if e != c.e || line != c.line || !reflect.DeepEqual(got, Circuit{}) {
			t.Errorf("Read(%.40q) = %+v, %d, %d, want %d, %d", c.text, got, e, line, c.e, c.line)
		}
	}
}
