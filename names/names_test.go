package names

import (
	"slices"
	"strings"
	"testing"

	"longabsence/api"
)

func TestNameTakesEachSignAndNoOther(t *testing.T) {
	const signs = "abcdefghijklmnopqrstuvwxyz0123456789"
	for b := range 256 {
		s := string([]byte{byte(b)})
		want := strings.Contains(signs, s)
		for _, name := range []string{s, s + "a", "a" + s, "a" + s + "9"} {
			if got := Name(name); got != want {
				t.Errorf("Name(%q) = %v, want %v", name, got, want)
			}
		}
	}
}

func TestNameLengths(t *testing.T) {
	for n := range 3 * api.MaxName {
		want := 1 <= n && n <= api.MaxName
		for _, sign := range []string{"a", "z", "0", "9"} {
			s := strings.Repeat(sign, n)
			if got := Name(s); got != want {
				t.Errorf("Name(%q), of %d signs, = %v, want %v", s, n, got, want)
			}
		}
	}
}

func TestNameOfWrongTexts(t *testing.T) {
	wrong := []string{
		"", " ", "/", "/a", "a/", "a/b", "A", "aB", "a b", " a", "a ", "a.b", "..", "a-b", "a_b", "-1",
		"a\n", "a\x00", "\x00", "`", "{", ":", "ä", "aß", "é1", "ａ", "٣", "\xff", "a\x80",
		strings.Repeat("A", api.MaxName), strings.Repeat("a", api.MaxName-1) + "/",
	}
	for _, s := range wrong {
		if Name(s) {
			t.Errorf("Name(%q) = true, want false", s)
		}
	}
}

// longest is a path of just MaxPath bytes, all of it names.
func longest() string {
	part := slash + strings.Repeat("a", api.MaxName)
	s := strings.Repeat(part, api.MaxPath/len(part))
	return s + slash + strings.Repeat("b", api.MaxPath-len(s)-1)
}

func TestSplit(t *testing.T) {
	full := strings.Repeat("z", api.MaxName)
	cases := []struct {
		s    string
		want []string
	}{
		{"/", nil},
		{"/a", []string{"a"}},
		{"/0", []string{"0"}},
		{"/a/b2", []string{"a", "b2"}},
		{"/a/a/a", []string{"a", "a", "a"}},
		{"/9z/0a/etc", []string{"9z", "0a", "etc"}},
		{"/" + full, []string{full}},
		{"/a/" + full, []string{"a", full}},
		{strings.Repeat("/x", api.MaxPath/2), slices.Repeat([]string{"x"}, api.MaxPath/2)},
	}
	for _, c := range cases {
		got, err := Split(c.s)
		if err != api.OK || !slices.Equal(got, c.want) {
			t.Errorf("Split(%q) = %q, %d, want %q, OK", c.s, got, err, c.want)
		}
	}
}

func TestSplitOfTheLongestPath(t *testing.T) {
	s := longest()
	if len(s) != api.MaxPath {
		t.Fatalf("the longest path has %d bytes, want %d", len(s), api.MaxPath)
	}
	l, err := Split(s)
	if err != api.OK || Join(l) != s {
		t.Errorf("Split(%q) = %q, %d, want all its names, OK", s, l, err)
	}
	refuse(t, s+"a", api.ErrMuch)
	refuse(t, s+"/", api.ErrMuch)
}

// refuse: Split tells that error, and beside it nothing.
func refuse(t *testing.T, s string, want api.Errno) {
	t.Helper()
	l, err := Split(s)
	if err != want || len(l) != 0 {
		t.Errorf("Split(%q) = %q, %d, want nothing, %d", s, l, err, want)
	}
}

func TestSplitErrors(t *testing.T) {
	long := strings.Repeat("a", api.MaxName+1)
	cases := []struct {
		want api.Errno
		l    []string
	}{
		{api.ErrForm, []string{"", "a", "a/b", "a/", " /a", "A", " ", "\x00", "\xff/a", "\\a"}},
		{api.ErrName, []string{"//", "///", "/a/", "//a", "/a//b", "/a/b/", "/a//"}},
		{api.ErrName, []string{"/A", "/a b", "/ ", "/a/B", "/A/b", "/a/B/c", "/a\n", "/.", "/..", "/a/../b", "/ä", "/a/\xff", "/\x00"}},
		{api.ErrName, []string{"/" + long, "/a/" + long, "/" + long + "/a"}},
	}
	for _, c := range cases {
		for _, s := range c.l {
			refuse(t, s, c.want)
		}
	}
}

func TestSplitTellsTheFirstError(t *testing.T) {
	blank := strings.Repeat(" ", api.MaxPath)
	slashes := strings.Repeat(slash, api.MaxPath)
	refuse(t, blank+" ", api.ErrMuch)
	refuse(t, slashes+slash, api.ErrMuch)
	refuse(t, strings.Repeat("a", api.MaxPath+1), api.ErrMuch)
	refuse(t, strings.Repeat("a", 1<<20), api.ErrMuch)
	refuse(t, blank, api.ErrForm)
	refuse(t, "A//", api.ErrForm)
	refuse(t, strings.Repeat("a", api.MaxPath), api.ErrForm)
	refuse(t, slashes, api.ErrName)
	refuse(t, slash+blank[1:], api.ErrName)
}

func TestSplitCountsBytesNotRunes(t *testing.T) {
	s := slash + strings.Repeat("ä", api.MaxPath/2)
	refuse(t, s, api.ErrMuch)
	refuse(t, s[:len(s)-2], api.ErrName)
}

func TestSplitAnswersNewMemory(t *testing.T) {
	first, _ := Split("/a/b")
	again, _ := Split("/a/b")
	first[0] = "changed"
	_ = append(first[:1], "changed")
	if !slices.Equal(again, []string{"a", "b"}) {
		t.Errorf("another answer is %q now", again)
	}
}

func TestJoin(t *testing.T) {
	cases := []struct {
		l    []string
		want string
	}{
		{nil, "/"},
		{[]string{}, "/"},
		{[]string{"a"}, "/a"},
		{[]string{"a", "b2"}, "/a/b2"},
		{[]string{"a", "a", "a"}, "/a/a/a"},
		{[]string{""}, "/"},
		{[]string{"", ""}, "//"},
		{[]string{"a", ""}, "/a/"},
		{[]string{"/"}, "//"},
		{[]string{"No name", "\xff"}, "/No name/\xff"},
		{[]string{strings.Repeat("a", 2*api.MaxPath), "b"}, "/" + strings.Repeat("a", 2*api.MaxPath) + "/b"},
	}
	for _, c := range cases {
		if got := Join(c.l); got != c.want {
			t.Errorf("Join(%q) = %q, want %q", c.l, got, c.want)
		}
	}
}

func TestJoinOnlyReads(t *testing.T) {
	room := []string{"a", "b", "spare", "room"}
	if got := Join(room[:2]); got != "/a/b" {
		t.Errorf("Join = %q, want /a/b", got)
	}
	if !slices.Equal(room, []string{"a", "b", "spare", "room"}) {
		t.Errorf("the list is %q now", room)
	}
}

// FuzzSplit holds Split against the promise's words, told another way: sign by sign.
func FuzzSplit(f *testing.F) {
	for _, s := range []string{"", "/", "//", "a", "/a", "/a/", "/a/b2", "/A", "/a//b", longest(), longest() + "/", "/\xff"} {
		f.Add(s)
	}
	f.Fuzz(func(t *testing.T, s string) {
		l, err := Split(s)
		if want := expected(s); err != want {
			t.Fatalf("Split(%q) tells %d, want %d", s, err, want)
		}
		if err != api.OK && len(l) != 0 {
			t.Fatalf("Split(%q) = %q beside an error", s, l)
		}
		if err == api.OK && Join(l) != s {
			t.Fatalf("Split(%q) = %q, and that is no way back", s, l)
		}
	})
}

// expected is the error that Split must tell.
func expected(s string) api.Errno {
	switch {
	case len(s) > api.MaxPath:
		return api.ErrMuch
	case s == "/":
		return api.OK
	case s == "" || s[0] != '/':
		return api.ErrForm
	}
	run := 0
	for _, b := range []byte(s[1:] + "/") {
		switch {
		case b == '/' && run > 0:
			run = 0
		case strings.IndexByte("abcdefghijklmnopqrstuvwxyz0123456789", b) >= 0 && run < api.MaxName:
			run++
		default:
			return api.ErrName
		}
	}
	return api.OK
}
