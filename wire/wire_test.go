package wire

import (
	"fmt"
	"math"
	"strings"
	"testing"

	"longabsence/api"
)

// everyField is a record of that kind in which every field has something, also those that the kind has not.
func everyField(kind int) api.Rec {
	return api.Rec{Act: api.Act{Kind: kind, Fid: 3, Dir: 4, Name: "a", To: 5, ToName: "b2", Data: []byte("hi")}, Version: 2, ID: 1}
}

func store(data string) api.Rec {
	return api.Rec{Act: api.Act{Kind: api.ActStore, Fid: 3, Data: []byte(data)}, Version: 2, ID: 1}
}

func makeRec(id, version, fid, dir int, name string) api.Rec {
	return api.Rec{Act: api.Act{Kind: api.ActMake, Fid: fid, Dir: dir, Name: name}, Version: version, ID: id}
}

func rename(name, toName string) api.Rec {
	r := everyField(api.ActRename)
	r.Act.Name, r.Act.ToName = name, toName
	return r
}

// tell shows lists without entries alike, nil or not.
func tell(x ...any) string { return fmt.Sprintf("%+v", x) }

func prints(t *testing.T, r api.Rec, line string) {
	t.Helper()
	got, err := Print(r)
	if got != line || err != api.OK {
		t.Errorf("Print(%+v) = %q, %d, want %q", r, got, err, line)
	}
}

func printsNot(t *testing.T, r api.Rec, errno api.Errno) {
	t.Helper()
	got, err := Print(r)
	if got != "" || err != errno {
		t.Errorf("Print(%+v) = %q, %d, want nothing, %d", r, got, err, errno)
	}
}

func parses(t *testing.T, line string, r api.Rec) {
	t.Helper()
	got, err := Parse(line)
	if tell(got) != tell(r) || err != api.OK {
		t.Errorf("Parse(%q) = %+v, %d, want %+v", line, got, err, r)
	}
}

func parsesNot(t *testing.T, line string, errno api.Errno) {
	t.Helper()
	got, err := Parse(line)
	if tell(got) != tell(api.Rec{}) || err != errno {
		t.Errorf("Parse(%q) = %+v, %d, want nothing, %d", line, got, err, errno)
	}
}

func logIs(t *testing.T, s string, l ...api.Rec) {
	t.Helper()
	got, err := Log(s)
	if tell(got) != tell(l) || err != api.OK {
		t.Errorf("Log(%q) = %+v, %d, want %+v", s, got, err, l)
	}
}

func logIsNot(t *testing.T, s string, errno api.Errno) {
	t.Helper()
	got, err := Log(s)
	if len(got) != 0 || err != errno {
		t.Errorf("Log(%q) = %+v, %d, want nothing, %d", s, got, err, errno)
	}
}

// lines are the lines of records that have in each field what everyField has.
var lines = map[int]string{
	api.ActMake:   "make 1 2 3 4 a",
	api.ActDir:    "dir 1 2 3 4 a",
	api.ActStore:  "store 1 2 3 6869",
	api.ActRemove: "remove 1 2 3 4 a",
	api.ActRename: "rename 1 2 3 4 a 5 b2",
}

// TestEachKind: what a kind has not isn't written, and is zero when the line is read.
func TestEachKind(t *testing.T) {
	for kind, line := range lines {
		r := everyField(kind)
		prints(t, r, line)
		if kind == api.ActStore {
			r.Act.Dir, r.Act.Name = 0, ""
		} else {
			r.Act.Data = nil
		}
		if kind != api.ActRename {
			r.Act.To, r.Act.ToName = 0, ""
		}
		parses(t, line, r)
		prints(t, r, line)
	}
}

func TestKindsThatAreNone(t *testing.T) {
	for _, kind := range []int{0, 6, -1, 7, math.MaxInt, math.MinInt, 1 << 32, 1<<32 + 1} {
		printsNot(t, everyField(kind), api.ErrKind)
	}
	for _, word := range []string{
		"", "Make", "MAKE", "mak", "makes", "xmake", "make\n", "\nmake", "make\t1", "make-", "makedir", "dirs", "stor", "removed", "move", "renam", "1", "0", "-", "bad", "make\x00", "\xff", "mäke",
	} {
		parsesNot(t, word, api.ErrKind)
		parsesNot(t, word+" 1 2 3 4 a", api.ErrKind)
		parsesNot(t, word+" 1 2 3 -", api.ErrKind)
		parsesNot(t, word+" 1 2 3 4 a 5 b", api.ErrKind)
	}
	for _, line := range lines {
		parsesNot(t, " "+line, api.ErrKind)
		parsesNot(t, strings.ToUpper(line), api.ErrKind)
		parsesNot(t, "\n"+line, api.ErrKind)
	}
}

func TestEveryByte(t *testing.T) {
	prints(t, store(""), "store 1 2 3 -")
	parses(t, "store 1 2 3 -", store(""))
	r := store("")
	r.Act.Data = nil
	prints(t, r, "store 1 2 3 -")

	all, digits := "", ""
	for b := range 256 {
		one, word := string([]byte{byte(b)}), fmt.Sprintf("%02x", b)
		prints(t, store(one), "store 1 2 3 "+word)
		parses(t, "store 1 2 3 "+word, store(one))
		all, digits = all+one, digits+word
	}
	// More than a file may have: a line has no limit of its own.
	prints(t, store(all), "store 1 2 3 "+digits)
	parses(t, "store 1 2 3 "+digits, store(all))
	prints(t, store("\x01\xff"), "store 1 2 3 01ff")
	parses(t, "store 1 2 3 01ff", store("\x01\xff"))
}

func TestDataThatIsNotSoWritten(t *testing.T) {
	for _, word := range []string{
		"", "0", "f", "000", "0ff", "0A", "A0", "FF", "aB", "0g", "g0", "zz", "--", "-0", "0-", "-00", "00-", "+0", "0x", "0x00", "00 ", " 00", "00 00", "00\n", "\n", "0\n", "\x00\x00", "\xff\xff", "0/", "0:", "0`", "ä",
	} {
		parsesNot(t, "store 1 2 3 "+word, api.ErrForm)
	}
	// Bytes beside those of the digits, at either place.
	for b := range 256 {
		c := string([]byte{byte(b)})
		if !strings.Contains("0123456789abcdef", c) {
			parsesNot(t, "store 1 2 3 0"+c, api.ErrForm)
			parsesNot(t, "store 1 2 3 "+c+"0", api.ErrForm)
		}
	}
}

func TestNumbers(t *testing.T) {
	for n, word := range map[int]string{
		0: "0", 1: "1", -1: "-1", 9: "9", 10: "10", -10: "-10", 100: "100", 1234567890: "1234567890",
		math.MaxInt32 + 1: "2147483648", math.MaxInt: "9223372036854775807", math.MinInt: "-9223372036854775808", math.MinInt + 1: "-9223372036854775807",
	} {
		w := func(line string) string { return strings.ReplaceAll(line, "N", word) }
		both := func(line string, r api.Rec) {
			t.Helper()
			prints(t, r, w(line))
			parses(t, w(line), r)
		}
		both("make N 2 3 4 a", makeRec(n, 2, 3, 4, "a"))
		both("make 1 N 3 4 a", makeRec(1, n, 3, 4, "a"))
		both("make 1 2 N 4 a", makeRec(1, 2, n, 4, "a"))
		both("make 1 2 3 N a", makeRec(1, 2, 3, n, "a"))
		both("store N N N -", api.Rec{Act: api.Act{Kind: api.ActStore, Fid: n}, Version: n, ID: n})
		both("rename 1 2 3 4 a N b", api.Rec{Act: api.Act{Kind: api.ActRename, Fid: 3, Dir: 4, Name: "a", To: n, ToName: "b"}, Version: 2, ID: 1})
	}
}

func TestNumbersThatAreNotSoWritten(t *testing.T) {
	for _, word := range []string{
		"", "-", "+", "+1", "+0", "-0", "00", "01", "-01", "007", "--1", "-+1", "1-", "x", "1x", "x1", "0x1", "1_000", "1.0", "1e3", "a", "1\n", "\n1", "\t1", "1\t", "\x00", "\xff", "١", " 1", "1 ", " ",
		"9223372036854775808", "-9223372036854775809", "18446744073709551616", "18446744073709551617", "99999999999999999999999", "-99999999999999999999999",
	} {
		for _, line := range []string{
			"make N 2 3 4 a", "make 1 N 3 4 a", "make 1 2 N 4 a", "make 1 2 3 N a", "dir 1 2 3 N a", "remove 1 2 3 N a",
			"store N 2 3 -", "store 1 N 3 -", "store 1 2 N 00", "rename N 2 3 4 a 5 b", "rename 1 2 3 4 a N b",
		} {
			parsesNot(t, strings.ReplaceAll(line, "N", word), api.ErrForm)
		}
	}
}

func TestHowManyWords(t *testing.T) {
	for _, line := range lines {
		words := strings.Split(line, " ")
		for i := 1; i < len(words); i++ {
			parsesNot(t, strings.Join(words[:i], " "), api.ErrForm)
			// Two blanks have a word without a byte between them, which is one too many.
			parsesNot(t, strings.Join(words[:i], " ")+"  "+strings.Join(words[i:], " "), api.ErrForm)
		}
		parsesNot(t, line+" ", api.ErrForm)
		parsesNot(t, line+" 1", api.ErrForm)
		parsesNot(t, line+" a", api.ErrForm)
		parsesNot(t, line+" 6 c", api.ErrForm)
		parsesNot(t, line+" "+line, api.ErrForm)
		parsesNot(t, strings.ReplaceAll(line, " ", "\t"), api.ErrKind)
		parsesNot(t, strings.Replace(line, "2 ", "2\t", 1), api.ErrForm)
	}
	parsesNot(t, "make ", api.ErrForm)
	parsesNot(t, "make 1 2 3 4", api.ErrForm)
	parsesNot(t, "make 1 2 3 4 a 5 b", api.ErrForm)
	parsesNot(t, "make 1 2 3 -", api.ErrForm)
	parsesNot(t, "store 1 2 3", api.ErrForm)
	parsesNot(t, "store 1 2 3 4 a", api.ErrForm)
	parsesNot(t, "store 1 2 3 4 5", api.ErrForm)
	parsesNot(t, "rename 1 2 3 4 a", api.ErrForm)
	parsesNot(t, "rename 1 2 3 4 a 5", api.ErrForm)
	parsesNot(t, "remove 1 2 3", api.ErrForm)
}

// noNames are names of which no line can be made, without blanks.
var noNames = []string{"", "A", "aB", "a\n", "\na", "abcdefghi", "a/", "/", "-", "a-b", "_", "ä", "\x00", "\xff", "a\tb", "."}

func TestNames(t *testing.T) {
	for _, name := range []string{"a", "z", "0", "9", "b2", "00", "abcdefgh", "01234567", "make", "store", "1"} {
		prints(t, makeRec(1, 2, 3, 4, name), "make 1 2 3 4 "+name)
		parses(t, "make 1 2 3 4 "+name, makeRec(1, 2, 3, 4, name))
		prints(t, rename(name, "x"), "rename 1 2 3 4 "+name+" 5 x")
		prints(t, rename("x", name), "rename 1 2 3 4 x 5 "+name)
	}
	for _, name := range append(noNames, " ", "a b", " a", "a ") {
		for kind := range lines {
			r := everyField(kind)
			r.Act.Name = name
			if kind == api.ActStore {
				prints(t, r, lines[kind])
			} else {
				printsNot(t, r, api.ErrName)
			}
			r.Act.Name, r.Act.ToName = "a", name
			if kind == api.ActRename {
				printsNot(t, r, api.ErrName)
			} else {
				prints(t, r, lines[kind])
			}
		}
	}
	for _, name := range noNames {
		for _, line := range []string{"make 1 2 3 4 N", "dir 1 2 3 4 N", "remove 1 2 3 4 N", "rename 1 2 3 4 N 5 b", "rename 1 2 3 4 a 5 N", "rename 1 2 3 4 N 5 N"} {
			parsesNot(t, strings.ReplaceAll(line, "N", name), api.ErrName)
		}
	}
}

// TestWhichErrorFirst: the kind's, then the form's, then the name's.
func TestWhichErrorFirst(t *testing.T) {
	r := everyField(9)
	r.Act.Name, r.Act.ToName = "A", "B"
	printsNot(t, r, api.ErrKind)
	parsesNot(t, "bad 01 x A", api.ErrKind)
	parsesNot(t, "Rename 1 2 3 4 A 5x B", api.ErrKind)
	parsesNot(t, "rename 1 2 3 4 A 5x b", api.ErrForm)
	parsesNot(t, "rename 1 2 3 4 A 5", api.ErrForm)
	parsesNot(t, "rename 1 2 3 4 A 5 b ", api.ErrForm)
	parsesNot(t, "make 1 2 3 4 A b", api.ErrForm)
	parsesNot(t, "make 1 2 3 04 A", api.ErrForm)
	parsesNot(t, "make 1 2 3 4 a\nmake 1 2 3 4 a", api.ErrForm)
	parsesNot(t, "rename 1 2 3 4 A 5 b", api.ErrName)
	// A blank at the end: behind it stands a word, that is no name, and no data either.
	parsesNot(t, "make 1 2 3 4 ", api.ErrName)
	parsesNot(t, "rename 1 2 3 4 a 5 ", api.ErrName)
	parsesNot(t, "rename 1 2 3 4  5 b", api.ErrName)
	parsesNot(t, "store 1 2 3 ", api.ErrForm)
	parsesNot(t, "make 1 2 3  a", api.ErrForm)
}

func TestText(t *testing.T) {
	text := func(s string, errno api.Errno, l ...api.Rec) {
		t.Helper()
		got, err := Text(l)
		if got != s || err != errno {
			t.Errorf("Text(%+v) = %q, %d, want %q, %d", l, got, err, s, errno)
		}
	}
	text("", api.OK)
	if s, err := Text([]api.Rec{}); s != "" || err != api.OK {
		t.Errorf("Text of no records = %q, %d", s, err)
	}
	text("store 1 2 3 -\n", api.OK, store(""))
	text("store 1 2 3 -\nstore 1 2 3 -\n", api.OK, store(""), store(""))
	text("make 1 2 3 4 a\nstore 1 2 3 6869\nrename 1 2 3 4 a 5 b2\n", api.OK, everyField(1), everyField(3), everyField(5))
	none, unnamed := everyField(6), everyField(5)
	unnamed.Act.ToName = "B"
	text("", api.ErrKind, none)
	text("", api.ErrName, unnamed)
	text("", api.ErrKind, none, unnamed)
	text("", api.ErrName, unnamed, none)
	text("", api.ErrKind, store(""), none, store(""), unnamed)
	text("", api.ErrName, store(""), store(""), unnamed)
}

func TestLog(t *testing.T) {
	logIs(t, "")
	logIs(t, "store 1 2 3 -\n", store(""))
	logIs(t, "store 1 2 3 -\nmake 1 2 3 4 a\nstore 1 2 3 6869\n", store(""), makeRec(1, 2, 3, 4, "a"), store("hi"))
	// More than a log may have: a text has no limit of its own.
	long := make([]api.Rec, api.MaxLog+5)
	for i := range long {
		long[i] = store("x")
	}
	logIs(t, strings.Repeat("store 1 2 3 78\n", len(long)), long...)
}

func TestLogsThatAreNotSoWritten(t *testing.T) {
	good := "store 1 2 3 -\n"
	for s, err := range map[string]api.Errno{
		"\n": api.ErrKind, "\n\n": api.ErrKind, " \n": api.ErrKind, "bad\n": api.ErrKind, "\r\n": api.ErrKind,
		"store 1 2 3\n": api.ErrForm, "store 1 2 3 -\r\n": api.ErrForm, "store 1 2 3 - \n": api.ErrForm,
		"make 1 2 3 4 A\n": api.ErrName, "make 1 2 3 4 a\r\n": api.ErrName, "make 1 2 3 4 \n": api.ErrName,
		"make\n1 2 3 4 a\n": api.ErrForm, "make 1 2 3 4\na\n": api.ErrForm,
		"bad\nstore\n": api.ErrKind, "store\nbad\n": api.ErrForm, "make 1 2 3 4 A\nbad\n": api.ErrName, "bad\nmake 1 2 3 4 A\n": api.ErrKind,
	} {
		logIsNot(t, s, err)
		logIsNot(t, good+s, err)
		logIsNot(t, good+s+good, err)
		logIsNot(t, s+"store 1 2 3 -", err)
	}
	logIsNot(t, good+"\n", api.ErrKind)
	logIsNot(t, good+"\n"+good, api.ErrKind)
	logIsNot(t, "\n"+good, api.ErrKind)
}

// TestLastLineWithoutLineFeed: that is told behind what else is wrong in the line, as the chapter names them.
func TestLastLineWithoutLineFeed(t *testing.T) {
	for _, good := range []string{"", "store 1 2 3 -\n", "make 1 2 3 4 a\nmake 1 2 3 4 b\n"} {
		for _, line := range lines {
			logIsNot(t, good+line, api.ErrForm)
		}
		logIsNot(t, good+"store", api.ErrForm)
		logIsNot(t, good+"bad", api.ErrKind)
		logIsNot(t, good+" ", api.ErrKind)
		logIsNot(t, good+"make 1 2 3 4 A", api.ErrName)
	}
	logIsNot(t, "bad\nstore", api.ErrKind)
	logIsNot(t, "store\nbad", api.ErrForm)
}

// TestLongTexts: what is long, is read and written in a time that grows as it does.
func TestLongTexts(t *testing.T) {
	const n = 1 << 18
	parsesNot(t, strings.Repeat(" ", n), api.ErrKind)
	parsesNot(t, "make"+strings.Repeat(" ", n), api.ErrForm)
	parsesNot(t, "make 1 2 3 4 "+strings.Repeat("a", n), api.ErrName)
	parsesNot(t, "make "+strings.Repeat("1", n)+" 2 3 4 a", api.ErrForm)
	parses(t, "store 1 2 3 "+strings.Repeat("78", n), store(strings.Repeat("x", n)))
	logIsNot(t, strings.Repeat("store 1 2 3 -\n", n/8)+"bad\n", api.ErrKind)
	l := make([]api.Rec, n/8)
	for i := range l {
		l[i] = store("x")
	}
	s, err := Text(l)
	if s != strings.Repeat("store 1 2 3 78\n", n/8) || err != api.OK {
		t.Errorf("Text of %d records has %d bytes, and tells %d", len(l), len(s), err)
	}
}
