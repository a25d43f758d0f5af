package wire

import (
	"fmt"
	"math/big"
	"regexp"
	"strings"
	"testing"

	"longabsence/api"
)

// The promise's words as patterns: by other means than the program's.
var (
	numberForm = `(0|-?[1-9][0-9]*)`
	nameForm   = regexp.MustCompile(`\A[a-z0-9]{1,8}\z`)
	kindForm   = regexp.MustCompile(`\A(make|dir|store|remove|rename)( |\z)`)
	placeForm  = regexp.MustCompile(`\A(make|dir|remove)( ` + numberForm + `){4} (?s:[^ ]*)\z`)
	storeForm  = regexp.MustCompile(`\Astore( ` + numberForm + `){3} (-|([0-9a-f][0-9a-f])+)\z`)
	renameForm = regexp.MustCompile(`\Arename( ` + numberForm + `){4} (?s:[^ ]*) ` + numberForm + ` (?s:[^ ]*)\z`)
)

// errorOf is what Parse must tell of a line.
func errorOf(line string) api.Errno {
	// Patterns go by runes: bytes that are no text are shown to them as one that is no name and no digit.
	line = strings.ToValidUTF8(line, "\x00")
	if !kindForm.MatchString(line) {
		return api.ErrKind
	}
	words := strings.Split(line, " ")
	var numbers, named []string
	switch {
	case placeForm.MatchString(line):
		numbers, named = words[1:5], words[5:]
	case storeForm.MatchString(line):
		numbers = words[1:4]
	case renameForm.MatchString(line):
		numbers, named = []string{words[1], words[2], words[3], words[4], words[6]}, []string{words[5], words[7]}
	default:
		return api.ErrForm
	}
	for _, s := range numbers {
		if n, _ := new(big.Int).SetString(s, 10); !n.IsInt64() {
			return api.ErrForm
		}
	}
	for _, s := range named {
		if !nameForm.MatchString(s) {
			return api.ErrName
		}
	}
	return api.OK
}

// lineOf is the line of a record of which one can be made.
func lineOf(r api.Rec) string {
	a := r.Act
	line := fmt.Sprintf("%s %d %d %d", []string{"", "make", "dir", "store", "remove", "rename"}[a.Kind], r.ID, r.Version, a.Fid)
	if a.Kind == 3 && len(a.Data) == 0 {
		return line + " -"
	}
	if a.Kind == 3 {
		return line + fmt.Sprintf(" %x", a.Data)
	}
	line += fmt.Sprintf(" %d %s", a.Dir, a.Name)
	if a.Kind == 5 {
		line += fmt.Sprintf(" %d %s", a.To, a.ToName)
	}
	return line
}

func checkLine(t *testing.T, s string) {
	t.Helper()
	r, err := Parse(s)
	if expect := errorOf(s); err != expect {
		t.Fatalf("Parse(%q) tells %d, want %d", s, err, expect)
	}
	if err != api.OK {
		if tell(r) != tell(api.Rec{}) {
			t.Fatalf("Parse(%q) = %+v beside %d", s, r, err)
		}
		return
	}
	back, err := Print(r)
	if back != s || err != api.OK || lineOf(r) != s {
		t.Fatalf("Print(Parse(%q)) = %q, %d", s, back, err)
	}
}

func checkLog(t *testing.T, s string) {
	t.Helper()
	l, err := Log(s)
	expect, n := api.OK, 0
	for line := range strings.Lines(s) {
		expect = errorOf(strings.TrimSuffix(line, "\n"))
		if expect == api.OK && !strings.HasSuffix(line, "\n") {
			expect = api.ErrForm
		}
		if expect != api.OK {
			n = 0
			break
		}
		n++
	}
	if err != expect || len(l) != n {
		t.Fatalf("Log(%q) = %d records, %d, want %d, %d", s, len(l), err, n, expect)
	}
	if err != api.OK {
		return
	}
	if back, err := Text(l); back != s || err != api.OK {
		t.Fatalf("Text(Log(%q)) = %q, %d", s, back, err)
	}
}

// FuzzParse: a text that is read is written again as it was, and any other is told what is wrong.
func FuzzParse(f *testing.F) {
	for _, line := range lines {
		f.Add(line)
		f.Add(line + "\n" + line + "\n")
		f.Add(line + "\n" + line)
		// Each line with one byte less, one more, and another one.
		for i := range len(line) {
			f.Add(line[:i] + line[i+1:])
			for _, c := range []string{" ", "0", "-", "a", "A", "\n", "\xff"} {
				f.Add(line[:i] + c + line[i:])
				f.Add(line[:i] + c + line[i+1:])
				f.Add(line[:i] + c + line[i+1:] + "\n")
			}
		}
	}
	f.Fuzz(func(t *testing.T, s string) {
		checkLine(t, s)
		checkLog(t, s)
	})
}

// FuzzPrint: what is written is read, but for what its kind has not.
func FuzzPrint(f *testing.F) {
	for kind := -1; kind < 8; kind++ {
		for _, name := range []string{"a", "b2", "", "A", "a b", "abcdefgh", "abcdefghi"} {
			f.Add(kind, 3, -4, name, 5, "b", []byte("hi"), -1, 7)
			f.Add(kind, -3, 0, "a", 0, name, []byte{}, 0, 0)
		}
	}
	f.Fuzz(func(t *testing.T, kind, fid, dir int, name string, to int, toName string, data []byte, version, id int) {
		r := api.Rec{Act: api.Act{Kind: kind, Fid: fid, Dir: dir, Name: name, To: to, ToName: toName, Data: data}, Version: version, ID: id}
		line, err := Print(r)
		expect, shown := api.OK, ""
		switch {
		case kind < 1 || kind > 5:
			expect = api.ErrKind
		case kind != 3 && !nameForm.MatchString(name), kind == 5 && !nameForm.MatchString(toName):
			expect = api.ErrName
		default:
			shown = lineOf(r)
		}
		if line != shown || err != expect {
			t.Fatalf("Print(%+v) = %q, %d, want %q, %d", r, line, err, shown, expect)
		}
		if err != api.OK {
			return
		}
		if kind == 3 {
			r.Act.Dir, r.Act.Name = 0, ""
		} else {
			r.Act.Data = nil
		}
		if kind != 5 {
			r.Act.To, r.Act.ToName = 0, ""
		}
		if back, err := Parse(line); tell(back) != tell(r) || err != api.OK {
			t.Fatalf("Parse(%q) = %+v, %d, want %+v", line, back, err, r)
		}
	})
}
