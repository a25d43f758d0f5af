package wire

import (
	"testing"

	"longabsence/api"
)

// roomy is records whose data have spare room, all of it filled, behind which spare records stand.
func roomy() []api.Rec {
	l := make([]api.Rec, 0, 8)
	for kind := api.ActMake; kind <= api.ActRename; kind++ {
		r := everyField(kind)
		r.Act.Data = append([]byte("hi"), "spare"...)[:2]
		l = append(l, r)
	}
	empty := everyField(api.ActStore)
	empty.Act.Data = []byte("spare")[:0]
	l = append(l, empty)
	spare := l[len(l):cap(l)]
	for i := range spare {
		spare[i] = everyField(9)
		spare[i].Act.Data = []byte("spare")
	}
	return l
}

// whole tells records with their spare room.
func whole(l []api.Rec) string {
	out := tell(len(l))
	for _, r := range l[:cap(l)] {
		out += tell(r, r.Act.Data[:cap(r.Act.Data)])
	}
	return out
}

func TestArgumentsAreOnlyRead(t *testing.T) {
	l := roomy()
	before := whole(l)
	s, err := Text(l)
	expect := "make 1 2 3 4 a\ndir 1 2 3 4 a\nstore 1 2 3 6869\nremove 1 2 3 4 a\nrename 1 2 3 4 a 5 b2\nstore 1 2 3 -\n"
	if s != expect || err != api.OK {
		t.Errorf("Text = %q, %d, want %q", s, err, expect)
	}
	for _, r := range l {
		Print(r)
	}
	l[1].Act.Name = "A"
	if _, err := Text(l); err != api.ErrName {
		t.Errorf("Text tells %d, want ErrName", err)
	}
	l[1].Act.Name = "a"
	if whole(l) != before {
		t.Error("Text or Print changes what it was handed")
	}
}

// TestAnswersShareNothing: the data of one record may be changed, and more put behind it, and all else stays.
func TestAnswersShareNothing(t *testing.T) {
	const line = "store 1 2 3 6869"
	text := line + "\n" + line + "\n" + line + "\n"
	l, _ := Log(text)
	again, _ := Log(text)
	one, _ := Parse(line)
	expect := tell(l[1:], again, one)
	l[0].Act.Data[0] = '!'
	_ = append(l[0].Act.Data, "and much more than that"...)
	_ = append(l[:1:1], everyField(9))
	if tell(l[1:], again, one) != expect {
		t.Errorf("what is answered shares memory: %+v, %+v, %+v", l, again, one)
	}
}
