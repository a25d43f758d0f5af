package tree

import (
	"bytes"
	"fmt"
	"math"
	"slices"
	"testing"

	"longabsence/api"
)

// sample is a tree with fids below and above the root's, a name that leads to what is not there, and versions.
func sample() []api.Node {
	return []api.Node{
		{Fid: -2, Data: []byte("x")},
		{Fid: 0, Dir: true, Entries: []api.Entry{{Name: "a", Fid: 3}, {Name: "m", Fid: 5}, {Name: "z", Fid: -2}}, Version: 7},
		{Fid: 3, Data: []byte("yy"), Version: 4},
		{Fid: 5, Dir: true, Entries: []api.Entry{{Name: "d", Fid: 6}, {Name: "q", Fid: 77}}, Version: 2},
		{Fid: 6, Dir: true},
	}
}

// tell shows lists without entries alike, nil or not.
func tell(x ...any) string { return fmt.Sprintf("%+v", x) }

func want(t *testing.T, what string, got, want any) {
	t.Helper()
	if tell(got) != tell(want) {
		t.Errorf("%s = %+v, want %+v", what, got, want)
	}
}

func fids(l []api.Node) []int {
	var out []int
	for _, n := range l {
		out = append(out, n.Fid)
	}
	return out
}

func TestNewIsTheEmptyRoot(t *testing.T) {
	want(t, "New()", New(), []api.Node{{Fid: 0, Dir: true, Version: 0}})
	first := New()
	first[0] = api.Node{Fid: 9, Version: 9}
	want(t, "New() again", New(), []api.Node{{Fid: api.Root, Dir: true}})
}

func TestOwnIsAlike(t *testing.T) {
	for _, l := range [][]api.Node{nil, {}, New(), sample()} {
		want(t, "Own", Own(l), l)
	}
}

func TestFind(t *testing.T) {
	l := sample()
	for _, n := range l {
		got, ok := Find(l, n.Fid)
		if !ok {
			t.Errorf("Find(%d) finds nothing", n.Fid)
		}
		want(t, "Find", got, n)
	}
	for _, fid := range []int{math.MinInt, -3, -1, 1, 2, 4, 7, 77, math.MaxInt} {
		if n, ok := Find(l, fid); ok || tell(n) != tell(api.Node{}) {
			t.Errorf("Find(%d) = %+v, %v, want nothing", fid, n, ok)
		}
	}
	for _, l := range [][]api.Node{nil, {}} {
		if n, ok := Find(l, api.Root); ok || tell(n) != tell(api.Node{}) {
			t.Errorf("Find in the empty tree = %+v, %v, want nothing", n, ok)
		}
	}
}

func TestPutKeepsFidsRising(t *testing.T) {
	cases := []struct {
		fid  int
		want []int
	}{
		{math.MinInt, []int{math.MinInt, -2, 0, 3, 5, 6}},
		{-3, []int{-3, -2, 0, 3, 5, 6}},
		{-1, []int{-2, -1, 0, 3, 5, 6}},
		{4, []int{-2, 0, 3, 4, 5, 6}},
		{7, []int{-2, 0, 3, 5, 6, 7}},
		{math.MaxInt, []int{-2, 0, 3, 5, 6, math.MaxInt}},
	}
	for _, c := range cases {
		n := api.Node{Fid: c.fid, Data: []byte("new"), Version: 8}
		l := Put(sample(), n)
		want(t, "fids", fids(l), c.want)
		got, ok := Find(l, c.fid)
		want(t, "Find behind Put", []any{got, ok}, []any{n, true})
		want(t, "the others", Drop(l, c.fid), sample())
	}
}

func TestPutInThePlaceOfItsFid(t *testing.T) {
	for i, old := range sample() {
		n := api.Node{Fid: old.Fid, Dir: !old.Dir, Data: []byte("new"), Entries: []api.Entry{{Name: "e", Fid: 1}}, Version: 8}
		expect := sample()
		expect[i] = n
		want(t, "Put", Put(sample(), n), expect)
	}
}

func TestPutIntoTheEmptyTree(t *testing.T) {
	n := api.Node{Fid: 4, Data: []byte("one")}
	for _, l := range [][]api.Node{nil, {}} {
		want(t, "Put", Put(l, n), []api.Node{n})
		want(t, "Put of nothing", Put(l, api.Node{}), []api.Node{{}})
	}
}

func TestDrop(t *testing.T) {
	for i, n := range sample() {
		want(t, "Drop", Drop(sample(), n.Fid), slices.Delete(sample(), i, i+1))
	}
	for _, fid := range []int{math.MinInt, -3, 1, 77, math.MaxInt} {
		want(t, "Drop of what is not there", Drop(sample(), fid), sample())
	}
	want(t, "Drop of nil", len(Drop(nil, 0)), 0)
	want(t, "Drop of the empty tree", len(Drop([]api.Node{}, 0)), 0)
	want(t, "Drop of the root alone", len(Drop(New(), api.Root)), 0)
}

func TestEntry(t *testing.T) {
	root := sample()[1]
	for _, e := range root.Entries {
		if fid, ok := Entry(root, e.Name); !ok || fid != e.Fid {
			t.Errorf("Entry(%q) = %d, %v, want %d, true", e.Name, fid, ok, e.Fid)
		}
	}
	for _, name := range []string{"", "0", "A", "aa", "b", "mm", "y", "zz", "/", "\xff"} {
		if fid, ok := Entry(root, name); ok || fid != 0 {
			t.Errorf("Entry(%q) = %d, %v, want 0, false", name, fid, ok)
		}
	}
	for _, n := range []api.Node{{}, {Dir: true}, {Dir: true, Entries: []api.Entry{}}} {
		if fid, ok := Entry(n, "a"); ok || fid != 0 {
			t.Errorf("Entry of a node without any = %d, %v, want 0, false", fid, ok)
		}
	}
	empty := Enter(api.Node{Dir: true}, "", 4)
	if fid, ok := Entry(empty, ""); !ok || fid != 4 {
		t.Errorf("Entry of the empty text, which is entered, = %d, %v, want 4, true", fid, ok)
	}
}

func TestEnterKeepsNamesRising(t *testing.T) {
	// Byte by byte: digits, then capitals, then small ones; a beginning ahead of what it begins.
	order := []string{"", "0", "9", "A", "a", "a0", "aa", "b", "m", "z", "zz", "ä", "\xff"}
	ways := [][]string{order, slices.Clone(order), {"m", "a", "zz", "", "\xff", "b", "aa", "0", "z", "A", "9", "ä", "a0"}}
	slices.Reverse(ways[1])
	for _, way := range ways {
		n := api.Node{Fid: 2, Dir: true, Data: []byte("data"), Version: 3}
		for _, name := range way {
			n = Enter(n, name, len(name)-1)
		}
		expect := api.Node{Fid: 2, Dir: true, Data: []byte("data"), Version: 3}
		for _, name := range order {
			expect.Entries = append(expect.Entries, api.Entry{Name: name, Fid: len(name) - 1})
		}
		want(t, "Enter, one by one", n, expect)
	}
}

func TestEnterOfANameThatIsThere(t *testing.T) {
	root := sample()[1]
	for i, e := range root.Entries {
		expect := sample()[1]
		expect.Entries[i].Fid = 9
		want(t, "Enter", Enter(root, e.Name, 9), expect)
		want(t, "Enter, and back", Enter(Enter(root, e.Name, 9), e.Name, e.Fid), root)
	}
}

func TestLeave(t *testing.T) {
	root := sample()[1]
	for i, e := range root.Entries {
		expect := sample()[1]
		expect.Entries = slices.Delete(expect.Entries, i, i+1)
		want(t, "Leave", Leave(root, e.Name), expect)
		want(t, "Leave, and Enter", Enter(Leave(root, e.Name), e.Name, e.Fid), root)
	}
	for _, name := range []string{"", "A", "aa", "b", "zz", "\xff"} {
		want(t, "Leave of a name that is not there", Leave(root, name), root)
	}
	file := api.Node{Fid: 3, Data: []byte("y"), Version: 4}
	want(t, "Leave of a node without entries", Leave(file, "a"), file)
}

func TestSameOfTheSame(t *testing.T) {
	if !Same(sample(), sample()) || !Same(New(), New()) {
		t.Error("a tree is not the Same as itself")
	}
	if !Same(nil, []api.Node{}) || !Same([]api.Node{}, nil) || !Same(nil, nil) {
		t.Error("empty trees are not the Same")
	}
	none := []api.Node{{Fid: 1, Data: nil, Entries: nil}}
	empty := []api.Node{{Fid: 1, Data: []byte{}, Entries: []api.Entry{}}}
	if !Same(none, empty) || !Same(empty, none) {
		t.Error("nil and lists without entries are not the Same")
	}
}

func TestSameLooksAtNoVersions(t *testing.T) {
	for i := range sample() {
		other := sample()
		other[i].Version += 99
		if !Same(sample(), other) || !Same(other, sample()) {
			t.Errorf("trees that differ in the Version of number %d alone are not the Same", i)
		}
	}
}

func TestSameLooksAtAllElse(t *testing.T) {
	changes := []func(n *api.Node){
		func(n *api.Node) { n.Fid += 1000 },
		func(n *api.Node) { n.Dir = !n.Dir },
		func(n *api.Node) { n.Data = append(n.Data, 0) },
		func(n *api.Node) { n.Data = append([]byte("w"), n.Data...) },
		func(n *api.Node) { *n = Enter(*n, "new", 1) },
		func(n *api.Node) { n.Version, n.Data = 99, []byte("other") },
	}
	for i := range sample() {
		for k, change := range changes {
			other := sample()
			change(&other[i])
			differ(t, fmt.Sprintf("change %d of number %d", k, i), sample(), other)
		}
		differ(t, fmt.Sprintf("number %d is gone", i), sample(), slices.Delete(sample(), i, i+1))
	}
	renamed, led, left := sample(), sample(), sample()
	renamed[1].Entries[2].Name = "y"
	led[1].Entries[2].Fid = 3
	left[1].Entries = left[1].Entries[1:]
	differ(t, "another name", sample(), renamed)
	differ(t, "another fid", sample(), led)
	differ(t, "a name less", sample(), left)
	differ(t, "a root, and nothing", New(), nil)
	short := sample()
	short[2].Data = short[2].Data[:1]
	differ(t, "fewer bytes", sample(), short)
}

func differ(t *testing.T, what string, a, b []api.Node) {
	t.Helper()
	if Same(a, b) || Same(b, a) {
		t.Errorf("%s: Same, and should not be", what)
	}
}

func TestWalk(t *testing.T) {
	cases := []struct {
		names []string
		fid   int
		err   api.Errno
	}{
		{nil, 0, api.OK},
		{[]string{}, 0, api.OK},
		{[]string{"a"}, 3, api.OK},
		{[]string{"m"}, 5, api.OK},
		{[]string{"z"}, -2, api.OK},
		{[]string{"m", "d"}, 6, api.OK},
		{[]string{"m", "q"}, 77, api.OK}, // the last one may lead to what is not there
		{[]string{"m", "q", "x"}, 0, api.ErrAway},
		{[]string{"m", "q", ""}, 0, api.ErrAway},
		{[]string{"a", "x"}, 0, api.ErrDir},
		{[]string{"z", "x", "y"}, 0, api.ErrDir},
		{[]string{"b"}, 0, api.ErrNone},
		{[]string{""}, 0, api.ErrNone},
		{[]string{"/"}, 0, api.ErrNone},
		{[]string{"b", "a"}, 0, api.ErrNone},
		{[]string{"m", "b"}, 0, api.ErrNone},
		{[]string{"m", "d", "d"}, 0, api.ErrNone},
		{[]string{"m", ""}, 0, api.ErrNone},
	}
	for _, c := range cases {
		if fid, err := Walk(sample(), c.names); fid != c.fid || err != c.err {
			t.Errorf("Walk(%q) = %d, %d, want %d, %d", c.names, fid, err, c.fid, c.err)
		}
	}
}

func TestWalkWithoutARoot(t *testing.T) {
	file := []api.Node{{Fid: 0, Entries: []api.Entry{{Name: "a", Fid: 3}}}}
	cases := []struct {
		l     []api.Node
		names []string
		err   api.Errno
	}{
		{nil, nil, api.OK},
		{[]api.Node{}, []string{"a"}, api.ErrAway},
		{sample()[2:], nil, api.OK},
		{sample()[2:], []string{"a"}, api.ErrAway},
		{sample()[2:], []string{"none"}, api.ErrAway},
		{file, nil, api.OK},
		{file, []string{"a"}, api.ErrDir}, // though it has that name
		{file, []string{"b"}, api.ErrDir}, // ahead of ErrNone
	}
	for _, c := range cases {
		if fid, err := Walk(c.l, c.names); fid != 0 || err != c.err {
			t.Errorf("Walk(%+v, %q) = %d, %d, want 0, %d", c.l, c.names, fid, err, c.err)
		}
	}
}

func TestWalkTellsTheFirstErrorOnTheWay(t *testing.T) {
	l := Put(sample(), Enter(sample()[1], "gone", 88))
	for _, c := range []struct {
		names []string
		err   api.Errno
	}{
		{[]string{"none", "gone", "x"}, api.ErrNone},
		{[]string{"a", "gone", "x"}, api.ErrDir},
		{[]string{"gone", "a", "x"}, api.ErrAway},
	} {
		if fid, err := Walk(l, c.names); fid != 0 || err != c.err {
			t.Errorf("Walk(%q) = %d, %d, want 0, %d", c.names, fid, err, c.err)
		}
	}
}

func TestWalkInARing(t *testing.T) {
	l := []api.Node{{Fid: 0, Dir: true, Entries: []api.Entry{{Name: "a", Fid: 1}}}, {Fid: 1, Dir: true, Entries: []api.Entry{{Name: "a", Fid: 0}}}}
	if fid, err := Walk(l, slices.Repeat([]string{"a"}, 1001)); fid != 1 || err != api.OK {
		t.Errorf("Walk = %d, %d, want 1, OK", fid, err)
	}
}

func TestWithin(t *testing.T) {
	reached := map[int][]int{ // from which one: which ones
		-3: {-3}, -2: {-2}, 0: {-2, 0, 3, 5, 6, 77}, 1: {1}, 3: {3}, 5: {5, 6, 77}, 6: {6}, 77: {77},
	}
	for in, l := range reached {
		for fid := -4; fid < 80; fid++ {
			if got := Within(sample(), fid, in); got != slices.Contains(l, fid) {
				t.Errorf("Within(%d, %d) = %v", fid, in, got)
			}
		}
	}
}

func TestWithinTheEmptyTree(t *testing.T) {
	for _, l := range [][]api.Node{nil, {}} {
		for _, fid := range []int{math.MinInt, -1, 0, 1, math.MaxInt} {
			if !Within(l, fid, fid) {
				t.Errorf("Within(%d, %d) is false, though that is it", fid, fid)
			}
			if Within(l, fid, 5) {
				t.Errorf("Within(%d, 5) is true in the empty tree", fid)
			}
		}
	}
}

func TestWithinRingsEnds(t *testing.T) {
	ring := []api.Node{
		{Fid: 1, Dir: true, Entries: []api.Entry{{Name: "a", Fid: 1}, {Name: "b", Fid: 2}}},
		{Fid: 2, Dir: true, Entries: []api.Entry{{Name: "a", Fid: 3}}},
		{Fid: 3, Dir: true, Entries: []api.Entry{{Name: "a", Fid: 1}, {Name: "b", Fid: 2}, {Name: "c", Fid: 9}}},
		{Fid: 4, Dir: true, Entries: []api.Entry{{Name: "a", Fid: 1}}},
	}
	for _, in := range []int{1, 2, 3} {
		for fid, expect := range map[int]bool{0: false, 1: true, 2: true, 3: true, 4: false, 9: true} {
			if Within(ring, fid, in) != expect {
				t.Errorf("Within(%d, %d) = %v", fid, in, !expect)
			}
		}
	}
}

func TestWithinAManyfoldTreeEnds(t *testing.T) {
	// Each node leads twice to the next one: gone through way by way, these would be 2 to the 60th.
	var l []api.Node
	for fid := range 60 {
		l = append(l, api.Node{Fid: fid, Dir: true, Entries: []api.Entry{{Name: "a", Fid: fid + 1}, {Name: "b", Fid: fid + 1}}})
	}
	if !Within(l, 60, 0) || Within(l, 61, 0) || Within(l, 0, 1) {
		t.Error("Within answers wrongly")
	}
}

func TestDeepTree(t *testing.T) {
	const deep = 1 << 16
	var l []api.Node
	for fid := range deep {
		l = append(l, api.Node{Fid: fid, Dir: true, Entries: []api.Entry{{Name: "a", Fid: fid + 1}}})
	}
	if fid, err := Walk(l, slices.Repeat([]string{"a"}, deep)); fid != deep || err != api.OK {
		t.Errorf("Walk = %d, %d, want %d, OK", fid, err, deep)
	}
	if _, err := Walk(l, slices.Repeat([]string{"a"}, deep+1)); err != api.ErrAway {
		t.Errorf("Walk tells %d, want ErrAway", err)
	}
	if !Within(l, deep, 0) || Within(l, deep+1, 0) || Within(l, 0, 1) {
		t.Error("Within answers wrongly")
	}
}

func TestMoreThanTheLimitsOfActs(t *testing.T) {
	// The limits of trees are asked for by acts, not here.
	l, root := New(), New()[0]
	for fid := 1; fid <= 2*api.MaxNodes; fid++ {
		l = Put(l, api.Node{Fid: fid, Data: make([]byte, 2*api.MaxData)})
		root = Enter(root, fmt.Sprintf("name%08d", fid), fid)
	}
	l = Put(l, root)
	if len(l) != 2*api.MaxNodes+1 || len(l[0].Entries) != 2*api.MaxNodes || len(l[1].Data) != 2*api.MaxData {
		t.Error("something is missing")
	}
}

// roomy is l with spare room behind each list, all of it filled.
func roomy(l []api.Node) []api.Node {
	out := make([]api.Node, 0, len(l)+3)
	for _, n := range l {
		out = append(out, roomyNode(n))
	}
	spare := out[len(out):cap(out)]
	for i := range spare {
		spare[i] = api.Node{Fid: 1000 + i, Data: []byte("spare"), Version: 5}
	}
	return out
}

func roomyNode(n api.Node) api.Node {
	data := append(slices.Clone(n.Data), "spare"...)
	entries := append(slices.Clone(n.Entries), api.Entry{Name: "zzz", Fid: 1}, api.Entry{Name: "zzzz", Fid: 2})
	n.Data, n.Entries = data[:len(n.Data)], entries[:len(n.Entries)]
	return n
}

// whole tells lists with their spare room.
func whole(l []api.Node) string {
	out := tell(len(l))
	for _, n := range l[:cap(l)] {
		out += tell(n, n.Data[:cap(n.Data)], n.Entries[:cap(n.Entries)])
	}
	return out
}

// spoil changes lists and their spare room.
func spoil(l []api.Node) {
	l = l[:cap(l)]
	for i := range l {
		d, e := l[i].Data, l[i].Entries
		for k := range d[:cap(d)] {
			d[:cap(d)][k] = '!'
		}
		for k := range e[:cap(e)] {
			e[:cap(e)][k] = api.Entry{Name: "!", Fid: -99}
		}
		l[i] = api.Node{Fid: -99, Version: -99}
	}
}

// changers are all calls that answer nodes, given a tree and a node.
func changers() map[string]func(l []api.Node, n api.Node) []api.Node {
	one := func(n api.Node, _ bool) []api.Node { return []api.Node{n} }
	return map[string]func(l []api.Node, n api.Node) []api.Node{
		"Own":        func(l []api.Node, n api.Node) []api.Node { return Own(l) },
		"Find first": func(l []api.Node, n api.Node) []api.Node { return one(Find(l, -2)) },
		"Find root":  func(l []api.Node, n api.Node) []api.Node { return one(Find(l, 0)) },
		"Find last":  func(l []api.Node, n api.Node) []api.Node { return one(Find(l, 6)) },
		"Find none":  func(l []api.Node, n api.Node) []api.Node { return one(Find(l, 77)) },
		"Put":        Put,
		"Put first":  func(l []api.Node, n api.Node) []api.Node { n.Fid = -5; return Put(l, n) },
		"Put there":  func(l []api.Node, n api.Node) []api.Node { n.Fid = 3; return Put(l, n) },
		"Put last":   func(l []api.Node, n api.Node) []api.Node { n.Fid = 500; return Put(l, n) },
		"Drop first": func(l []api.Node, n api.Node) []api.Node { return Drop(l, -2) },
		"Drop last":  func(l []api.Node, n api.Node) []api.Node { return Drop(l, 6) },
		"Drop none":  func(l []api.Node, n api.Node) []api.Node { return Drop(l, 1000) },
		"Enter":      func(l []api.Node, n api.Node) []api.Node { return one(Enter(n, "new", 1), true) },
		"Enter last": func(l []api.Node, n api.Node) []api.Node { return one(Enter(n, "zz", 1), true) },
		"Enter had":  func(l []api.Node, n api.Node) []api.Node { return one(Enter(n, "a", 1), true) },
		"Leave":      func(l []api.Node, n api.Node) []api.Node { return one(Leave(n, "a"), true) },
		"Leave last": func(l []api.Node, n api.Node) []api.Node { return one(Leave(n, "z"), true) },
		"Leave none": func(l []api.Node, n api.Node) []api.Node { return one(Leave(n, "zzz"), true) },
	}
}

func TestArgumentsAreOnlyReadAndNotKept(t *testing.T) {
	for what, call := range changers() {
		node := sample()[1]
		node.Fid, node.Data = 4, []byte("data")
		expect := tell(call(sample(), node))

		l, n := roomy(sample()), []api.Node{roomyNode(node)}
		before := whole(l) + whole(n)
		got := call(l, n[0])
		if tell(got) != expect {
			t.Errorf("%s: spare room changes the answer: %+v, want %s", what, got, expect)
		}
		if whole(l)+whole(n) != before {
			t.Errorf("%s changes what it was handed", what)
		}
		spoil(l)
		spoil(n)
		if tell(got) != expect {
			t.Errorf("%s: the answer hangs on what was handed in", what)
		}

		l, n = roomy(sample()), []api.Node{roomyNode(node)}
		spoil(call(l, n[0]))
		if whole(l)+whole(n) != before {
			t.Errorf("%s: what was handed in hangs on the answer", what)
		}
	}
}

func TestListsOfAnAnswerShareNothing(t *testing.T) {
	data, entries := []byte("both"), []api.Entry{{Name: "a", Fid: 1}}
	l := Own([]api.Node{{Fid: 1, Data: data, Entries: entries}, {Fid: 2, Data: data, Entries: entries}})
	spoil(l[:1:1])
	want(t, "the second node", l[1], api.Node{Fid: 2, Data: []byte("both"), Entries: []api.Entry{{Name: "a", Fid: 1}}})
}

func TestAskingChangesNothing(t *testing.T) {
	l, m := roomy(sample()), roomy(sample())
	before := whole(l) + whole(m)
	names := []string{"m", "q", "spare", "room"}
	for _, p := range [][]string{names[:0], names[:1], names[:2], names[:3]} {
		Walk(l, p)
	}
	Same(l, m)
	Same(l, m[1:])
	Within(l, 77, 0)
	Within(l, 1000, 0)
	Entry(l[1], "a")
	Entry(l[1], "zzz")
	if whole(l)+whole(m) != before || !slices.Equal(names, []string{"m", "q", "spare", "room"}) {
		t.Error("an argument was changed")
	}
}

func TestSpareRoomIsNotLookedAt(t *testing.T) {
	l := roomy(sample())
	if _, ok := Find(l, 1000); ok {
		t.Error("Find looks at spare room")
	}
	if _, ok := Entry(l[1], "zzz"); ok {
		t.Error("Entry looks at spare room")
	}
	if !Same(l, sample()) || !Same(sample(), l) {
		t.Error("Same looks at spare room")
	}
	if Within(l, 1, 0) {
		t.Error("Within looks at spare room")
	}
	if _, err := Walk(l, []string{"zzz"}); err != api.ErrNone {
		t.Error("Walk looks at spare room")
	}
}

func TestListsThatAreNoTreesEndWithoutPanic(t *testing.T) {
	e := []api.Entry{{Name: "z", Fid: 0}, {Name: "a", Fid: 9}, {Name: "a", Fid: 0}}
	l := []api.Node{{Fid: 9, Dir: true, Entries: e}, {Fid: 0, Dir: true, Entries: e}, {Fid: 0, Entries: e}, {Fid: -1, Dir: true, Entries: e}}
	for fid := -2; fid < 11; fid++ {
		Find(l, fid)
		Put(l, api.Node{Fid: fid, Entries: e})
		if slices.Contains(fids(Drop(l, fid)), fid) {
			t.Errorf("Drop(%d) leaves one", fid)
		}
		for in := -2; in < 11; in++ {
			Within(l, fid, in)
		}
	}
	for _, name := range []string{"", "a", "b", "z", "zz"} {
		Entry(l[0], name)
		Enter(l[0], name, 1)
		if n := Leave(l[0], name); slices.ContainsFunc(n.Entries, func(e api.Entry) bool { return e.Name == name }) {
			t.Errorf("Leave(%q) leaves one", name)
		}
		Walk(l, []string{name, name})
	}
	Same(l, Own(l))
}

// FuzzTree holds trees against maps: what was put last is there, by fids and names that rise, and nothing else.
func FuzzTree(f *testing.F) {
	f.Add([]byte{})
	f.Add([]byte{0, 5, 0, 254, 0, 3, 0, 5, 1, 3, 2, 5, 3, 5, 2, 0, 1, 5})
	f.Fuzz(func(t *testing.T, s []byte) {
		l, at := New(), map[int]map[string]int{0: {}}
		for k := 0; k+1 < len(s) && k < 400; k += 2 {
			fid, name := int(int8(s[k+1]))%8, string(rune('a'+s[k+1]%5))
			switch s[k] % 4 {
			case 0:
				l, at[fid] = Put(l, api.Node{Fid: fid, Dir: true}), map[string]int{}
			case 1:
				l = Drop(l, fid)
				delete(at, fid)
			default:
				n, ok := Find(l, int(s[k]/4)%8)
				if !ok {
					continue
				}
				if s[k]%4 == 2 {
					l, at[n.Fid][name] = Put(l, Enter(n, name, fid)), fid
				} else {
					l = Put(l, Leave(n, name))
					delete(at[n.Fid], name)
				}
			}
		}
		hold(t, l, at)
	})
}

func hold(t *testing.T, l []api.Node, at map[int]map[string]int) {
	if len(l) != len(at) || !slices.IsSorted(fids(l)) {
		t.Fatalf("the fids are %v, want those of %v, rising", fids(l), at)
	}
	for fid := -9; fid < 10; fid++ {
		n, ok := Find(l, fid)
		if _, there := at[fid]; ok != there || len(n.Entries) != len(at[fid]) {
			t.Fatalf("Find(%d) = %+v, %v, want %v", fid, n, ok, at[fid])
		}
		if !slices.IsSortedFunc(n.Entries, func(a, b api.Entry) int { return bytes.Compare([]byte(a.Name), []byte(b.Name)) }) {
			t.Fatalf("the names of %+v do not rise", n)
		}
		for _, name := range []string{"a", "b", "c", "d", "e"} {
			to, ok := Entry(n, name)
			if expect, there := at[fid][name]; ok != there || to != expect {
				t.Fatalf("Entry(%d, %q) = %d, %v, want %d, %v", fid, name, to, ok, expect, there)
			}
		}
		holdWithin(t, l, at, fid)
	}
}

// holdWithin holds Within against rounds that add what is reached until nothing is new.
func holdWithin(t *testing.T, l []api.Node, at map[int]map[string]int, in int) {
	reached := map[int]bool{in: true}
	for range 20 {
		for _, fid := range []int{-9, -8, -7, -6, -5, -4, -3, -2, -1, 0, 1, 2, 3, 4, 5, 6, 7, 8, 9} {
			for _, to := range at[fid] {
				reached[to] = reached[to] || reached[fid]
			}
		}
	}
	for fid := -9; fid < 10; fid++ {
		if Within(l, fid, in) != reached[fid] {
			t.Fatalf("Within(%d, %d) = %v in %+v", fid, in, !reached[fid], l)
		}
	}
}
