package client

import (
	"fmt"
	"testing"

	"longabsence/api"
	"longabsence/cache"
)

// Acts.
func makeAct(fid, in int, name string) api.Act {
	return api.Act{Kind: api.ActMake, Fid: fid, Dir: in, Name: name}
}

func dirAct(fid, in int, name string) api.Act {
	return api.Act{Kind: api.ActDir, Fid: fid, Dir: in, Name: name}
}

func storeAct(fid int, data string) api.Act {
	return api.Act{Kind: api.ActStore, Fid: fid, Data: []byte(data)}
}

func removeAct(fid, in int, name string) api.Act {
	return api.Act{Kind: api.ActRemove, Fid: fid, Dir: in, Name: name}
}

func renameAct(fid, in int, name string, to int, toName string) api.Act {
	return api.Act{Kind: api.ActRename, Fid: fid, Dir: in, Name: name, To: to, ToName: toName}
}

// mine are acts that client 1 did at the server.
func mine(as ...api.Act) []api.Past {
	var l []api.Past
	for _, a := range as {
		l = append(l, api.Past{Client: 1, Act: a})
	}
	return l
}

func rec(a api.Act, version, id int) api.Rec { return api.Rec{Act: a, Version: version, ID: id} }

// TestDoneHere: the server does it, as this client; what that changed is not kept any more, and nothing is logged.
func TestDoneHere(t *testing.T) {
	all := func(g *game, gone ...int) []api.Kept {
		var l []api.Kept
		for _, k := range g.c.Cache {
			if k.Node.Fid != gone[0] && k.Node.Fid != gone[len(gone)-1] {
				l = append(l, k)
			}
		}
		return l
	}
	for _, x := range []struct {
		step api.Step
		acts []api.Act
		gone []int
	}{
		{mkdir("/n"), []api.Act{dirAct(5, 0, "n")}, []int{0}},
		{mkdir("/d/n"), []api.Act{dirAct(5, 1, "n")}, []int{1}},
		{write("/f", "new"), []api.Act{storeAct(3, "new")}, []int{3}},
		{write("/d/g", ""), []api.Act{storeAct(2, "")}, []int{2}},
		{write("/f", "three"), []api.Act{storeAct(3, "three")}, []int{3}},
		{remove("/f"), []api.Act{removeAct(3, 0, "f")}, []int{0, 3}},
		{remove("/d/g"), []api.Act{removeAct(2, 1, "g")}, []int{1, 2}},
		{remove("/e"), []api.Act{removeAct(4, 0, "e")}, []int{0, 4}},
		{rename("/f", "/h"), []api.Act{renameAct(3, 0, "f", 0, "h")}, []int{0}},
		{rename("/f", "/f"), []api.Act{renameAct(3, 0, "f", 0, "f")}, []int{0}},
		{rename("/d/g", "/e/h"), []api.Act{renameAct(2, 1, "g", 4, "h")}, []int{1, 4}},
		{rename("/e", "/d/e"), []api.Act{renameAct(4, 0, "e", 1, "e")}, []int{0, 1}},
	} {
		g := holding(t, 5)
		g.does(x.step, api.Reply{})
		g.past(mine(x.acts...)...)
		before := holding(t, 5)
		left := all(before, x.gone...)
		want(t, fmt.Sprintf("how many are kept behind %+v", x.step), len(g.c.Cache), len(left))
		for i, k := range g.c.Cache {
			want(t, fmt.Sprintf("what is kept behind %+v", x.step), tell(k.Node, k.Dirty), tell(left[i].Node, false))
		}
		g.logs()
		g.counts(0, 0)
	}
}

// TestMadeHere: two acts; between them the path is walked anew, so that the file has the fid that the server gave it.
func TestMadeHere(t *testing.T) {
	g := fresh(t, 9)
	g.does(write("/d/n", "new"), api.Reply{})
	g.past(mine(makeAct(5, 1, "n"), storeAct(5, "new"))...)
	g.keeps(kept(rootNode, 0, 3), kept(dir(1, 7, "g", 2, "n", 5), 0, 4))
	g.clock(5)
	g.counts(0, 0)
	want(t, "the next fid", g.s.Next, 6)
	g.does(read("/d/n"), api.Reply{Data: []byte("new")})
	g.does(list("/d"), api.Reply{Data: []byte("g\nn\n")})
}

// refused are steps whose acts can't be done in the given tree, be it the server's or what is kept.
var refused = []struct {
	step  api.Step
	err   api.Errno
	looks int
}{
	{mkdir("/d"), api.ErrName, 1}, {mkdir("/d/g"), api.ErrName, 2}, {write("/d", "x"), api.ErrFile, 2}, {remove("/d"), api.ErrEmpty, 2},
	{rename("/f", "/d"), api.ErrName, 3}, {rename("/d", "/d/x"), api.ErrLoop, 4}, {rename("/e", "/e/x"), api.ErrLoop, 4}, {rename("/f", "/d/g"), api.ErrName, 4},
}

// TestRefusedHere: the server's errors, behind which all is as it was but what was looked at.
func TestRefusedHere(t *testing.T) {
	for _, x := range refused {
		g := holding(t, 5)
		g.fails(x.step, x.err, x.looks)
		want(t, fmt.Sprintf("how many are kept behind %+v", x.step), len(g.c.Cache), 5)
	}
	// Also what others made stale is kept still: nothing was done.
	g := holding(t, 5)
	g.other(makeAct(0, 0, "n"))
	g.fails(mkdir("/n"), api.ErrName, 1)
	want(t, "how many are kept", len(g.c.Cache), 5)
	g.fine(mkdir("/m"))
	want(t, "how many are kept then", len(g.c.Cache), 4)
}

// TestServerThatIsFull: of one's own acts, and of others that one did not see.
func TestServerThatIsFull(t *testing.T) {
	g := fresh(t, 9)
	g.fine(write("/1", ""), write("/2", ""), write("/3", ""))
	g.fails(write("/4", "x"), api.ErrMany, 1)
	g.fails(mkdir("/4"), api.ErrMany, 1)
	g.fails(rename("/d/g", "/4"), api.ErrMany, 4)
	g.fine(rename("/1", "/4"))
}

// TestMadeAway: a fid of its own, version -1, and what it changed is dirty.
func TestMadeAway(t *testing.T) {
	g := gone(t, 9)
	g.does(mkdir("/n"), api.Reply{})
	g.logs(rec(dirAct(-1, 0, "n"), -1, 1))
	root := dir(0, 5, "d", 1, "e", 4, "f", 3, "n", -1)
	g.keeps(dirty(root, 0, 8), kept(eNode, 0, 2), kept(fNode, 0, 4), kept(dNode, 0, 6), kept(gNode, 0, 7), dirty(dir(-1, 0), 0, 8))
	g.counts(1, 1)

	g.does(write("/d/m", "new"), api.Reply{})
	g.logs(rec(dirAct(-1, 0, "n"), -1, 1), rec(makeAct(-2, 1, "m"), -1, 2), rec(storeAct(-2, "new"), -1, 3))
	g.keeps(dirty(root, 0, 11), kept(eNode, 0, 2), kept(fNode, 0, 4), dirty(dir(1, 2, "g", 2, "m", -2), 0, 12), kept(gNode, 0, 7), dirty(dir(-1, 0), 0, 8), dirty(file(-2, 0, "new"), 0, 13))
	g.counts(2, 3)
	g.clock(13)

	g.does(mkdir("/n/k"), api.Reply{})
	want(t, "the last record", g.c.Log[3], rec(dirAct(-3, -1, "k"), -1, 4))
	g.does(list("/n"), api.Reply{Data: []byte("k\n")})
	g.does(read("/d/m"), api.Reply{Data: []byte("new")})
	want(t, "the server", g.s, given())
}

// TestStoredAway: the version that the node has at the server is what was seen, also once it is dirty.
func TestStoredAway(t *testing.T) {
	g := gone(t, 5)
	g.does(write("/f", "new"), api.Reply{})
	g.logs(rec(storeAct(3, "new"), 6, 1))
	g.keeps(kept(rootNode, 0, 8), kept(eNode, 0, 2), dirty(file(3, 6, "new"), 0, 9), kept(dNode, 0, 6), kept(gNode, 0, 7))
	g.counts(0, 1)
	g.does(write("/f", "newer"), api.Reply{})
	g.logs(rec(storeAct(3, "newer"), 6, 2))
	g.keeps(kept(rootNode, 0, 10), kept(eNode, 0, 2), dirty(file(3, 6, "newer"), 0, 11), kept(dNode, 0, 6), kept(gNode, 0, 7))
	g.counts(0, 2)
	// What is stored is dirty, though it be the same.
	g.does(write("/d/g", "two"), api.Reply{})
	g.logs(rec(storeAct(3, "newer"), 6, 2), rec(storeAct(2, "two"), 4, 3))
	g.keeps(kept(rootNode, 0, 12), kept(eNode, 0, 2), dirty(file(3, 6, "newer"), 0, 11), kept(dNode, 0, 13), dirty(gNode, 0, 14))
}

func TestRemovedAway(t *testing.T) {
	g := gone(t, 5)
	g.does(remove("/d/g"), api.Reply{})
	g.logs(rec(removeAct(2, 1, "g"), 4, 1))
	g.keeps(kept(rootNode, 0, 8), kept(eNode, 0, 2), kept(fNode, 0, 4), dirty(dir(1, 2), 0, 10))
	g.does(remove("/d"), api.Reply{})
	g.logs(rec(removeAct(2, 1, "g"), 4, 1), rec(removeAct(1, 0, "d"), 2, 2))
	g.keeps(dirty(dir(0, 5, "e", 4, "f", 3), 0, 12), kept(eNode, 0, 2), kept(fNode, 0, 4))
	g.counts(0, 2)
}

// TestUndoneAway: of what was made, and removed, the log has nothing; that they were logged is counted.
func TestUndoneAway(t *testing.T) {
	g := gone(t, 9)
	g.fine(write("/e/n", "new"), remove("/e/n"))
	g.logs()
	g.keeps(kept(rootNode, 0, 13), dirty(eNode, 0, 15), kept(fNode, 0, 4), kept(dNode, 0, 6), kept(gNode, 0, 7))
	g.counts(1, 3)
	g.fine(mkdir("/n"))
	g.logs(rec(dirAct(-2, 0, "n"), -1, 4))
	g.counts(2, 4)
	// Where the log needs it, it stays, of version -1.
	g.fine(mkdir("/n/k"), rename("/n/k", "/e/k"), remove("/e/k"))
	g.logs(rec(dirAct(-2, 0, "n"), -1, 4), rec(dirAct(-3, -2, "k"), -1, 5), rec(renameAct(-3, -2, "k", 4, "k"), -1, 6), rec(removeAct(-3, 4, "k"), -1, 7))
	g.counts(3, 7)
}

func TestRenamedAway(t *testing.T) {
	g := gone(t, 5)
	g.does(rename("/d/g", "/e/h"), api.Reply{})
	g.logs(rec(renameAct(2, 1, "g", 4, "h"), 4, 1))
	// Of the node itself nothing is changed.
	g.keeps(kept(rootNode, 0, 11), dirty(dir(4, 5, "h", 2), 0, 12), kept(fNode, 0, 4), dirty(dir(1, 2), 0, 12), kept(gNode, 0, 10))
	g.does(rename("/d", "/k"), api.Reply{})
	want(t, "the second record", g.c.Log[1], rec(renameAct(1, 0, "d", 0, "k"), 2, 2))
	g.keeps(dirty(dir(0, 5, "e", 4, "f", 3, "k", 1), 0, 15), dirty(dir(4, 5, "h", 2), 0, 12), kept(fNode, 0, 4), dirty(dir(1, 2), 0, 14), kept(gNode, 0, 10))
	g.counts(0, 2)
}

// TestRenamedToItsOwnName: that is logged, and no node is otherwise then.
func TestRenamedToItsOwnName(t *testing.T) {
	g := gone(t, 5)
	g.does(rename("/f", "/f"), api.Reply{})
	g.logs(rec(renameAct(3, 0, "f", 0, "f"), 6, 1))
	g.keeps(kept(rootNode, 0, 10), kept(eNode, 0, 2), kept(fNode, 0, 9), kept(dNode, 0, 6), kept(gNode, 0, 7))
	g.counts(0, 1)
}

// TestWorthStays: what is dirty is worth what it was worth.
func TestWorthStays(t *testing.T) {
	g := fresh(t, 9)
	g.fine(hoard("/f", 40), hoard("/d/g", 60), gather, leave, write("/f", "new"), remove("/d/g"))
	g.keeps(kept(rootNode, 60, 8), dirty(dir(1, 2), 60, 10), dirty(file(3, 6, "new"), 40, 7))
}

// TestRefusedAway: errors of what is kept, behind which all is as it was but what was looked at.
func TestRefusedAway(t *testing.T) {
	for _, x := range refused {
		g := gone(t, 9)
		g.fails(x.step, x.err, x.looks)
		g.counts(0, 0)
		g.fine(write("/e/n", "x"))
		g.fails(x.step, x.err, x.looks)
		g.counts(1, 2)
		want(t, "how many are kept", len(g.c.Cache), 6)
	}
	// What others did at the server is not known.
	g := gone(t, 9)
	g.other(makeAct(0, 0, "n"))
	g.fine(mkdir("/n"))
}

func TestDirectoryThatIsFullAway(t *testing.T) {
	g := gone(t, 20)
	g.fine(write("/1", ""), write("/2", ""), write("/3", ""))
	g.fails(write("/4", "x"), api.ErrMany, 1)
	g.fails(mkdir("/4"), api.ErrMany, 1)
	g.fails(rename("/d/g", "/4"), api.ErrMany, 4)
	g.fine(rename("/1", "/4"))
	g.counts(3, 7)
}

// TestLogThatIsFull: what can't be logged is not done; what makes the log no longer is.
func TestLogThatIsFull(t *testing.T) {
	g := gone(t, 9)
	g.fine(mkdir("/e/n"))
	for range 9 {
		g.fine(rename("/f", "/h"), rename("/h", "/f"))
	}
	g.fine(write("/f", "x"))
	want(t, "how many records there are", len(g.c.Log), api.MaxLog)
	g.counts(1, 20)
	before := Own(g.c)
	for _, x := range []struct {
		step  api.Step
		looks int
	}{
		{mkdir("/n"), 1}, {mkdir("/e/n/k"), 3}, {write("/n", "x"), 1}, {write("/d/g", "x"), 3}, {remove("/d/g"), 3}, {rename("/f", "/h"), 3},
	} {
		g.fails(x.step, api.ErrMany, x.looks)
		want(t, fmt.Sprintf("what is kept behind %+v", x.step), cache.Tree(g.c.Cache), cache.Tree(before.Cache))
		want(t, "what is not dirty", len(cache.Clean(g.c.Cache)), len(cache.Clean(before.Cache)))
	}
	g.fine(write("/f", "y"))
	want(t, "how many records there are", len(g.c.Log), api.MaxLog)
	g.counts(1, 21)
	g.fine(remove("/e/n"))
	want(t, "how many records there are", len(g.c.Log), api.MaxLog-1)
	g.counts(1, 22)
	g.fine(mkdir("/n"))
	g.fails(mkdir("/m"), api.ErrMany, 1)
	g.counts(2, 23)
}

// TestRoomAway: what is made takes the room of what is worth least.
func TestRoomAway(t *testing.T) {
	g := gone(t, 5)
	g.fine(write("/n", "x"))
	// Of /e, /f, /d and /d/g the first one was used least late.
	g.keeps(dirty(dir(0, 5, "d", 1, "e", 4, "f", 3, "n", -1), 0, 9), kept(fNode, 0, 4), kept(dNode, 0, 6), kept(gNode, 0, 7), dirty(file(-1, 0, "x"), 0, 10))
	g.fails(list("/e"), api.ErrAway, 2)
	// What is kept already needs no room.
	g.fine(write("/f", "x"), write("/d/g", "x"), rename("/d/g", "/d/h"))
	g.counts(1, 5)
}

// TestNoRoomAway: where nothing may go the act is not done.
func TestNoRoomAway(t *testing.T) {
	g := fresh(t, 3)
	g.fine(list("/d"), read("/f"), leave, write("/f", "x"), mkdir("/n"))
	root := dir(0, 5, "d", 1, "e", 4, "f", 3, "n", -1)
	g.keeps(dirty(root, 0, 7), dirty(file(3, 6, "x"), 0, 6), dirty(dir(-1, 0), 0, 7))
	for _, x := range []api.Step{mkdir("/m"), write("/m", "x")} {
		last := g.c.Clock
		g.fails(x, api.ErrMany, 1)
		g.keeps(dirty(root, 0, last+1), dirty(file(3, 6, "x"), 0, 6), dirty(dir(-1, 0), 0, 7))
	}
	g.counts(1, 2)
	g.fine(write("/f", "y"), remove("/n"), mkdir("/m"))
	g.counts(2, 5)
	g.logs(rec(storeAct(3, "y"), 6, 3), rec(dirAct(-2, 0, "m"), -1, 5))
}

// TestDirectoryThatMakesRoomForItsEntry: by fids rising what is made is kept ahead of the directory in which it is, which may go for it.
func TestDirectoryThatMakesRoomForItsEntry(t *testing.T) {
	g := fresh(t, 4)
	g.fine(hoard("/e", 5), hoard("/f", 5), gather, list("/d"), leave)
	g.keeps(kept(rootNode, 5, 5), kept(eNode, 5, 2), kept(fNode, 5, 4), kept(dNode, 0, 6))
	g.fine(mkdir("/d/n"))
	g.keeps(kept(rootNode, 5, 7), kept(fNode, 5, 4), dirty(dir(-1, 0), 0, 8), dirty(dir(1, 2, "g", 2, "n", -1), 0, 8))
	g.logs(rec(dirAct(-1, 1, "n"), -1, 1))

	// If none may go for the directory then, it is there still.
	g = fresh(t, 3)
	g.fine(read("/f"), list("/d"), leave, write("/f", "x"))
	g.fails(mkdir("/d/n"), api.ErrMany, 2)
	g.keeps(kept(rootNode, 0, 7), dirty(file(3, 6, "x"), 0, 6), kept(dNode, 0, 8))
	g.counts(0, 1)
}

// TestMadeAndNotReached: the making may cost a directory on the way; the file is made all the same, and logged.
func TestMadeAndNotReached(t *testing.T) {
	g := fresh(t, 4)
	g.fine(rename("/e", "/d/e"), read("/f"), list("/d/e"), leave, write("/f", "x"))
	last := g.c.Clock
	c, _, r := Do(g.c, g.s, write("/d/e/n", "new"))
	want(t, "the reply", r, api.Reply{Err: api.ErrAway})
	g.c = c
	g.keeps(dirty(dir(4, 5, "n", -1), 0, last+3), kept(dir(0, 7, "d", 1, "f", 3), 0, last+4), dirty(file(3, 6, "x"), 0, last), dirty(file(-1, 0, ""), 0, last+3))
	g.clock(last + 5)
	g.logs(rec(storeAct(3, "x"), 6, 1), rec(makeAct(-1, 4, "n"), -1, 2))
	g.counts(1, 2)
}
