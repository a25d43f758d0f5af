package client

import (
	"strings"
	"testing"

	"longabsence/api"
)

// TestLookedAtWhereItIsNotKept: of the server; it comes last, worth what the path is, and its Last is Clock.
func TestLookedAtWhereItIsNotKept(t *testing.T) {
	g := fresh(t, 9)
	g.does(read("/f"), api.Reply{Data: []byte("three")})
	g.keeps(kept(rootNode, 0, 1), kept(fNode, 0, 2))
	g.does(read("/d/g"), api.Reply{Data: []byte("two")})
	g.keeps(kept(rootNode, 0, 3), kept(fNode, 0, 2), kept(dNode, 0, 4), kept(gNode, 0, 5))
	g.clock(5)
	want(t, "the server", g.s, given())
}

func TestLookedAtForAWorth(t *testing.T) {
	g := fresh(t, 9)
	g.fine(hoard("/f", 30))
	g.does(gather, api.Reply{N: 1})
	g.keeps(kept(rootNode, 30, 1), kept(fNode, 30, 2))
	// Worth less, nothing is: it is used later, that is all.
	g.fine(hoard("/f", 20), gather)
	g.keeps(kept(rootNode, 30, 3), kept(fNode, 30, 4))
	g.fine(read("/f"))
	g.keeps(kept(rootNode, 30, 5), kept(fNode, 30, 6))
	g.fine(hoard("/f", 31), gather)
	g.keeps(kept(rootNode, 31, 7), kept(fNode, 31, 8))
	g.fine(hoard("/d", 100), gather)
	g.keeps(kept(rootNode, 100, 11), kept(fNode, 31, 12), kept(dNode, 100, 10))
}

// TestLookedAtWhereItIsKept: nobody is asked, also here.
func TestLookedAtWhereItIsKept(t *testing.T) {
	for _, away := range []bool{false, true} {
		g := holding(t, 5)
		g.c.Away = away
		// What only the server has is not seen.
		g.other(api.Act{Kind: api.ActStore, Fid: 3, Data: []byte("new")})
		g.does(read("/f"), api.Reply{Data: []byte("three")})
		g.keeps(kept(rootNode, 0, 8), kept(eNode, 0, 2), kept(fNode, 0, 9), kept(dNode, 0, 6), kept(gNode, 0, 7))
		g.does(list("/"), api.Reply{Data: []byte("d\ne\nf\n")})
		g.clock(10)
	}
}

// TestAwayNobodyIsAsked: what is not kept can't be looked at, though that counts.
func TestAwayNobodyIsAsked(t *testing.T) {
	g := fresh(t, 9)
	g.fine(leave)
	g.fails(read("/"), api.ErrAway, 1)
	g.fails(list("/"), api.ErrAway, 1)
	g.keeps()
	g.fine(back, list("/"), leave)
	g.keeps(kept(rootNode, 0, 3))
	g.fails(read("/f"), api.ErrAway, 2)
	g.fails(read("/d/g"), api.ErrAway, 2)
	g.fails(read("/n"), api.ErrNone, 1)
	g.does(list("/"), api.Reply{Data: []byte("d\ne\nf\n")})
	g.keeps(kept(rootNode, 0, 9))
}

// TestLookedAtWhereTheServerHasNoSuchNode: a directory that is kept may lead to what others removed.
func TestLookedAtWhereTheServerHasNoSuchNode(t *testing.T) {
	g := fresh(t, 9)
	g.fine(list("/"))
	g.other(api.Act{Kind: api.ActRemove, Fid: 3, Dir: 0, Name: "f"})
	g.fails(read("/f"), api.ErrNone, 2)
	g.fails(remove("/f"), api.ErrNone, 2)
	g.fails(write("/f", "x"), api.ErrNone, 2)
	g.fails(rename("/f", "/h"), api.ErrNone, 2)
	g.fails(read("/f/x"), api.ErrNone, 2)
	g.keeps(kept(rootNode, 0, 10))
}

// TestLookedAtWhereThereIsNoRoom: it is read all the same, and not kept.
func TestLookedAtWhereThereIsNoRoom(t *testing.T) {
	for _, room := range []int{-1, 0} {
		g := fresh(t, room)
		g.does(read("/d/g"), api.Reply{Data: []byte("two")})
		g.keeps()
		g.clock(3)
		g.fine(leave)
		g.fails(read("/"), api.ErrAway, 1)
	}
	g := fresh(t, 1)
	g.does(read("/d/g"), api.Reply{Data: []byte("two")})
	g.does(read("/f"), api.Reply{Data: []byte("three")})
	g.keeps(kept(rootNode, 0, 4))
	g.clock(5)
}

func TestWhatIsWorthLeastGoes(t *testing.T) {
	g := fresh(t, 3)
	g.fine(read("/f"), read("/d/g"))
	g.keeps(kept(rootNode, 0, 3), kept(dNode, 0, 4), kept(gNode, 0, 5))
	g.fine(hoard("/d", 1), gather, hoard("/d", 0), read("/f"), list("/e"))
	g.keeps(kept(rootNode, 1, 10), kept(dNode, 1, 7), kept(eNode, 0, 11))
	// Worth 0 it goes in where none is worth less, and is the first one to go.
	g.fine(hoard("/e", 5), gather, read("/f"), read("/d/g"))
	g.keeps(kept(rootNode, 5, 16), kept(eNode, 5, 13), kept(gNode, 0, 18))
	g.clock(18)
}

func TestWalkedAlongFiles(t *testing.T) {
	for _, away := range []bool{false, true} {
		g := holding(t, 5)
		g.c.Away = away
		g.fails(read("/f/x"), api.ErrDir, 2)
		g.keeps(kept(rootNode, 0, 8), kept(eNode, 0, 2), kept(fNode, 0, 9), kept(dNode, 0, 6), kept(gNode, 0, 7))
		g.fails(list("/f/x/y"), api.ErrDir, 2)
		g.fails(read("/d/g/x"), api.ErrDir, 3)
		g.fails(list("/d/g/g"), api.ErrDir, 3)
	}
}

func TestWalkedAlongNamesThatAreNotThere(t *testing.T) {
	for _, away := range []bool{false, true} {
		g := holding(t, 5)
		g.c.Away = away
		g.fails(read("/n"), api.ErrNone, 1)
		g.fails(list("/n/x"), api.ErrNone, 1)
		g.fails(read("/d/n"), api.ErrNone, 2)
		g.fails(read("/e/g"), api.ErrNone, 2)
		g.keeps(kept(rootNode, 0, 12), kept(eNode, 0, 13), kept(fNode, 0, 4), kept(dNode, 0, 11), kept(gNode, 0, 7))
	}
}

// wrongPaths are those that Split refuses, and how.
var wrongPaths = []struct {
	path string
	err  api.Errno
}{
	{"", api.ErrForm}, {"f", api.ErrForm}, {"d/g", api.ErrForm}, {" /f", api.ErrForm}, {"//", api.ErrName}, {"/f/", api.ErrName}, {"/d//g", api.ErrName},
	{"/F", api.ErrName}, {"/d/g ", api.ErrName}, {"/toolong12", api.ErrName}, {"/d/\x00", api.ErrName}, {strings.Repeat("/a", 20) + "/", api.ErrMuch}, {strings.Repeat("x", 41), api.ErrMuch},
}

// TestWrongPaths: nothing is looked at, here or away, whatever else is wrong.
func TestWrongPaths(t *testing.T) {
	for _, w := range wrongPaths {
		for _, away := range []bool{false, true} {
			g := fresh(t, 5)
			g.c.Away = away
			for _, x := range []api.Step{read(w.path), list(w.path), mkdir(w.path), remove(w.path), write(w.path, strings.Repeat("x", 21)), rename(w.path, "no path"), hoard(w.path, 101), hoard(w.path, 0), hoard(w.path, 5)} {
				g.fails(x, w.err, 0)
			}
		}
	}
	// Of 40 bytes a path is one.
	fresh(t, 5).fails(read(strings.Repeat("/a", 20)), api.ErrNone, 1)
}

// parents are the steps that ask for the Parent of a path.
func parents(path string) []api.Step {
	return []api.Step{write(path, "x"), mkdir(path), remove(path), rename(path, "/h")}
}

func TestParentOfTheRoot(t *testing.T) {
	for _, away := range []bool{false, true} {
		g := fresh(t, 5)
		g.c.Away = away
		for _, x := range parents("/") {
			g.fails(x, api.ErrName, 0)
		}
	}
}

func TestParentThatIsNoDirectory(t *testing.T) {
	for _, away := range []bool{false, true} {
		g := holding(t, 5)
		g.c.Away = away
		for _, x := range parents("/f/x") {
			g.fails(x, api.ErrDir, 2)
		}
		for _, x := range parents("/f/x/y") {
			g.fails(x, api.ErrDir, 2)
		}
		for _, x := range parents("/d/g/x") {
			g.fails(x, api.ErrDir, 3)
		}
	}
}

func TestParentThatIsNotThere(t *testing.T) {
	for _, away := range []bool{false, true} {
		g := holding(t, 5)
		g.c.Away = away
		for _, x := range parents("/n/x") {
			g.fails(x, api.ErrNone, 1)
		}
		for _, x := range parents("/d/n/x") {
			g.fails(x, api.ErrNone, 2)
		}
	}
	g := fresh(t, 5)
	g.fine(list("/"), leave)
	for _, x := range parents("/d/x") {
		g.fails(x, api.ErrAway, 2)
	}
	g = fresh(t, 5)
	g.fine(leave)
	for _, x := range parents("/x") {
		g.fails(x, api.ErrAway, 1)
	}
}

// TestParentIsLookedAtForNothing: worth 0, and so it raises no worth.
func TestParentIsLookedAtForNothing(t *testing.T) {
	g := fresh(t, 9)
	g.fails(mkdir("/d/g"), api.ErrName, 2)
	g.keeps(kept(rootNode, 0, 1), kept(dNode, 0, 2))
	g.fine(hoard("/d", 8), gather)
	g.fails(mkdir("/d/g"), api.ErrName, 2)
	g.keeps(kept(rootNode, 8, 5), kept(dNode, 8, 6))
}
