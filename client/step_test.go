package client

import (
	"fmt"
	"math"
	"strings"
	"testing"

	"longabsence/api"
	"longabsence/cache"
	"longabsence/server"
)

var (
	full = strings.Repeat("x", api.MaxData)
	much = full + "x"
)

// alike runs a test of one that keeps all, here and away.
func alike(t *testing.T, test func(g *game)) {
	t.Run("here", func(t *testing.T) { test(holding(t, 9)) })
	t.Run("away", func(t *testing.T) { test(gone(t, 9)) })
}

func TestRead(t *testing.T) {
	alike(t, func(g *game) {
		g.does(read("/f"), api.Reply{Data: []byte("three")})
		g.does(read("/d/g"), api.Reply{Data: []byte("two")})
		g.fine(write("/d/g", ""))
		g.does(read("/d/g"), api.Reply{})
		g.fine(write("/d/g", full))
		g.does(read("/d/g"), api.Reply{Data: []byte(full)})
		g.fails(read("/"), api.ErrFile, 1)
		g.fails(read("/d"), api.ErrFile, 2)
		// What is walked comes first: that a name is missing, or that there is no directory.
		g.fails(read("/d/n"), api.ErrNone, 2)
		g.fails(read("/f/n"), api.ErrDir, 2)
	})
}

func TestList(t *testing.T) {
	alike(t, func(g *game) {
		g.does(list("/"), api.Reply{Data: []byte("d\ne\nf\n")})
		g.does(list("/d"), api.Reply{Data: []byte("g\n")})
		g.does(list("/e"), api.Reply{})
		g.fine(write("/10", ""), mkdir("/2"), write("/a", ""))
		g.does(list("/"), api.Reply{Data: []byte("10\n2\na\nd\ne\nf\n")})
		g.fails(list("/f"), api.ErrDir, 2)
		g.fails(list("/d/g"), api.ErrDir, 3)
		g.fails(list("/n"), api.ErrNone, 1)
	})
}

func TestWrite(t *testing.T) {
	alike(t, func(g *game) {
		for _, path := range []string{"/f", "/d/g", "/n", "/e/n"} {
			for _, data := range []string{"", "x", full} {
				g.does(write(path, data), api.Reply{})
				g.does(read(path), api.Reply{Data: []byte(data)})
			}
		}
		// The Parent comes first, then the data, then the name, then the node.
		g.fails(write("bad", much), api.ErrForm, 0)
		g.fails(write("/", much), api.ErrName, 0)
		g.fails(write("/m/n", much), api.ErrNone, 1)
		g.fails(write("/f/n", much), api.ErrDir, 2)
		g.fails(write("/m", much), api.ErrMuch, 1)
		g.fails(write("/f", much), api.ErrMuch, 1)
		g.fails(write("/d", much), api.ErrMuch, 1)
		g.fails(write("/d", full), api.ErrFile, 2)
		g.does(list("/"), api.Reply{Data: []byte("d\ne\nf\nn\n")})
	})
}

func TestDir(t *testing.T) {
	alike(t, func(g *game) {
		g.does(mkdir("/n"), api.Reply{})
		g.does(mkdir("/n/k"), api.Reply{})
		g.does(mkdir("/n/k/n"), api.Reply{})
		g.does(list("/n/k"), api.Reply{Data: []byte("n\n")})
		g.does(list("/n/k/n"), api.Reply{})
		g.fails(mkdir("/n"), api.ErrName, 1)
		g.fails(mkdir("/f"), api.ErrName, 1)
		g.fails(mkdir("/f/n"), api.ErrDir, 2)
		g.fails(mkdir("/m/n"), api.ErrNone, 1)
	})
}

func TestRemove(t *testing.T) {
	alike(t, func(g *game) {
		g.fails(remove("/d"), api.ErrEmpty, 2)
		g.does(remove("/d/g"), api.Reply{})
		g.fails(remove("/d/g"), api.ErrNone, 2)
		g.does(remove("/d"), api.Reply{})
		g.fails(remove("/d/g"), api.ErrNone, 1)
		g.does(remove("/f"), api.Reply{})
		g.does(remove("/e"), api.Reply{})
		g.does(list("/"), api.Reply{})
		g.fails(remove("/"), api.ErrName, 0)
		g.fine(write("/f", "x"), remove("/f"), mkdir("/f"), remove("/f"))
		g.does(list("/"), api.Reply{})
	})
}

func TestRename(t *testing.T) {
	alike(t, func(g *game) {
		g.does(rename("/d/g", "/h"), api.Reply{})
		g.does(read("/h"), api.Reply{Data: []byte("two")})
		g.does(rename("/d", "/e/d"), api.Reply{})
		g.does(rename("/e/d", "/e/d"), api.Reply{})
		g.does(rename("/h", "/e/d/g"), api.Reply{})
		g.does(read("/e/d/g"), api.Reply{Data: []byte("two")})
		g.does(list("/"), api.Reply{Data: []byte("e\nf\n")})

		// The Parent of Path, its name, the Parent of ToPath, and then the act.
		g.fails(rename("bad", "too bad"), api.ErrForm, 0)
		g.fails(rename("/", "bad"), api.ErrName, 0)
		g.fails(rename("/m/n", "bad"), api.ErrNone, 1)
		g.fails(rename("/f/n", "bad"), api.ErrDir, 2)
		g.fails(rename("/m", "bad"), api.ErrNone, 1)
		g.fails(rename("/f", "bad"), api.ErrForm, 2)
		g.fails(rename("/f", strings.Repeat("/", 41)), api.ErrMuch, 2)
		g.fails(rename("/f", "/No"), api.ErrName, 2)
		g.fails(rename("/f", "/"), api.ErrName, 2)
		g.fails(rename("/f", "/m/n"), api.ErrNone, 3)
		g.fails(rename("/f", "/f/n"), api.ErrDir, 4)
		g.fails(rename("/f", "/e/d"), api.ErrName, 4)
		g.fails(rename("/e/d", "/e/d/g"), api.ErrName, 6)
		g.fails(rename("/e/d", "/e/d/n"), api.ErrLoop, 6)
		g.does(list("/e/d"), api.Reply{Data: []byte("g\n")})
	})
}

func TestAway(t *testing.T) {
	for _, g := range []*game{fresh(t, 5), holding(t, 5), gone(t, 5)} {
		expect := Own(g.c)
		expect.Away = true
		g.does(leave, api.Reply{})
		want(t, "the client", g.c, expect)
		g.does(leave, api.Reply{})
		want(t, "the client, away already", g.c, expect)
		want(t, "the server", g.s, given())
	}
}

func TestBackWithAnEmptyLog(t *testing.T) {
	for _, g := range []*game{fresh(t, 5), holding(t, 5), gone(t, 5)} {
		expect := Own(g.c)
		expect.Away = false
		g.does(back, api.Reply{})
		want(t, "the client", g.c, expect)
		g.does(back, api.Reply{})
		want(t, "the client, here already", g.c, expect)
		want(t, "the server", g.s, given())
	}
	// What others changed meanwhile is not kept; also one who is here already may ask so.
	for _, away := range []bool{false, true} {
		g := holding(t, 5)
		g.c.Away = away
		g.other(storeAct(3, "new"))
		g.other(removeAct(2, 1, "g"))
		g.does(back, api.Reply{})
		g.keeps(kept(rootNode, 0, 5), kept(eNode, 0, 2))
		g.does(read("/f"), api.Reply{Data: []byte("new")})
	}
}

func TestBackWithActsThatAreDone(t *testing.T) {
	g := gone(t, 9)
	g.fine(write("/f", "new"), mkdir("/n"), write("/n/k", "k"), remove("/d/g"), mkdir("/m"), remove("/m"))
	g.counts(3, 7)
	g.does(back, api.Reply{N: 5})
	g.past(mine(storeAct(3, "new"), dirAct(5, 0, "n"), makeAct(6, 5, "k"), storeAct(6, "k"), removeAct(2, 1, "g"))...)
	want(t, "the next fid", g.s.Next, 7)
	// Nothing that was dirty is kept: what was made has other fids, and versions are new.
	g.keeps(kept(eNode, 0, 2))
	g.logs()
	want(t, "the client", g.c, api.Client{Number: 1, Room: 9, Cache: g.c.Cache, Clock: g.c.Clock, Made: 3, Logged: 7})
	g.does(read("/n/k"), api.Reply{Data: []byte("k")})
	g.does(list("/"), api.Reply{Data: []byte("d\ne\nf\nn\n")})
	// Away again, it goes on counting.
	g.fine(leave, mkdir("/n/m"))
	g.logs(rec(dirAct(-4, 5, "m"), -1, 8))
}

func TestBackWithActsThatAreRefused(t *testing.T) {
	g := gone(t, 9)
	g.fine(write("/f", "mine"), mkdir("/n"), write("/n/k", "k"), write("/d/g", "mine"), mkdir("/e/m"), remove("/e/m"), remove("/e"))
	g.other(storeAct(3, "other"))
	g.other(makeAct(0, 0, "n"))
	log := g.c.Log
	g.does(back, api.Reply{N: 2, M: 4})
	want(t, "what is for repair", g.c.Repair, log[:4])
	want(t, "the first ones for repair", g.c.Repair[:2], []api.Rec{rec(storeAct(3, "mine"), 6, 1), rec(dirAct(-1, 0, "n"), -1, 2)})
	g.past(append([]api.Past{{Client: 9, Act: storeAct(3, "other")}, {Client: 9, Act: makeAct(5, 0, "n")}}, mine(storeAct(2, "mine"), removeAct(4, 0, "e"))...)...)
	g.logs()
	g.keeps(kept(dNode, 0, g.c.Cache[0].Last))
	g.does(read("/f"), api.Reply{Data: []byte("other")})

	// What is refused later comes behind.
	g.fine(leave, write("/f", "again"))
	g.other(removeAct(3, 0, "f"))
	g.does(back, api.Reply{M: 1})
	want(t, "what is for repair then", g.c.Repair, append(log[:4:4], rec(storeAct(3, "again"), 7, 9)))
	g.does(back, api.Reply{})
	want(t, "how many are for repair still", len(g.c.Repair), 5)
}

// TestBackIsTake: what the server has, and what was refused, is as chapter 7 tells it.
func TestBackIsTake(t *testing.T) {
	g := gone(t, 9)
	g.fine(write("/f", "mine"), rename("/d", "/e/d"), write("/e/d/n", "n"), remove("/e/d/g"))
	g.other(renameAct(1, 0, "d", 0, "k"))
	s, verdicts := server.Take(g.s, 1, g.c.Log)
	expect, r := Own(g.c), api.Reply{}
	for i, v := range verdicts {
		if v.Err == api.OK {
			r.N++
		} else {
			r.M++
			expect.Repair = append(expect.Repair, g.c.Log[i])
		}
	}
	want(t, "how many are done, and refused", r, api.Reply{N: 1, M: 4})
	expect.Away, expect.Log, expect.Cache = false, nil, cache.Fresh(cache.Clean(g.c.Cache), s.Tree)
	g.does(back, r)
	want(t, "the client", g.c, expect)
	want(t, "the server", g.s, s)
}

func TestHoard(t *testing.T) {
	for _, g := range []*game{holding(t, 9), gone(t, 9)} {
		before := Own(g.c)
		hoards := func(l ...api.Hoard) {
			t.Helper()
			expect := before
			expect.Hoards = l
			want(t, "the client", g.c, expect)
			want(t, "the server", g.s, given())
		}
		g.does(hoard("/f", 1), api.Reply{})
		hoards(api.Hoard{Path: "/f", Worth: 1})
		// Whether there is such a path nobody asks.
		g.does(hoard("/no/such", 100), api.Reply{})
		g.does(hoard("/", 50), api.Reply{})
		hoards(api.Hoard{Path: "/f", Worth: 1}, api.Hoard{Path: "/no/such", Worth: 100}, api.Hoard{Path: "/", Worth: 50})
		// What was told before is forgotten, and so it comes last.
		g.does(hoard("/f", 2), api.Reply{})
		hoards(api.Hoard{Path: "/no/such", Worth: 100}, api.Hoard{Path: "/", Worth: 50}, api.Hoard{Path: "/f", Worth: 2})
		g.does(hoard("/", 0), api.Reply{})
		g.does(hoard("/never", 0), api.Reply{})
		hoards(api.Hoard{Path: "/no/such", Worth: 100}, api.Hoard{Path: "/f", Worth: 2})
		for _, n := range []int{math.MinInt, -100, -1, 101, 102, math.MaxInt} {
			g.fails(hoard("/f", n), api.ErrRange, 0)
			g.fails(hoard("f", n), api.ErrForm, 0)
		}
		hoards(api.Hoard{Path: "/no/such", Worth: 100}, api.Hoard{Path: "/f", Worth: 2})
		g.does(hoard("/no/such", 0), api.Reply{})
		g.does(hoard("/f", 0), api.Reply{})
		hoards()
	}
}

func TestHoardOfOneTooMany(t *testing.T) {
	g := fresh(t, 9)
	for i := range api.MaxHoards {
		g.fine(hoard(fmt.Sprint("/", i), i+1))
	}
	for _, n := range []int{1, 50, 100} {
		g.fails(hoard("/f", n), api.ErrMany, 0)
	}
	g.fails(hoard("/f", 101), api.ErrRange, 0)
	g.does(hoard("/f", 0), api.Reply{})
	// Of what was told before there are not so many others.
	g.does(hoard("/2", 99), api.Reply{})
	want(t, "the last one", g.c.Hoards[5], api.Hoard{Path: "/2", Worth: 99})
	want(t, "how many there are", len(g.c.Hoards), 6)
	g.fails(hoard("/f", 1), api.ErrMany, 0)
	g.fine(hoard("/0", 0), hoard("/f", 1))
	want(t, "the last one", g.c.Hoards[5], api.Hoard{Path: "/f", Worth: 1})
	g.fails(hoard("/0", 1), api.ErrMany, 0)
}

// TestWalkOfWhatIsWorthMostFirst: clocks tell in which order they were walked.
func TestWalkOfWhatIsWorthMostFirst(t *testing.T) {
	g := fresh(t, 9)
	g.fine(hoard("/e", 7), hoard("/f", 80), hoard("/d", 7), hoard("/d/g", 7), hoard("/", 100))
	g.does(gather, api.Reply{N: 5})
	// The root at 1, /f at 2 and 3, /e at 4 and 5, /d at 6 and 7, /d/g from 8 to 10.
	g.keeps(kept(rootNode, 100, 8), kept(fNode, 80, 3), kept(eNode, 7, 5), kept(dNode, 7, 9), kept(gNode, 7, 10))
	g.clock(10)
	want(t, "the hoards", g.c.Hoards, []api.Hoard{{Path: "/e", Worth: 7}, {Path: "/f", Worth: 80}, {Path: "/d", Worth: 7}, {Path: "/d/g", Worth: 7}, {Path: "/", Worth: 100}})
	want(t, "the server", g.s, given())
}

func TestWalkOfWhatCannotBeWalked(t *testing.T) {
	g := fresh(t, 9)
	g.does(gather, api.Reply{})
	g.fine(hoard("/n", 9), hoard("/d/n", 8), hoard("/f/n", 7), hoard("/e", 6))
	// What was looked at is kept, for that worth, though the path has an error further on.
	g.does(gather, api.Reply{N: 1})
	g.keeps(kept(rootNode, 9, 6), kept(dNode, 8, 3), kept(fNode, 7, 5), kept(eNode, 6, 7))
	// Where there is no room it is walked all the same.
	g = fresh(t, 0)
	g.fine(hoard("/d/g", 1), hoard("/n", 2))
	g.does(gather, api.Reply{N: 1})
	g.clock(4)
	g.keeps()
}

func TestWalkAway(t *testing.T) {
	g := gone(t, 9)
	g.fails(gather, api.ErrAway, 0)
	g.fine(hoard("/f", 9))
	g.fails(gather, api.ErrAway, 0)
	g.keeps(kept(rootNode, 0, 5), kept(eNode, 0, 2), kept(fNode, 0, 4), kept(dNode, 0, 6), kept(gNode, 0, 7))
	g.fine(back, gather)
	want(t, "what /f is worth", g.c.Cache[2].Worth, 9)
}

// TestAheadOfAnError: what was looked at, and done, is so still.
func TestAheadOfAnError(t *testing.T) {
	g := fresh(t, 9)
	g.fails(read("/d/g/x"), api.ErrDir, 3)
	g.keeps(kept(rootNode, 0, 1), kept(dNode, 0, 2), kept(gNode, 0, 3))
	g.fails(rename("/f", "/e/x/y"), api.ErrNone, 4)
	g.keeps(kept(rootNode, 0, 6), kept(dNode, 0, 2), kept(gNode, 0, 3), kept(fNode, 0, 5), kept(eNode, 0, 7))

	// A file is made, and its store can't be logged.
	g = gone(t, 9)
	for range 9 {
		g.fine(rename("/f", "/h"), rename("/h", "/f"))
	}
	g.fine(write("/e/a", "a"))
	g.fine(remove("/e/a"))
	g.fine(rename("/f", "/h"))
	c, s, r := Do(g.c, g.s, write("/e/n", "new"))
	want(t, "the reply", r, api.Reply{Err: api.ErrMany})
	want(t, "the server", s, given())
	g.c = c
	want(t, "the last record", c.Log[api.MaxLog-1], rec(makeAct(-2, 4, "n"), -1, 23))
	g.counts(2, 23)
	g.does(read("/e/n"), api.Reply{})
	g.does(list("/e"), api.Reply{Data: []byte("n\n")})
}
