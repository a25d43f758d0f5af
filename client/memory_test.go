package client

import (
	"fmt"
	"reflect"
	"testing"

	"longabsence/api"
	"longabsence/server"
)

// junk is a value that stands for nothing that a test knows.
func junk(t reflect.Type) reflect.Value {
	v := reflect.New(t).Elem()
	switch t.Kind() {
	case reflect.Int:
		v.SetInt(-99)
	case reflect.Uint8:
		v.SetUint('?')
	case reflect.Bool:
		v.SetBool(true)
	case reflect.String:
		v.SetString("zz")
	case reflect.Struct:
		for i := range v.NumField() {
			v.Field(i).Set(junk(v.Field(i).Type()))
		}
	}
	return v
}

// roomy is a copy of x in which each list has spare room behind it, filled with junk.
func roomy[T any](x T) T {
	var fill func(reflect.Value)
	fill = func(v reflect.Value) {
		switch v.Kind() {
		case reflect.Struct:
			for i := range v.NumField() {
				fill(v.Field(i))
			}
		case reflect.Slice:
			l := reflect.MakeSlice(v.Type(), v.Len()+2, v.Len()+2)
			reflect.Copy(l, v)
			for i := range v.Len() {
				fill(l.Index(i))
			}
			for i := range 2 {
				l.Index(v.Len() + i).Set(junk(v.Type().Elem()))
			}
			v.Set(l.Slice3(0, v.Len(), l.Cap()))
		}
	}
	fill(reflect.ValueOf(&x).Elem())
	return x
}

// walkLists calls visit with each list in x, with its spare room, those within it first.
func walkLists(v reflect.Value, visit func(reflect.Value)) {
	switch v.Kind() {
	case reflect.Struct:
		for i := range v.NumField() {
			walkLists(v.Field(i), visit)
		}
	case reflect.Slice:
		l := v.Slice3(0, v.Cap(), v.Cap())
		for i := range l.Len() {
			walkLists(l.Index(i), visit)
		}
		visit(l)
	}
}

// deep tells all lists in these with their spare room.
func deep(l ...any) string {
	out := tell(l...)
	for _, x := range l {
		walkLists(reflect.ValueOf(x), func(v reflect.Value) { out += fmt.Sprintf(" %+v", v) })
	}
	return out
}

// spoil fills all lists in these with junk, and their spare room.
func spoil(l ...any) {
	for _, x := range l {
		walkLists(reflect.ValueOf(x), func(v reflect.Value) {
			for i := range v.Len() {
				v.Index(i).Set(junk(v.Type().Elem()))
			}
		})
	}
}

// span is where a list lies, with its spare room.
type span struct{ from, to uintptr }

func spans(l ...any) []span {
	var out []span
	for _, x := range l {
		walkLists(reflect.ValueOf(x), func(v reflect.Value) {
			if v.Len() > 0 {
				out = append(out, span{v.Pointer(), v.Pointer() + uintptr(v.Len())*v.Type().Elem().Size()})
			}
		})
	}
	return out
}

// apart: no list of the answers lies where another one of them lies, or one of the arguments.
func apart(t *testing.T, what string, args, answers []any) {
	t.Helper()
	mine := spans(answers...)
	for i, a := range mine {
		for _, b := range append(mine[:i:i], spans(args...)...) {
			if a.from < b.to && b.from < a.to {
				t.Errorf("%s: lists share memory", what)
				return
			}
		}
	}
}

// samples are clients with servers: here and away, with lists of each kind, and such in which all share one Data.
func samples(t *testing.T) []*game {
	l := []*game{fresh(t, 0), fresh(t, 9), holding(t, 5), gone(t, 9), {t, whole(), given()}, {t, New(0, 3), server.New()}}
	g := gone(t, 9)
	g.fine(write("/f", "mine"), mkdir("/n"), write("/n/k", "k"), hoard("/f", 5), hoard("/d/g", 9))
	g.other(storeAct(3, "other"))
	l = append(l, &game{t, Own(g.c), g.s})
	g.does(back, api.Reply{N: 3, M: 1})
	l = append(l, g)
	both := []byte("both")
	for _, away := range []bool{false, true} {
		g := holding(t, 9)
		g.fine(leave, write("/f", "mine"), write("/d/g", "mine"))
		c, s := g.c, g.s
		c.Away = away
		for i := range c.Cache {
			c.Cache[i].Node.Data = both
		}
		for i := range s.Tree {
			s.Tree[i].Data = both
		}
		for i := range s.Past {
			s.Past[i].Act.Data = both
		}
		c.Log[0].Act.Data, c.Log[1].Act.Data, c.Repair = both, both, c.Log
		l = append(l, &game{t, c, s})
	}
	return l
}

// steps are of each kind, such as are done and such as are refused.
func steps() []api.Step {
	return []api.Step{
		read("/f"), read("/d/g"), read("/d"), read("bad"), list("/"), list("/e"), list("/f"), write("/f", "new"), write("/d/m", "new"), write("/d", "x"), write("/m", much),
		mkdir("/m"), mkdir("/d"), remove("/f"), remove("/d/g"), remove("/d"), rename("/f", "/e/f"), rename("/d/g", "/d/h"), rename("/f", "/d"),
		leave, back, hoard("/e", 5), hoard("/f", 0), hoard("/f", 101), gather, {Kind: 99, Path: "/f", Data: []byte("x")},
	}
}

func TestNothingIsChangedOrKept(t *testing.T) {
	for i, g := range samples(t) {
		for _, x := range steps() {
			what := fmt.Sprintf("of sample %d, Do of %+v", i, x)
			c, s, r := Do(g.c, g.s, x)
			expect := tell(c, s, r)
			args := []any{roomy(g.c), roomy(g.s), roomy(x)}
			before := deep(args...)
			c, s, r = Do(args[0].(api.Client), args[1].(api.Server), args[2].(api.Step))
			want(t, what+", with spare room", tell(c, s, r), expect)
			want(t, what+": what was handed in", deep(args...), before)
			apart(t, what, args, []any{c, s, r})
			spoil(args...)
			want(t, what+", when what was handed in changed", tell(c, s, r), expect)
		}
	}
}

func TestWhatIsAnsweredIsTheCallers(t *testing.T) {
	for i, g := range samples(t) {
		for _, x := range steps() {
			what := fmt.Sprintf("of sample %d, Do of %+v", i, x)
			args := []any{roomy(g.c), roomy(g.s), roomy(x)}
			before := deep(args...)
			c, s, r := Do(args[0].(api.Client), args[1].(api.Server), args[2].(api.Step))
			spoil(c, s, r)
			want(t, what+": what was handed in, when the answer changed", deep(args...), before)
		}
	}
}

// TestCopySharesNothing: of Own.
func TestCopySharesNothing(t *testing.T) {
	for i, g := range append(samples(t), &game{t, roomy(api.Client{}), given()}) {
		what := fmt.Sprintf("of sample %d, Own", i)
		c := roomy(g.c)
		before := deep(c)
		got := Own(c)
		want(t, what, got, g.c)
		apart(t, what, []any{c}, []any{got})
		expect := tell(got)
		spoil(c)
		want(t, what+", when the client changed", tell(got), expect)

		c = roomy(g.c)
		spoil(Own(c))
		want(t, what+": the client, when the copy changed", deep(c), before)
	}
}
