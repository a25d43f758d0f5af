package world

import (
	"fmt"
	"reflect"
	"testing"

	"longabsence/api"
)

// junk is a value that stands for nothing that a test knows.
func junk(t reflect.Type) reflect.Value {
	v := reflect.New(t).Elem()
	switch t.Kind() {
	case reflect.Int:
		v.SetInt(-99)
	case reflect.Uint8:
		v.SetUint('?')
	case reflect.Bool:
		v.SetBool(true)
	case reflect.String:
		v.SetString("zz")
	case reflect.Struct:
		for i := range v.NumField() {
			v.Field(i).Set(junk(v.Field(i).Type()))
		}
	}
	return v
}

// roomy is a copy of x in which each list has spare room behind it, filled with junk.
func roomy[T any](x T) T {
	var fill func(reflect.Value)
	fill = func(v reflect.Value) {
		switch v.Kind() {
		case reflect.Struct:
			for i := range v.NumField() {
				fill(v.Field(i))
			}
		case reflect.Slice:
			l := reflect.MakeSlice(v.Type(), v.Len()+2, v.Len()+2)
			reflect.Copy(l, v)
			for i := range v.Len() {
				fill(l.Index(i))
			}
			for i := range 2 {
				l.Index(v.Len() + i).Set(junk(v.Type().Elem()))
			}
			v.Set(l.Slice3(0, v.Len(), l.Cap()))
		}
	}
	fill(reflect.ValueOf(&x).Elem())
	return x
}

// walkLists calls visit with each list in x, with its spare room, those within it first.
func walkLists(v reflect.Value, visit func(reflect.Value)) {
	switch v.Kind() {
	case reflect.Struct:
		for i := range v.NumField() {
			walkLists(v.Field(i), visit)
		}
	case reflect.Slice:
		l := v.Slice3(0, v.Cap(), v.Cap())
		for i := range l.Len() {
			walkLists(l.Index(i), visit)
		}
		visit(l)
	}
}

// deep tells all lists in these with their spare room.
func deep(l ...any) string {
	out := tell(l...)
	for _, x := range l {
		walkLists(reflect.ValueOf(x), func(v reflect.Value) { out += fmt.Sprintf(" %+v", v) })
	}
	return out
}

// spoil fills all lists in these with junk, and their spare room.
func spoil(l ...any) {
	for _, x := range l {
		walkLists(reflect.ValueOf(x), func(v reflect.Value) {
			for i := range v.Len() {
				v.Index(i).Set(junk(v.Type().Elem()))
			}
		})
	}
}

// span is where a list lies, with its spare room.
type span struct{ from, to uintptr }

func spans(l ...any) []span {
	var out []span
	for _, x := range l {
		walkLists(reflect.ValueOf(x), func(v reflect.Value) {
			if v.Len() > 0 {
				out = append(out, span{v.Pointer(), v.Pointer() + uintptr(v.Len())*v.Type().Elem().Size()})
			}
		})
	}
	return out
}

// apart: no list of the answers lies where another one of them lies, or one of the arguments.
func apart(t *testing.T, what string, args, answers []any) {
	t.Helper()
	mine := spans(answers...)
	for i, a := range mine {
		for _, b := range append(mine[:i:i], spans(args...)...) {
			if a.from < b.to && b.from < a.to {
				t.Errorf("%s: lists share memory", what)
				return
			}
		}
	}
}

// samples are worlds: of clients here and away, with lists of each kind, and one in which all share one Data.
func samples(t *testing.T) []api.World {
	l := []api.World{{}, fresh(t, 3).w, fresh(t, 4, 24, 3).w, given(t).w, gone(t).w, whole(t)}
	w, both := whole(t), []byte("both")
	for i := range w.Clients {
		for j := range w.Clients[i].Cache {
			w.Clients[i].Cache[j].Node.Data = both
		}
		for j := range w.Clients[i].Log {
			w.Clients[i].Log[j].Act.Data = both
		}
	}
	for i := range w.Server.Tree {
		w.Server.Tree[i].Data = both
	}
	for i := range w.Server.Past {
		w.Server.Past[i].Act.Data = both
	}
	w.Clients[0].Cache, w.Clients[1].Hoards = w.Clients[1].Cache, w.Clients[2].Hoards
	return append(l, w)
}

// steps are of each kind, such as are done and such as are refused, of each client and of some that there aren't.
func steps() []api.Step {
	var l []api.Step
	for who := -1; who <= api.MaxClients; who++ {
		for _, x := range changes {
			l = append(l, x.step(who))
		}
		for _, x := range refused {
			l = append(l, x.step(who))
		}
	}
	return l
}

func TestDoChangesAndKeepsNothing(t *testing.T) {
	for i, w := range samples(t) {
		for _, x := range steps() {
			what := fmt.Sprintf("of sample %d, Do of %+v", i, x)
			expect := tell(Do(w, x))
			args := []any{roomy(w), roomy(x)}
			before := deep(args...)
			got, r := Do(args[0].(api.World), args[1].(api.Step))
			want(t, what+", with spare room", tell(got, r), expect)
			want(t, what+": what was handed in", deep(args...), before)
			apart(t, what, args, []any{got, r})
			spoil(args...)
			want(t, what+", when what was handed in changed", tell(got, r), expect)
		}
	}
}

func TestWhatDoAnswersIsTheCallers(t *testing.T) {
	for i, w := range samples(t) {
		for _, x := range steps() {
			args := []any{roomy(w), roomy(x)}
			before := deep(args...)
			got, r := Do(args[0].(api.World), args[1].(api.Step))
			spoil(got, r)
			want(t, fmt.Sprintf("of sample %d, what was handed in to Do of %+v, when the answer changed", i, x), deep(args...), before)
		}
	}
}

// TestCopySharesNothing: of Own.
func TestCopySharesNothing(t *testing.T) {
	for i, w := range append(samples(t), roomy(api.World{Clients: make([]api.Client, 2)})) {
		what := fmt.Sprintf("of sample %d, Own", i)
		w := roomy(w)
		before, expect := deep(w), tell(w)
		got := Own(w)
		want(t, what, tell(got), expect)
		want(t, what+": the world", deep(w), before)
		apart(t, what, []any{w}, []any{got})
		spoil(got)
		want(t, what+": the world, when the copy changed", deep(w), before)
		got = Own(w)
		spoil(w)
		want(t, what+", when the world changed", tell(got), expect)
	}
}

func TestRoomsAreOnlyRead(t *testing.T) {
	for _, x := range rooms {
		l := roomy(x.rooms)
		before := deep(l)
		w, err := New(l)
		expect := tell(w, err)
		want(t, fmt.Sprint("Wrong of ", x.rooms, ", with spare room"), Wrong(l), x.err)
		want(t, fmt.Sprint("the rooms ", x.rooms), deep(l), before)
		spoil(l)
		want(t, fmt.Sprint("New of ", x.rooms, ", when these changed"), tell(w, err), expect)
	}
	// What New answered before is not what it answers later.
	one, _ := New([]int{3, 4})
	other, _ := New([]int{3, 4})
	apart(t, "New", []any{one}, []any{other})
	spoil(one)
	again, _ := New([]int{3, 4})
	want(t, "New, when an earlier answer changed", again, other)
}

func TestPlayChangesAndKeepsNothing(t *testing.T) {
	plain, _ := story()
	for _, n := range []int{0, 1, 5, len(plain)} {
		for _, x := range rooms {
			what := fmt.Sprint("Play of ", x.rooms, " and ", n, " steps")
			w, l, err := Play(x.rooms, plain[:n])
			expect := tell(w, l, err)
			args := []any{roomy(x.rooms), roomy(plain[:n])}
			before := deep(args...)
			w, l, err = Play(args[0].([]int), args[1].([]api.Step))
			want(t, what+", with spare room", tell(w, l, err), expect)
			want(t, what+": what was handed in", deep(args...), before)
			apart(t, what, args, []any{w, l})
			spoil(args...)
			want(t, what+", when what was handed in changed", tell(w, l, err), expect)
		}
	}
}

func TestWhatPlayAnswersIsTheCallers(t *testing.T) {
	plain, _ := story()
	args := []any{roomy([]int{9, 9, 9}), roomy(plain)}
	before := deep(args...)
	w, l, _ := Play(args[0].([]int), args[1].([]api.Step))
	spoil(w, l)
	want(t, "what was handed in to Play, when the answer changed", deep(args...), before)
}
