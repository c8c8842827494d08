package tests

import (
	"reflect"
	"strings"
	"testing"

	"loop.example/g00317/impl"
)

func wantKeys(t *testing.T, h impl.Heap, at int64, want ...string) {
	t.Helper()
	if got := impl.HeapKeys(h, at); strings.Join(got, "|") != strings.Join(want, "|") || len(got) != len(want) {
		t.Errorf("HeapKeys of %d: got %q, want %q", at, got, want)
	}
}

func TestHeapPutTakesThePlaceOfTheOld(t *testing.T) {
	for at, o := range family().Objects {
		for i, p := range o.Props {
			for _, v := range []impl.Value{missing, null, yes, num(-3), bad, written(""), written(edge), ref(0), ref(5)} {
				want := family()
				want.Objects[at].Props[i].Value = v
				wantHeap(t, "HeapPut of "+p.Key, impl.HeapPut(family(), int64(at), p.Key, v), want)
			}
		}
	}
}

func TestHeapPutAtTheEnd(t *testing.T) {
	for at := range family().Objects {
		for _, key := range []string{"new", "New", "new ", "\xff", edge, "key"} {
			want := family()
			want.Objects[at].Props = append(want.Objects[at].Props, prop(key, ref(5)))
			wantHeap(t, "HeapPut of a new Key", impl.HeapPut(family(), int64(at), key, ref(5)), want)
		}
	}
	for _, key := range []string{"far", "near", "veiled", "two"} {
		want := family()
		want.Objects[3].Props = append(want.Objects[3].Props, prop(key, num(70)))
		wantHeap(t, "HeapPut of a Proto's Key", impl.HeapPut(family(), 3, key, num(70)), want)
	}
	wantHeap(t, "HeapPut of the empty Key", impl.HeapPut(emptied(1), 0, "", missing), heap(object(-1, prop("", missing))))
}

func TestHeapPutOfWhatMayNotStandThere(t *testing.T) {
	wrong := append(spoiltValues(), ref(6), ref(399))
	for _, v := range wrong {
		for _, key := range []string{"own", "new", "far", "nailed", over} {
			wantHeap(t, "HeapPut of a wrong Value", impl.HeapPut(family(), 3, key, v), family())
		}
	}
	for _, v := range rightValues() {
		if v.Kind == impl.VRef && v.Num > 5 {
			continue
		}
		wantHeap(t, "HeapPut of 1001 bytes", impl.HeapPut(family(), 3, over, v), family())
		if h := impl.HeapPut(family(), 2, edge, v); impl.HeapGet(h, 2, edge) != v || !impl.HeapRight(h) {
			t.Errorf("HeapPut of 1000 bytes and %+v is not got", short(v))
		}
	}
	for last := range int64(400) {
		h := emptied(int(last) + 1)
		if got := impl.HeapPut(h, 0, "r", ref(last)); impl.HeapGet(got, 0, "r") != ref(last) {
			t.Errorf("a VRef of the last of %d objects is not put", last+1)
		}
		if last < 399 {
			wantHeap(t, "a VRef beyond the last", impl.HeapPut(h, 0, "r", ref(last+1)), h)
		}
	}
}

func TestHeapPutOfATooLongKeyGoesAheadOfAll(t *testing.T) {
	wantHeap(t, "4001 bytes and a wrong Value", impl.HeapPut(family(), 3, long, num(impl.MaxNumber+1)), impl.Heap{})
	wantHeap(t, "4000 bytes and a wrong Value", impl.HeapPut(family(), 3, long[:4000], num(impl.MaxNumber+1)), family())
}

func TestHeapDelete(t *testing.T) {
	for at, o := range family().Objects {
		for i, p := range o.Props {
			want := family()
			if !p.Fixed {
				want.Objects[at].Props = append(want.Objects[at].Props[:i], want.Objects[at].Props[i+1:]...)
			}
			got := impl.HeapDelete(family(), int64(at), p.Key)
			wantHeap(t, "HeapDelete of "+p.Key, got, want)
			wantHeap(t, "HeapDelete twice of "+p.Key, impl.HeapDelete(got, int64(at), p.Key), want)
		}
	}
	for _, key := range []string{"far", "near", "two", "veiled", "none", "", "OWN"} {
		wantHeap(t, "HeapDelete of what is not its own", impl.HeapDelete(family(), 3, key), family())
	}
	h := impl.HeapDelete(family(), 3, "all")
	if impl.HeapGet(h, 3, "all") != num(5) || !impl.HeapHas(h, 3, "all") {
		t.Errorf("behind its own one the Proto's is %+v", impl.HeapGet(h, 3, "all"))
	}
}

func TestHeapDeleteThenPutIsAtTheEnd(t *testing.T) {
	h := impl.HeapDelete(family(), 3, "dim")
	h = impl.HeapPut(h, 3, "dim", num(1))
	wantKeys(t, h, 3, "own", "all", "nailed", "gone", "dim")
	h = heap(object(-1, prop("a", num(1)), prop("b", num(2)), prop("c", num(3))))
	for _, key := range []string{"a", "b", "c"} {
		h = impl.HeapPut(impl.HeapDelete(h, 0, key), 0, key, num(9))
	}
	wantKeys(t, h, 0, "a", "b", "c")
	h = impl.HeapPut(impl.HeapDelete(h, 0, "a"), 0, "a", num(9))
	wantKeys(t, h, 0, "b", "c", "a")
}

func TestHeapKeys(t *testing.T) {
	wantKeys(t, family(), 0, "far", "all")
	wantKeys(t, family(), 1, "near", "all", "two")
	wantKeys(t, family(), 2)
	wantKeys(t, family(), 3, "own", "all", "nailed", "gone")
	wantKeys(t, family(), 4, "0", "1")
	wantKeys(t, family(), 5, "")
	wantKeys(t, heap(object(-1, hidden(prop("a", null)), hidden(prop("b", null)))), 0)
	wantKeys(t, heap(object(-1, prop("10", null), prop("9", null), prop("b", null), prop("a", null))), 0, "10", "9", "b", "a")
	for at, o := range family().Objects {
		h := family()
		var want []string
		for i, p := range o.Props {
			h.Objects[at].Props[i].Hidden = i%2 == 1
			if i%2 == 0 {
				want = append(want, p.Key)
			}
		}
		wantKeys(t, h, int64(at), want...)
	}
}

// heapChanges are calls of which some change the heap and some leave it as it is.
func heapChanges() map[string]func(h impl.Heap) impl.Heap {
	return map[string]func(h impl.Heap) impl.Heap{
		"put in place":       func(h impl.Heap) impl.Heap { return impl.HeapPut(h, 3, "own", written("new")) },
		"put at the end":     func(h impl.Heap) impl.Heap { return impl.HeapPut(h, 3, "new", written("new")) },
		"put to no object":   func(h impl.Heap) impl.Heap { return impl.HeapPut(h, 9, "own", num(1)) },
		"put a wrong Value":  func(h impl.Heap) impl.Heap { return impl.HeapPut(h, 3, "own", ref(6)) },
		"put a long Key":     func(h impl.Heap) impl.Heap { return impl.HeapPut(h, 3, over, num(1)) },
		"delete the first":   func(h impl.Heap) impl.Heap { return impl.HeapDelete(h, 3, "own") },
		"delete a middle":    func(h impl.Heap) impl.Heap { return impl.HeapDelete(h, 3, "all") },
		"delete the last":    func(h impl.Heap) impl.Heap { return impl.HeapDelete(h, 3, "gone") },
		"delete none":        func(h impl.Heap) impl.Heap { return impl.HeapDelete(h, 3, "none") },
		"delete a Fixed one": func(h impl.Heap) impl.Heap { return impl.HeapDelete(h, 3, "nailed") },
		"delete of none":     func(h impl.Heap) impl.Heap { return impl.HeapDelete(h, -1, "own") },
		"delete of arguments": func(h impl.Heap) impl.Heap {
			return impl.HeapDelete(h, 4, "0")
		},
	}
}

// roomy has room behind each list, into which an append would write unseen.
func roomy(h impl.Heap) impl.Heap {
	objects := make([]impl.Object, 0, 64)
	for _, o := range h.Objects {
		props := make([]impl.Prop, 0, 64)
		o.Props = append(props, o.Props...)
		objects = append(objects, o)
	}
	return impl.Heap{Objects: objects}
}

// scribbled writes over all that h reaches, the room behind its lists, too.
func scribbled(h impl.Heap) {
	objects := h.Objects[:cap(h.Objects)]
	for i := range objects {
		props := objects[i].Props[:cap(objects[i].Props)]
		for j := range props {
			props[j] = prop("scribble", num(int64(i+j)))
		}
		objects[i] = impl.Object{Class: 7, Proto: 7}
	}
}

// whole is all of h with the room behind its lists.
func whole(h impl.Heap) impl.Heap {
	out := impl.Heap{}
	for _, o := range h.Objects[:cap(h.Objects)] {
		o.Props = append([]impl.Prop(nil), o.Props[:cap(o.Props)]...)
		out.Objects = append(out.Objects, o)
	}
	return out
}

func TestHeapsShareNothing(t *testing.T) {
	wrong := family()
	wrong.Objects[5].Proto = 5
	twice := family()
	twice.Objects[1].Props[0].Key = "all"
	for what, change := range heapChanges() {
		for _, start := range []impl.Heap{family(), wrong, twice} {
			h := roomy(start)
			before := whole(h)
			got := change(h)
			if !reflect.DeepEqual(whole(h), before) {
				t.Errorf("%s writes into what was handed in", what)
			}
			kept := copyOf(got)
			scribbled(got)
			if !reflect.DeepEqual(whole(h), before) {
				t.Errorf("%s: a change of the answer changes what was handed in", what)
			}
			got = change(h)
			scribbled(h)
			wantHeap(t, what+": what was handed in is changed", got, kept)
		}
	}
}

func TestListsOfOneHeapShareNothing(t *testing.T) {
	shared := []impl.Prop{prop("a", num(1)), prop("b", num(2))}
	h := heap(object(-1, shared...), object(-1, shared...), object(-1, shared[:1]...))
	same := impl.HeapDelete(h, 9, "a")
	same.Objects[0].Props[0].Key = "changed"
	if same.Objects[1].Props[0].Key != "a" || same.Objects[2].Props[0].Key != "a" {
		t.Errorf("two lists of one answer share memory")
	}
	put := impl.HeapPut(h, 2, "c", num(3))
	put.Objects[0].Props[0].Key = "changed"
	put.Objects[2].Props = append(put.Objects[2].Props, prop("d", num(4)))
	wantHeap(t, "others", heap(put.Objects[1]), heap(object(-1, shared...)))
	wantHeap(t, "what was handed in", h, heap(object(-1, prop("a", num(1)), prop("b", num(2))), object(-1, prop("a", num(1)), prop("b", num(2))), object(-1, prop("a", num(1)))))
}

func TestHeapKeysAreNewMemory(t *testing.T) {
	h := family()
	keys := impl.HeapKeys(h, 3)
	for i := range keys {
		keys[i] = "changed"
	}
	wantKeys(t, h, 3, "own", "all", "nailed", "gone")
	wantHeap(t, "what was handed in", h, family())
}
