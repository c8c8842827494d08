package tests

import (
	"math"
	"reflect"
	"strings"
	"testing"

	"loop.example/g00317/impl"
)

// edge is the greatest Key, over one byte more, and long the shortest text that is refused as such.
var (
	edge = strings.Repeat("k", 1000)
	over = strings.Repeat("k", 1001)
	long = strings.Repeat("k", impl.MaxBytes+1)
)

func heap(objects ...impl.Object) impl.Heap {
	return impl.Heap{Objects: objects}
}

func object(proto int64, props ...impl.Prop) impl.Object {
	return impl.Object{Proto: proto, Props: props}
}

func prop(key string, v impl.Value) impl.Prop {
	return impl.Prop{Key: key, Value: v}
}

func hidden(p impl.Prop) impl.Prop {
	p.Hidden = true
	return p
}

func fixed(p impl.Prop) impl.Prop {
	p.Fixed = true
	return p
}

// emptied is a heap of so many objects without Props.
func emptied(objects int) impl.Heap {
	h := impl.Heap{}
	for range objects {
		h.Objects = append(h.Objects, impl.Object{Proto: -1})
	}
	return h
}

// copyOf shares nothing with h; an empty list is none, so that two heaps may be compared.
func copyOf(h impl.Heap) impl.Heap {
	out := impl.Heap{}
	for _, o := range h.Objects {
		o.Props = append([]impl.Prop(nil), o.Props...)
		out.Objects = append(out.Objects, o)
	}
	return out
}

func wantHeap(t *testing.T, what string, got, want impl.Heap) {
	t.Helper()
	if !reflect.DeepEqual(copyOf(got), copyOf(want)) {
		t.Errorf("%s: got %.300v, want %.300v", what, got, want)
	}
}

// family has what each function tells apart: 3 is of 1, which is of 0; 2 stands alone; 4 is of arguments.
func family() impl.Heap {
	return heap(
		object(-1, prop("far", num(1)), prop("all", num(2)), hidden(prop("veiled", num(3)))),
		object(0, prop("near", num(4)), prop("all", num(5)), prop("two", written("t"))),
		object(-1),
		object(1, prop("own", num(6)), hidden(prop("dim", num(7))), prop("all", num(8)),
			fixed(prop("nailed", num(9))), hidden(fixed(prop("both", ref(4)))), prop("gone", missing)),
		impl.Object{Class: impl.CArgs, Proto: 0, Props: []impl.Prop{prop("0", num(1)), prop("1", written("b")), hidden(prop("length", num(2)))}},
		impl.Object{Class: impl.CFunc, Proto: -1, Props: []impl.Prop{hidden(fixed(prop("prototype", ref(3)))), prop("", yes)}},
	)
}

// spoiltHeaps are right but for one thing each.
func spoiltHeaps() map[string]impl.Heap {
	all := map[string]impl.Heap{"401 objects": emptied(401), "many objects": emptied(3000)}
	change := func(what string, spoil func(h impl.Heap)) {
		h := family()
		spoil(h)
		all[what] = h
	}
	change("Class -1", func(h impl.Heap) { h.Objects[2].Class = -1 })
	change("Class 3", func(h impl.Heap) { h.Objects[5].Class = 3 })
	change("Class of 32 bits", func(h impl.Heap) { h.Objects[0].Class = 1 << 32 })
	change("least Class", func(h impl.Heap) { h.Objects[0].Class = math.MinInt64 })
	change("Proto -2", func(h impl.Heap) { h.Objects[1].Proto = -2 })
	change("least Proto", func(h impl.Heap) { h.Objects[1].Proto = math.MinInt64 })
	change("Proto itself", func(h impl.Heap) { h.Objects[3].Proto = 3 })
	change("Proto itself, the first", func(h impl.Heap) { h.Objects[0].Proto = 0 })
	change("Proto behind", func(h impl.Heap) { h.Objects[2].Proto = 3 })
	change("Proto beyond", func(h impl.Heap) { h.Objects[5].Proto = 6 })
	change("greatest Proto", func(h impl.Heap) { h.Objects[5].Proto = math.MaxInt64 })
	change("like Keys side by side", func(h impl.Heap) { h.Objects[1].Props[1].Key = "near" })
	change("like Keys apart", func(h impl.Heap) { h.Objects[3].Props[5].Key = "own" })
	change("like Keys of arguments", func(h impl.Heap) { h.Objects[4].Props[2].Key = "0" })
	change("like empty Keys", func(h impl.Heap) { h.Objects[5].Props[0].Key = "" })
	change("Key of 1001 bytes", func(h impl.Heap) { h.Objects[5].Props[1].Key = over })
	change("VRef beyond the last", func(h impl.Heap) { h.Objects[0].Props[0].Value = ref(6) })
	change("VRef of no heap", func(h impl.Heap) { h.Objects[5].Props[1].Value = ref(400) })
	change("VRef below 0", func(h impl.Heap) { h.Objects[4].Props[2].Value = ref(-1) })
	for _, v := range spoiltValues() {
		change("Value of "+impl.Quote(short(v).Text)+" "+num64(v.Kind)+" "+num64(v.Num), func(h impl.Heap) { h.Objects[3].Props[1].Value = v })
	}
	return all
}

func num64(n int64) string {
	return impl.ToText(num(n % impl.MaxNumber))
}

func TestHeapRightTakesTheEdges(t *testing.T) {
	full := emptied(400)
	full.Objects[0].Props = []impl.Prop{prop("last", ref(399)), prop(edge, written(edge))}
	full.Objects[399].Proto = 398
	crowd := emptied(1)
	for i := range int64(1000) {
		crowd.Objects[0].Props = append(crowd.Objects[0].Props, prop("k"+num64(i), num(i)))
	}
	for what, h := range map[string]impl.Heap{
		"none": {}, "one": emptied(1), "399": emptied(399), "400": emptied(400), "family": family(), "full": full, "a thousand Props": crowd,
		"classes":        heap(impl.Object{Class: 0, Proto: -1}, impl.Object{Class: 1, Proto: -1}, impl.Object{Class: 2, Proto: -1}),
		"VRef of itself": heap(object(-1, prop("me", ref(0)))),
		"VRef behind":    heap(object(-1, prop("next", ref(1))), object(-1)),
		"Keys of bytes":  heap(object(-1, prop("\xff", missing), prop("\x00", null), prop("", bad), prop(" ", no))),
		"Keys by case":   heap(object(-1, prop("a", missing), prop("A", missing), prop("a ", missing))),
	} {
		if !impl.HeapRight(h) {
			t.Errorf("%s: not right", what)
		}
	}
	for _, v := range rightValues() {
		if !impl.HeapRight(impl.Heap{Objects: append(emptied(399).Objects, object(-1, prop("v", v)))}) {
			t.Errorf("a Value %+v: not right", short(v))
		}
	}
}

func TestOfHeapsThatAreNotRight(t *testing.T) {
	for what, h := range spoiltHeaps() {
		before := copyOf(h)
		if impl.HeapRight(h) {
			t.Errorf("%s: right", what)
		}
		for _, key := range []string{"own", "far", "all", "", "none"} {
			wantNothingOf(t, what, h, 3, key)
			wantNothingOf(t, what, h, 5, key)
		}
		wantHeap(t, what+", what was handed in", h, before)
	}
}

// wantNothingOf asks each function for its answer to a wrong heap or ref.
func wantNothingOf(t *testing.T, what string, h impl.Heap, at int64, key string) {
	t.Helper()
	if impl.HeapHas(h, at, key) || impl.HeapGet(h, at, key) != missing || len(impl.HeapKeys(h, at)) != 0 {
		t.Errorf("%s, %d, %q: HeapHas %v, HeapGet %+v, HeapKeys %v", what, at, key,
			impl.HeapHas(h, at, key), impl.HeapGet(h, at, key), impl.HeapKeys(h, at))
	}
	wantHeap(t, what+", HeapPut", impl.HeapPut(h, at, key, num(77)), h)
	wantHeap(t, what+", HeapDelete", impl.HeapDelete(h, at, key), h)
}

func TestOfRefsThatAreNoNumber(t *testing.T) {
	for _, at := range []int64{-1, -2, math.MinInt64, 6, 7, 399, 400, 401, math.MaxInt64, 1 << 32} {
		for _, key := range []string{"own", "far", "all", "0", ""} {
			wantNothingOf(t, "family", family(), at, key)
		}
	}
	for _, at := range []int64{-1, 0, 1} {
		wantNothingOf(t, "no object", impl.Heap{}, at, "a")
	}
	wantNothingOf(t, "400 objects", emptied(400), 400, "a")
}

func TestOfKeysThatAreTooLong(t *testing.T) {
	heaps := spoiltHeaps()
	heaps["family"] = family()
	for what, h := range heaps {
		for _, at := range []int64{-1, 0, 3, 400} {
			if impl.HeapHas(h, at, long) || impl.HeapGet(h, at, long) != missing {
				t.Errorf("%s, %d: a Key of 4001 bytes is had", what, at)
			}
			wantHeap(t, what+", HeapPut of 4001 bytes", impl.HeapPut(h, at, long, num(1)), impl.Heap{})
			wantHeap(t, what+", HeapDelete of 4001 bytes", impl.HeapDelete(h, at, long), impl.Heap{})
		}
	}
	for _, key := range []string{over, long[:impl.MaxBytes]} {
		if impl.HeapHas(family(), 3, key) || impl.HeapGet(family(), 3, key) != missing {
			t.Errorf("a Key of %d bytes is had", len(key))
		}
		wantHeap(t, "HeapPut of a long Key", impl.HeapPut(family(), 3, key, num(1)), family())
		wantHeap(t, "HeapDelete of a long Key", impl.HeapDelete(family(), 3, key), family())
	}
}

func TestHeapHasAndGetGoUp(t *testing.T) {
	for _, c := range []struct {
		at   int64
		key  string
		has  bool
		want impl.Value
	}{
		{3, "own", true, num(6)}, {3, "dim", true, num(7)}, {3, "nailed", true, num(9)}, {3, "both", true, ref(4)},
		{3, "near", true, num(4)}, {3, "two", true, written("t")}, {3, "far", true, num(1)}, {3, "veiled", true, num(3)},
		{3, "all", true, num(8)}, {1, "all", true, num(5)}, {0, "all", true, num(2)}, {4, "all", true, num(2)},
		{3, "gone", true, missing}, {3, "none", false, missing}, {3, "", false, missing}, {3, "OWN", false, missing},
		{3, "own ", false, missing}, {3, "0", false, missing},
		{1, "own", false, missing}, {0, "near", false, missing}, {2, "all", false, missing}, {2, "", false, missing},
		{4, "0", true, num(1)}, {4, "1", true, written("b")}, {4, "length", true, num(2)}, {4, "2", false, missing},
		{5, "prototype", true, ref(3)}, {5, "", true, yes}, {5, "own", false, missing},
	} {
		if got := impl.HeapHas(family(), c.at, c.key); got != c.has {
			t.Errorf("HeapHas %d %q: %v", c.at, c.key, got)
		}
		if got := impl.HeapGet(family(), c.at, c.key); got != c.want {
			t.Errorf("HeapGet %d %q: %+v", c.at, c.key, got)
		}
	}
}

func TestHeapGetGoesUpTheLongestRow(t *testing.T) {
	h := emptied(400)
	for i := range h.Objects {
		h.Objects[i].Proto = int64(i) - 1
	}
	h.Objects[0].Props = []impl.Prop{prop("a", num(1)), prop(edge, num(2))}
	for _, at := range []int64{0, 1, 200, 399} {
		if impl.HeapGet(h, at, "a") != num(1) || impl.HeapGet(h, at, edge) != num(2) || !impl.HeapHas(h, at, edge) {
			t.Errorf("%d does not have what the first one has", at)
		}
	}
	h.Objects[199].Proto = -1
	if impl.HeapHas(h, 399, "a") || !impl.HeapHas(h, 198, "a") {
		t.Errorf("a row without end")
	}
}
