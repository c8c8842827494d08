package tests

import (
	"strings"
	"testing"

	"loop.example/g00317/impl"
)

var drawnKeys = []string{"a", "b", "c", "", "0", "1", "length", "\xff\n", strings.Repeat("e", 1000)}

// drawnHeap is a right heap with rows of Protos, hidden and fixed Props.
func (d *draws) drawnHeap() impl.Heap {
	h := emptied(1 + d.below(6))
	for i := range h.Objects {
		o := &h.Objects[i]
		o.Class = int64(d.below(3))
		o.Proto = int64(d.below(i+1)) - 1
		for _, key := range drawnKeys {
			if d.below(3) == 0 {
				o.Props = append(o.Props, impl.Prop{Key: key, Value: d.storable(h), Hidden: d.below(3) == 0, Fixed: d.below(3) == 0})
			}
		}
	}
	return h
}

// storable is a Value that may stand in h.
func (d *draws) storable(h impl.Heap) impl.Value {
	if d.below(3) == 0 {
		return ref(int64(d.below(len(h.Objects))))
	}
	v := d.drawnValue()
	if v.Kind == impl.VRef {
		return missing
	}
	return v
}

func ownPlace(o impl.Object, key string) int {
	for i, p := range o.Props {
		if p.Key == key {
			return i
		}
	}
	return -1
}

// firstInRow is what HeapGet is to tell, by the words of the document.
func firstInRow(h impl.Heap, at int64, key string) (impl.Value, bool) {
	for at >= 0 {
		if i := ownPlace(h.Objects[at], key); i >= 0 {
			return h.Objects[at].Props[i].Value, true
		}
		at = h.Objects[at].Proto
	}
	return missing, false
}

func wantRow(t *testing.T, h impl.Heap) {
	t.Helper()
	for at := range h.Objects {
		for _, key := range drawnKeys {
			want, has := firstInRow(h, int64(at), key)
			if impl.HeapHas(h, int64(at), key) != has || impl.HeapGet(h, int64(at), key) != want {
				t.Fatalf("%d %.10q: got %v, want %+v %v", at, key, impl.HeapGet(h, int64(at), key), want, has)
			}
		}
	}
}

// wantPut asks for promise 6 of HeapPut.
func wantPut(t *testing.T, h impl.Heap, at int64, key string, v impl.Value) impl.Heap {
	t.Helper()
	want := copyOf(h)
	if i := ownPlace(want.Objects[at], key); i >= 0 {
		want.Objects[at].Props[i].Value = v
	} else {
		want.Objects[at].Props = append(want.Objects[at].Props, prop(key, v))
	}
	before := copyOf(h)
	got := impl.HeapPut(h, at, key, v)
	wantHeap(t, "what was handed in to HeapPut", h, before)
	wantHeap(t, "HeapPut", got, want)
	if !impl.HeapRight(got) || !impl.HeapHas(got, at, key) || impl.HeapGet(got, at, key) != v {
		t.Fatalf("what is put at %d %.10q is not got: %+v", at, key, v)
	}
	return got
}

// wantDelete asks for promise 6 of HeapDelete.
func wantDelete(t *testing.T, h impl.Heap, at int64, key string) impl.Heap {
	t.Helper()
	want := copyOf(h)
	o := &want.Objects[at]
	if i := ownPlace(*o, key); i >= 0 && !o.Props[i].Fixed {
		o.Props = append(o.Props[:i], o.Props[i+1:]...)
	}
	before := copyOf(h)
	got := impl.HeapDelete(h, at, key)
	wantHeap(t, "what was handed in to HeapDelete", h, before)
	wantHeap(t, "HeapDelete", got, want)
	if !impl.HeapRight(got) {
		t.Fatalf("HeapDelete makes a wrong heap")
	}
	return got
}

func wantGone(t *testing.T, h impl.Heap, at int64, key string) {
	t.Helper()
	for _, k := range impl.HeapKeys(h, at) {
		if k == key {
			t.Fatalf("%.10q is deleted, and among the Keys", key)
		}
	}
	proto := h.Objects[at].Proto
	if impl.HeapHas(h, at, key) != (proto >= 0 && impl.HeapHas(h, proto, key)) {
		t.Fatalf("%.10q is deleted, and had", key)
	}
}

func TestWhatIsPutIsGotAndWhatIsDeletedIsGone(t *testing.T) {
	d := &draws{state: 6}
	for range 400 {
		h := d.drawnHeap()
		if !impl.HeapRight(h) {
			t.Fatalf("a drawn heap is not right: %+v", h)
		}
		for range 12 {
			at := int64(d.below(len(h.Objects)))
			key := drawnKeys[d.below(len(drawnKeys))]
			if d.below(2) == 0 {
				h = wantPut(t, h, at, key, d.storable(h))
			} else {
				i := ownPlace(h.Objects[at], key)
				isFixed := i >= 0 && h.Objects[at].Props[i].Fixed
				h = wantDelete(t, h, at, key)
				if !isFixed {
					wantGone(t, h, at, key)
				}
			}
			wantRow(t, h)
		}
	}
}
