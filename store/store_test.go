package store_test

import (
	"fmt"
	"maps"
	"math/rand/v2"
	"slices"
	"strings"
	"testing"

	"jointure/store"
)

// A both is a store, and what P5.1 and P5.2 say that it is: texts by texts, and what they were when each part began.
type both struct {
	t     *testing.T
	s     *store.Store
	is    map[string]string
	was   []map[string]string
	steps []string
}

func start(t *testing.T) *both { return &both{t: t, s: store.New(), is: map[string]string{}} }

// wrong tells a fault, and which steps went ahead of it.
func (b *both) wrong(what string, more ...any) {
	b.t.Helper()
	b.t.Fatalf("behind %s: %s %v", strings.Join(b.steps, ", "), what, more)
}

func (b *both) step(form string, more ...any) { b.steps = append(b.steps, fmt.Sprintf(form, more...)) }

const behind = "behind it"

// lend is a text as bytes, with room behind them that isn't the store's to read or to write.
func lend(text string) []byte { return []byte(text + behind)[:len(text)] }

// takeBack holds bytes that were lent against what they were, and writes over them.
func (b *both) takeBack(p []byte, text string) {
	b.t.Helper()
	if string(p[:len(text)+len(behind)]) != text+behind {
		b.wrong("written into what was handed in", text)
	}
	scribble(p[:len(text)+len(behind)])
}

// scribble writes over bytes, and over the room behind them.
func scribble(p []byte) {
	for i := range p[:cap(p)] {
		p[:cap(p)][i] ^= 0x55
	}
}

func (b *both) set(key, value string) {
	b.t.Helper()
	b.step("Set %q %q", key, value)
	k, v := lend(key), lend(value)
	b.s.Set(k, v)
	b.takeBack(k, key)
	b.takeBack(v, value)
	b.is[key] = value
}

func (b *both) remove(key string) {
	b.t.Helper()
	b.step("Delete %q", key)
	k := lend(key)
	b.s.Delete(k)
	b.takeBack(k, key)
	delete(b.is, key)
}

func (b *both) begin() {
	b.step("Begin")
	b.s.Begin()
	b.was = append(b.was, maps.Clone(b.is))
}

func (b *both) commit() {
	b.t.Helper()
	b.step("Commit")
	if ok := b.s.Commit(); ok != (len(b.was) > 0) {
		b.wrong("it answers", ok)
	}
	b.was = b.was[:max(len(b.was), 1)-1]
}

func (b *both) rollback() {
	b.t.Helper()
	b.step("Rollback")
	if ok := b.s.Rollback(); ok != (len(b.was) > 0) {
		b.wrong("it answers", ok)
	}
	if last := len(b.was) - 1; last >= 0 {
		b.is, b.was = b.was[last], b.was[:last]
	}
}

// begins are the keys that begin with a text, in the order that P5.1 says.
func begins(is map[string]string, prefix string) []string {
	var l []string
	for key := range is {
		if strings.HasPrefix(key, prefix) {
			l = append(l, key)
		}
	}
	slices.Sort(l)
	return l
}

// look holds what the calls that change nothing answer against what they should, at these keys and prefixes and at all that are there.
func (b *both) look(keys ...string) {
	b.t.Helper()
	if b.s.Len() != len(b.is) || b.s.Depth() != len(b.was) {
		b.wrong("Len, Depth", b.s.Len(), b.s.Depth())
	}
	for _, key := range append(begins(b.is, ""), keys...) {
		k := lend(key)
		v, ok := b.s.Get(k)
		b.takeBack(k, key)
		want, there := b.is[key]
		if string(v) != want || ok != there {
			b.wrong("Get", key, v, ok)
		}
		scribble(v)
	}
	for _, prefix := range append(keys, "") {
		p := lend(prefix)
		l := b.s.Keys(p)
		b.takeBack(p, prefix)
		want := begins(b.is, prefix)
		if len(l) != len(want) {
			b.wrong("Keys", prefix, l)
		}
		for i, k := range l { // one written over must change none of those behind it
			if string(k) != want[i] {
				b.wrong("Keys", prefix, l)
			}
			scribble(k)
		}
		for i := range l[:cap(l)] {
			l[:cap(l)][i] = nil
		}
	}
}

// alike is a store of these pairs, made anew.
func alike(is map[string]string) *store.Store {
	s := store.New()
	for key, value := range is {
		s.Set([]byte(key), []byte(value))
	}
	return s
}

func TestP5_1GetSetDelete(t *testing.T) {
	b := start(t)
	b.look("", "a", "\x00")
	b.set("a", "1")
	b.look("", "a", "aa", "b", "a\x00")
	b.set("a", "22") // another value of the same key
	b.look("a")
	b.set("a", "")
	b.look("a")
	b.set("b", "22")
	b.remove("c")
	b.look("a", "b", "c")
	b.remove("a")
	b.look("a", "b")
	b.remove("a")
	b.remove("b")
	b.look("a", "b", "")
	b.set("a", "again")
	b.look("a")
}

// A key of no bytes is one, a value of no bytes is one, and nil is as no bytes.
func TestP5_1NoBytes(t *testing.T) {
	for _, none := range [][]byte{nil, {}, []byte("x")[:0]} {
		for _, other := range [][]byte{nil, {}} {
			s := store.New()
			if _, ok := s.Get(none); ok || s.Len() != 0 {
				t.Error("a new store has a key of no bytes")
			}
			s.Set(none, []byte("v"))
			if v, ok := s.Get(other); !ok || string(v) != "v" || s.Len() != 1 {
				t.Error(v, ok)
			}
			if l := s.Keys(other); len(l) != 1 || len(l[0]) != 0 {
				t.Error(l)
			}
			s.Set(other, none)
			if v, ok := s.Get(none); !ok || len(v) != 0 || s.Len() != 1 {
				t.Error(v, ok)
			}
			s.Set([]byte("k"), other)
			if v, ok := s.Get([]byte("k")); !ok || len(v) != 0 || s.Len() != 2 {
				t.Error(v, ok)
			}
			s.Delete(other)
			if _, ok := s.Get(none); ok || s.Len() != 1 {
				t.Error("it isn't gone")
			}
			s.Begin()
			s.Set(none, nil)
			s.Delete([]byte("k"))
			s.Rollback()
			if _, ok := s.Get(none); ok || len(s.Keys(nil)) != 1 {
				t.Error("a key of no bytes isn't rolled back")
			}
		}
	}
}

// Keys begin one another; bytes are held against each other as numbers from 0 to 255.
func TestP5_1Keys(t *testing.T) {
	rising := []string{
		"", "\x00", "\x00\x00", "\x00\x01", "\x00\xff", "\x01", "a", "a\x00", "aa", "aaa", "aab", "ab", "a\x7f", "a\x80", "a\xff", "a\xff\x00", "a\xff\xff",
		"b", "\x7f", "\x80", "\xfe", "\xfe\xff", "\xff", "\xff\x00", "\xff\xfe", "\xff\xff", "\xff\xff\xff",
	}
	if !slices.IsSorted(rising) {
		t.Fatal("the test's own list isn't rising")
	}
	r := rand.New(rand.NewPCG(5, 1))
	for range 50 {
		b := start(t)
		for _, i := range r.Perm(len(rising)) {
			b.set(rising[i], rising[len(rising)-1-i])
		}
		for i, key := range b.s.Keys(nil) {
			if string(key) != rising[i] {
				t.Fatalf("%d: %q, not %q", i, key, rising[i])
			}
		}
		b.look(append(rising, "x", "aaaa", "aa\x00", "c", "\xff\xff\xff\xff", "\xfd")...)
		for _, i := range r.Perm(len(rising))[:9] {
			b.remove(rising[i])
			b.look(rising...)
		}
	}
}

// Keys of all texts of up to three of a few bytes, with each of them as a prefix.
func TestP5_1AllPrefixes(t *testing.T) {
	texts := []string{""}
	for at := 0; len(texts[at]) < 3; at++ {
		for _, c := range []string{"\x00", "m", "\xff"} {
			texts = append(texts, texts[at]+c)
		}
	}
	for from := range 5 {
		b := start(t)
		for i := from; i < len(texts); i += 1 + from {
			b.set(texts[i], "v")
		}
		b.look(texts...)
	}
}

func TestP5_2Example(t *testing.T) {
	b := start(t)
	b.set("a", "1")
	b.begin()
	b.set("a", "2")
	b.begin()
	b.remove("a")
	b.look("a")
	b.commit()
	b.look("a")
	b.rollback()
	b.look("a")
	if v, ok := b.s.Get([]byte("a")); string(v) != "1" || !ok || b.s.Depth() != 0 {
		t.Error(v, ok)
	}
}

// With none begun both answer false, do nothing, and begin nothing; so do they behind a last part.
func TestP5_2NoneBegun(t *testing.T) {
	for _, end := range []func(*both){(*both).commit, (*both).rollback} {
		b := start(t)
		b.commit()
		b.rollback()
		b.look()
		b.set("a", "1")
		b.set("b", "2")
		b.set("a", "3")
		b.remove("b")
		end(b)
		b.look("a", "b")
		b.begin()
		b.set("b", "4")
		end(b)
		b.look("a", "b")
		end(b)
		b.commit()
		b.rollback()
		b.look("a", "b")
		b.set("c", "5")
		b.rollback()
		b.look("a", "b", "c")
	}
}

// All that can be done to a key, there or not, once and twice in a part.
func TestP5_2Rollback(t *testing.T) {
	deeds := []func(b *both, key string){
		func(b *both, key string) { b.set(key, "new") },
		func(b *both, key string) { b.set(key, "old") },
		func(b *both, key string) { b.set(key, "") },
		(*both).remove,
	}
	for _, key := range []string{"", "a", "aa", "b"} {
		for _, first := range deeds {
			for _, second := range deeds {
				for _, end := range []func(*both){(*both).commit, (*both).rollback} {
					b := start(t)
					b.set("", "old")
					b.set("aa", "old")
					b.begin()
					first(b, key)
					b.look(key)
					b.begin()
					second(b, key)
					b.look(key)
					end(b)
					b.look(key)
					first(b, key)
					b.rollback()
					b.look(key)
				}
			}
		}
	}
}

// Parts that were committed are rolled back with the next outer one, not with the one behind them, and not if all were committed.
func TestP5_2Within(t *testing.T) {
	b := start(t)
	b.set("a", "0")
	b.set("d", "0")
	b.begin()
	b.set("a", "1")
	b.begin()
	b.set("b", "2")
	b.remove("d")
	b.begin()
	b.set("a", "3")
	b.set("c", "3")
	b.commit()
	b.look("a", "b", "c", "d")
	b.commit()
	b.begin()
	b.remove("a")
	b.remove("b")
	b.set("d", "4")
	b.look("a", "b", "c", "d")
	b.rollback()
	b.look("a", "b", "c", "d")
	b.begin()
	b.commit()
	b.begin()
	b.rollback()
	b.look("a", "b", "c", "d")
	b.rollback()
	b.look("a", "b", "c", "d")
	b.begin()
	b.begin()
	b.set("a", "5")
	b.commit()
	b.commit()
	b.rollback()
	b.look("a", "b", "c", "d")
}

// As many levels as the document speaks of, each of them ended in one of both ways.
func TestP5_2Deep(t *testing.T) {
	const levels = 1 << 16
	for _, every := range []int{1, 2, 3, levels} {
		s := store.New()
		for i := range levels {
			s.Set([]byte("k"), fmt.Append(nil, i))
			s.Begin()
		}
		s.Set([]byte("k"), []byte("last"))
		last := "last"
		for i := levels - 1; i >= 0; i-- {
			if s.Depth() != i+1 {
				t.Fatal(i, s.Depth())
			}
			if i%every == 0 {
				last = fmt.Sprint(i)
				if !s.Rollback() {
					t.Fatal(i)
				}
			} else if !s.Commit() {
				t.Fatal(i)
			}
			if v, ok := s.Get([]byte("k")); string(v) != last || !ok {
				t.Fatalf("%d: %s, not %s", i, v, last)
			}
		}
		if s.Depth() != 0 || s.Commit() || s.Rollback() {
			t.Error(s.Depth())
		}
	}
}

// All orders of up to five calls, from a few keys and values (but those that only Begin at their ends).
func TestP5_2AllShort(t *testing.T) {
	deeds := []func(b *both){(*both).begin, (*both).commit, (*both).rollback}
	keys := []string{"", "a", "ab"}
	for _, key := range keys {
		deeds = append(deeds,
			func(b *both) { b.set(key, "1") },
			func(b *both) { b.set(key, "") },
			func(b *both) { b.remove(key) })
	}
	size := len(deeds)
	for order := range size * size * size * size * size {
		b := start(t)
		for left := order; left > 0; left /= size {
			deeds[left%size](b)
		}
		b.look(keys...)
		for len(b.was) > 0 {
			b.rollback()
		}
		b.look(keys...)
	}
}

// anyDeed does one call out of all that there are.
func anyDeed(b *both, r *rand.Rand, keys []string) {
	key := keys[r.IntN(len(keys))]
	switch n := r.IntN(20); {
	case n < 8:
		b.set(key, keys[r.IntN(len(keys))])
	case n < 13:
		b.remove(key)
	case n < 16:
		b.begin()
	case n < 18:
		b.commit()
	default:
		b.rollback()
	}
}

// anyKeys are texts of a few bytes, many of which begin one another.
func anyKeys(r *rand.Rand) []string {
	l := make([]string, 1+r.IntN(40))
	for i := range l {
		for range r.IntN(6) {
			at := r.IntN(4)
			l[i] += "\x00ab\xff"[at : at+1]
		}
	}
	return l
}

// Any calls, with copies on the way: each goes on alone, and what was handed in and answered is written over behind each call.
func TestP5Any(t *testing.T) {
	r := rand.New(rand.NewPCG(5, 2))
	deepest := 0
	for range 300 {
		keys := anyKeys(r)
		l := []*both{start(t)}
		for range 300 {
			b := l[r.IntN(len(l))]
			anyDeed(b, r, keys)
			deepest = max(deepest, b.s.Depth())
			if r.IntN(100) == 0 {
				l = append(l, b.copied())
			}
			for _, b := range l {
				b.look(keys[r.IntN(len(keys))])
			}
		}
		for _, a := range l {
			for _, b := range l {
				if store.Same(a.s, b.s) != maps.Equal(a.is, b.is) {
					b.wrong("Same", a.is, b.is)
				}
			}
			if !store.Same(a.s, alike(a.is)) {
				a.wrong("not Same as one that was made anew")
			}
		}
	}
	if deepest < 5 {
		t.Error("hardly any part is within another:", deepest)
	}
}

// copied is a Copy with what it should be.
func (b *both) copied() *both {
	c := &both{t: b.t, s: b.s.Copy(), is: maps.Clone(b.is), steps: append(slices.Clone(b.steps), "Copy")}
	if c.s == nil || c.s == b.s || !store.Same(b.s, c.s) {
		b.wrong("its Copy isn't alike, or is itself")
	}
	return c
}

// A copy has nothing begun; whatever is done to it or to the first one isn't done to the other.
func TestP5_3Copy(t *testing.T) {
	b := start(t)
	b.copied().look("a")
	b.set("a", "1")
	b.set("b", "1")
	b.begin()
	b.set("a", "2")
	b.begin()
	b.remove("b")
	b.set("c", "2")
	c := b.copied()
	c.look("a", "b", "c")
	c.rollback() // none is begun
	c.commit()
	c.look("a", "b", "c")
	b.look("a", "b", "c")
	b.rollback()
	c.look("a", "b", "c")
	b.rollback()
	b.look("a", "b", "c")
	c.look("a", "b", "c")
	c.begin()
	c.set("a", "3")
	c.remove("c")
	c.set("0", "3")
	b.look("a", "b", "c", "0")
	d := c.copied()
	c.rollback()
	c.look("a", "b", "c", "0")
	d.look("a", "b", "c", "0")
	b.remove("a")
	b.set("b", "4")
	c.look("a", "b", "c", "0")
	d.look("a", "b", "c", "0")
}

func TestP5_3Same(t *testing.T) {
	l := []map[string]string{
		{}, {"": ""}, {"a": ""}, {"": "a"}, {"a": "b"}, {"ab": ""}, {"a": "bc"}, {"ab": "c"}, {"a": "c"}, {"b": "b"},
		{"a": "", "b": ""}, {"a": "", "": ""}, {"a": "b", "c": "d"}, {"a": "d", "c": "b"}, {"a": "b", "c": "d", "e": ""}, {"a\x00": "b"}, {"a": "b\x00"},
	}
	for i, x := range l {
		for j, y := range l {
			if store.Same(alike(x), alike(y)) != (i == j) {
				t.Error(x, y)
			}
		}
		if store.Same(nil, alike(x)) != (i == 0) || store.Same(alike(x), nil) != (i == 0) {
			t.Error("nil", x)
		}
	}
	s := alike(l[12])
	if !store.Same(s, s) || !store.Same(nil, nil) {
		t.Error("not the same as itself")
	}
}

// Neither what is begun nor the way on which it came about matters.
func TestP5_3SameBegun(t *testing.T) {
	a, b := store.New(), store.New()
	a.Begin()
	if !store.Same(a, b) || !store.Same(b, a) || !store.Same(a, nil) {
		t.Error("of nothing, with a part begun")
	}
	a.Set([]byte("k"), []byte("v"))
	a.Begin()
	a.Set([]byte("x"), nil)
	b.Set([]byte("k"), []byte("u"))
	b.Set([]byte("k"), []byte("v"))
	if store.Same(a, b) {
		t.Error("x is in one alone")
	}
	a.Delete([]byte("x"))
	if !store.Same(a, b) || !store.Same(b, a) || a.Depth() != 2 || b.Depth() != 0 {
		t.Error("with two parts begun")
	}
	a.Rollback()
	a.Rollback()
	if store.Same(a, b) || !store.Same(a, nil) {
		t.Error("rolled back")
	}
}

func TestP5_3Nil(t *testing.T) {
	var s *store.Store
	for range 2 {
		for _, p := range [][]byte{nil, {}, []byte("a")} {
			if v, ok := s.Get(p); v != nil || ok {
				t.Error(v, ok)
			}
			s.Set(p, p)
			s.Delete(p)
			if l := s.Keys(p); len(l) != 0 {
				t.Error(l)
			}
		}
		s.Begin()
		if s.Depth() != 0 || s.Len() != 0 || s.Commit() || s.Rollback() || s.Depth() != 0 {
			t.Error("something is begun")
		}
		if s.Copy() != nil {
			t.Error(s.Copy())
		}
		if !store.Same(s, nil) || !store.Same(s, store.New()) || !store.Same(store.New(), s) {
			t.Error("not as one of no keys")
		}
	}
}

func TestNew(t *testing.T) {
	a, b := store.New(), store.New()
	if a == nil || a == b || a.Len() != 0 || a.Depth() != 0 || len(a.Keys(nil)) != 0 {
		t.Error(a, b)
	}
	a.Begin()
	a.Set(nil, nil)
	if b.Len() != 0 || b.Depth() != 0 {
		t.Error("two stores share")
	}
}

// What is kept isn't what was handed in, be it as key and value at once, and isn't what was answered: of a part that is rolled back, too.
func TestSharesNothing(t *testing.T) {
	s := store.New()
	p := []byte("both")
	s.Set(p, p)
	s.Begin()
	s.Set(p, p[:1])
	s.Delete(p)
	s.Set(p[:2], p[2:])
	copy(p, "xxxx")
	v, _ := s.Get([]byte("bo"))
	scribble(v)
	c := s.Copy()
	for _, k := range s.Keys(nil) {
		scribble(k)
	}
	if v, ok := s.Get([]byte("bo")); string(v) != "th" || !ok {
		t.Error(v, ok)
	}
	s.Rollback()
	if v, ok := s.Get([]byte("both")); string(v) != "both" || !ok || s.Len() != 1 {
		t.Error(v, ok)
	}
	if v, ok := c.Get([]byte("bo")); string(v) != "th" || !ok || c.Len() != 1 {
		t.Error(v, ok)
	}
}

// P1: many keys, in each order, within a part and without one.
func TestP1Many(t *testing.T) {
	const many = 1 << 14
	for _, step := range []int{1, many - 1, 12345} { // rising, falling, neither
		s := store.New()
		s.Begin()
		for i, at := 0, 0; i < many; i, at = i+1, (at+step)%many {
			s.Set([]byte{byte(at >> 8), byte(at)}, []byte{byte(at)})
		}
		l := s.Keys(nil)
		if s.Len() != many || len(l) != many || len(s.Keys([]byte{1})) != 256 {
			t.Fatal(step, s.Len(), len(l))
		}
		for at, key := range l {
			if v, ok := s.Get(key); key[0] != byte(at>>8) || key[1] != byte(at) || !ok || len(v) != 1 || v[0] != byte(at) {
				t.Fatal(step, at, key, v, ok)
			}
		}
		c := s.Copy()
		if !store.Same(s, c) || !s.Rollback() || s.Len() != 0 || c.Len() != many || store.Same(s, c) {
			t.Error(step)
		}
	}
}
