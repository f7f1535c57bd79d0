package store

import "testing"

// What was is kept only while somebody may go back to it.
func TestKeepsNoMoreThanNeeded(t *testing.T) {
	s := New()
	empty := func(when string) {
		t.Helper()
		for _, w := range s.journal[:cap(s.journal)] {
			if w.key != nil || w.value != nil {
				t.Errorf("%s: %q %q is kept", when, w.key, w.value)
			}
		}
		if len(s.journal) != 0 || len(s.begun) != 0 {
			t.Error(when, s.journal, s.begun)
		}
		for _, p := range s.pairs[len(s.pairs):cap(s.pairs)] {
			if p.key != nil || p.value != nil {
				t.Errorf("%s: %q %q is kept behind the pairs", when, p.key, p.value)
			}
		}
	}
	change := func() {
		for _, key := range []string{"a", "b", "c"} {
			s.Set([]byte(key), []byte("v"))
		}
		s.Delete([]byte("b"))
		s.Delete([]byte("x"))
	}
	change()
	empty("with none begun")
	for _, end := range []func() bool{s.Commit, s.Rollback} {
		s.Begin()
		change()
		s.Begin()
		change()
		if !s.Commit() || len(s.journal) == 0 {
			t.Error("what was is lost")
		}
		if !end() {
			t.Error("none was begun")
		}
		empty("behind the outermost part")
	}
	s.Begin()
	s.Delete([]byte("x"))
	if len(s.journal) != 0 {
		t.Error("nothing was done, and is kept", s.journal)
	}
}

// A copy is new memory, though bytes that are never written over could be shared unseen.
func TestCopyIsNewMemory(t *testing.T) {
	s := New()
	s.Set([]byte("key"), []byte("value"))
	p := s.Copy().pairs[0]
	clear(p.key)
	clear(p.value)
	if v, ok := s.Get([]byte("key")); string(v) != "value" || !ok {
		t.Error(v, ok)
	}
}
