package store

// was is what a key had ahead of a change: its value, if it was there.
type was struct {
	pair
	there bool
}

// Begin: a part.
func (s *Store) Begin() {
	if s != nil {
		s.begun = append(s.begun, len(s.journal))
	}
}

// Commit: the innermost part stays.
func (s *Store) Commit() bool {
	_, ok := s.over()
	if ok && s.Depth() == 0 {
		s.journal = nil // nobody can go back any more
	}
	return ok
}

// Rollback: the innermost part was not.
func (s *Store) Rollback() bool {
	from, ok := s.over()
	if !ok {
		return false
	}
undo:
	if last := len(s.journal) - 1; last >= from {
		s.undo(s.journal[last])
		s.journal[last] = was{} // so that its bytes aren't kept behind the journal's end
		s.journal = s.journal[:last]
		goto undo
	}
	return true
}

// Depth: how many parts are begun.
func (s *Store) Depth() int {
	if s == nil {
		return 0
	}
	return len(s.begun)
}

// over ends the innermost part: how long the journal was when it began; false: none is begun.
func (s *Store) over() (int, bool) {
	last := s.Depth() - 1
	if last < 0 {
		return 0, false
	}
	from := s.begun[last]
	s.begun = s.begun[:last]
	return from, true
}

// note keeps what a key has, ahead of its change. With no part begun there is nothing to go back to.
func (s *Store) note(key []byte) {
	if s.Depth() == 0 {
		return
	}
	w := was{pair: pair{key: own(key)}}
	if at, there := s.find(key); there {
		w.value, w.there = s.pairs[at].value, true
	}
	s.journal = append(s.journal, w)
}

// undo makes of a key what it was.
func (s *Store) undo(w was) {
	if w.there {
		s.put(w.key, w.value)
	} else {
		s.drop(w.key)
	}
}
