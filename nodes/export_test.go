package nodes

// Kept tells how many handles and how many names of slots a store holds. No answer tells, but a store that is collected ever so often would grow for ever, and run out of handles.
func (s *Store) Kept() (handles, names int) { return len(s.words), len(s.names) }
