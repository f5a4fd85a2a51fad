package nodes

import "spinney/api"

// SetOrder gives a store without inner nodes another order. The layer that exchanges levels lies above, but what lies between must hold in every order, and tests of it ask for one here.
func (s *Store) SetOrder(vars []int) api.Errno { return s.order.Set(vars) }

// Kept tells how many handles and how many names of slots a store holds. No answer tells, but a store that is collected ever so often would grow for ever, and run out of handles.
func (s *Store) Kept() (handles, names int) { return len(s.words), len(s.names) }
