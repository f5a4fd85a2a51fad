package nodes

import "spinney/api"

// SetOrder gives a store without inner nodes another order. The layer that exchanges levels lies above, but what lies between must hold in every order, and tests of it ask for one here.
func (s *Store) SetOrder(vars []int) api.Errno { return s.order.Set(vars) }
