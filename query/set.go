package query

// Set is a set of items: the bits that are 1 have the numbers of those in it.
type Set uint

// With is the set with this item in it too.
func (s Set) With(item int) Set { return s | 1<<item }

// Has tells whether the item is in the set.
func (s Set) Has(item int) bool { return s&(1<<item) != 0 }

// IsWithin tells whether all of the set's items are in the other one.
func (s Set) IsWithin(other Set) bool { return s&^other == 0 }
