package audit

import (
	"slices"

	"skein/store"
)

func isNotZero(n int) bool { return n != 0 }

func nobodyIsWithin(s *store.Store) bool {
	return !slices.ContainsFunc(s.Epoch().At(), isNotZero)
}

func nothingWaits(s *store.Store) bool { return len(waiting(s)) == 0 }

func noLeaseIsHeld(s *store.Store) bool {
	return !slices.ContainsFunc(s.Clock().Leases(), isNotZero)
}

// isLong tells whether a part has more than one version.
func isLong(versions []version) bool { return len(versions) > 1 }
