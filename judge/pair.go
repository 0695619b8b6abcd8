package judge

import "skein/api"

// areTwice tells whether both published one version.
func areTwice(x, y *api.Event) bool {
	return publishes(x) && publishes(y) && x.Part == y.Part && x.Number == y.Number
}

// isBack tells whether x goes back behind y, which was ahead of it.
func isBack(x, y *api.Event) bool {
	if isSnap(x) || isSnap(y) || x.Part != y.Part {
		return false
	}
	return x.Number < y.Number || x.Number == y.Number && publishes(x)
}

// isWrittenLate tells whether x published what the snapshot y, which was ahead of it, shows, or has behind it.
func isWrittenLate(x, y *api.Event) bool {
	return isSnap(y) && publishes(x) && x.Number <= y.Numbers[x.Part]
}

// isSnappedLate tells whether the snapshot x doesn't show yet what y, which was ahead of it, told.
func isSnappedLate(x, y *api.Event) bool {
	return isSnap(x) && !isSnap(y) && x.Numbers[y.Part] < y.Number
}

// areApart tells whether two snapshots stand in no order, or in none that their times allow.
func areApart(x, y *api.Event) bool {
	if !isSnap(x) || !isSnap(y) {
		return false
	}
	below, above := isBelow(x, y), isBelow(y, x)
	return below && above || below && wasAhead(y.End, x.Begin) || above && wasAhead(x.End, y.Begin)
}

// isBelow tells whether the snapshot x has a number below y's at some part.
func isBelow(x, y *api.Event) bool {
	for part, n := range x.Numbers {
		if n < y.Numbers[part] {
			return true
		}
	}
	return false
}
