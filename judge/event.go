package judge

import "skein/api"

// isRight tells whether an event of a map of so many parts can be.
func isRight(e *api.Event, parts int) bool {
	if e.Kind < api.Read || e.Kind > api.Batch || !isTime(e.Begin, e.End) || !isOfPart(e, parts) {
		return false
	}
	switch {
	case e.End == 0:
		return true
	case isSnap(e):
		return areNumbers(e.Numbers, parts)
	case publishes(e):
		return e.Number >= 2
	}
	return e.Number >= 1
}

// isOfPart tells whether an event is of a part that is there; a snapshot, which is of all, tells 0.
func isOfPart(e *api.Event, parts int) bool {
	if isSnap(e) {
		return e.Part == 0
	}
	return e.Part >= 0 && e.Part < parts
}

// areNumbers tells whether a list has a version's number for each part.
func areNumbers(l []int, parts int) bool {
	if len(l) != parts {
		return false
	}
	for _, n := range l {
		if n < 1 {
			return false
		}
	}
	return true
}

func isSnap(e *api.Event) bool { return e.Kind == api.Snapshot }

// publishes tells whether an event is of a kind that publishes a version.
func publishes(e *api.Event) bool { return e.Kind == api.Write || e.Kind == api.Batch }

// toldOf tells the number of the version of which an event says Had and Value; 0: of none.
func toldOf(e *api.Event) int {
	switch e.Kind {
	case api.Read, api.Same:
		return e.Number
	case api.Write:
		return e.Number - 1
	}
	return 0
}

// change makes of what a version holds what the next one holds, which e published.
func change(held map[int]int, e *api.Event) {
	switch {
	case e.Kind == api.Batch:
		lay(held, e.Pairs)
	case e.Has:
		held[e.Key] = e.New
	default:
		delete(held, e.Key)
	}
}

// lay lays pairs down, one behind the other.
func lay(held map[int]int, l []api.Pair) {
	for _, pair := range l {
		held[pair.Key] = pair.Value
	}
}
