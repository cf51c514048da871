package upcast

import (
	"strings"
	"testing"

	"cartulary/api"
)

// P14.2: the least version from 0 on without an Upcast.
func TestLatest(t *testing.T) {
	isLatest(t, nil, "a", 0)
	isLatest(t, nil, "", 0)
	for _, n := range []int{0, 1, 2, 63, 64, 65, 1000} {
		l := manyUpcasts(n)
		isLatest(t, l, "a", n)
		isLatest(t, l, "b", 0)
		isLatest(t, l, "", 0)
		isLatest(t, l, "aa", 0)
		// A gap ends it, wherever it is.
		for at := range min(n, 70) {
			l := manyUpcasts(n)
			l[at].Type = "b"
			isLatest(t, l, "a", at)
			isLatest(t, l, "b", map[bool]int{true: 1}[at == 0])
		}
	}
}

// P14.2: the order in the list does not matter, nor what is there twice, below 0, far above or of other types.
func TestLatestAny(t *testing.T) {
	isLatest(t, []api.Upcast{from("a", 2), from("a", 0), from("a", 1)}, "a", 3)
	isLatest(t, []api.Upcast{from("a", 1), from("a", 2)}, "a", 0)
	isLatest(t, []api.Upcast{from("a", 0), from("a", 0), from("a", 0)}, "a", 1)
	isLatest(t, []api.Upcast{from("a", 0), from("a", 2), from("a", 3)}, "a", 1)
	isLatest(t, []api.Upcast{from("a", -1), from("a", least), from("a", -2)}, "a", 0)
	isLatest(t, []api.Upcast{from("a", -1), from("a", 0), from("a", most), from("a", api.MaxVersion)}, "a", 1)
	isLatest(t, []api.Upcast{from("a", 1<<32), from("a", 1<<32+1)}, "a", 0)
	isLatest(t, []api.Upcast{from("a", 0), from("b", 1), from("a", 2)}, "a", 1)
}

// P14.2, R7: the type is any text, of upcasters that may not be too.
func TestLatestTypes(t *testing.T) {
	for _, kind := range append(noNames(), someNames()...) {
		isLatest(t, []api.Upcast{from("other", 0), from(kind, 1, api.Change{}), from(kind, 0, drops("A"))}, kind, 2)
		isLatest(t, []api.Upcast{from(kind, 0)}, kind+"x", 0)
		isLatest(t, []api.Upcast{from(kind+"x", 0)}, kind, 0)
	}
	isLatest(t, []api.Upcast{from("A", 0)}, "a", 0)
	isLatest(t, []api.Upcast{{Type: "a", Changes: manyChanges(17)}}, "a", 1)
	long := strings.Repeat("a", 5000)
	isLatest(t, []api.Upcast{from(long, 0), from(long, 1)}, long, 2)
	isLatest(t, []api.Upcast{from(long, 0), from(long, 1)}, long[1:], 0)
}
