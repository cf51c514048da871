package upcast

import (
	"strconv"

	"cartulary/api"
	"cartulary/sheet"
)

// change is what a Change does to fields: new ones, or those that it was handed, where there is nothing to do.
type change func(l []api.Field, c api.Change) []api.Field

// newChanges is what changes do, by kinds.
func newChanges() map[int]change {
	return map[int]change{
		api.UAdd:    add,
		api.UDrop:   func(l []api.Field, c api.Change) []api.Field { return sheet.Drop(l, c.Name) },
		api.URename: rename,
		api.UShow:   show,
		api.UScale:  scale,
	}
}

func add(l []api.Field, c api.Change) []api.Field {
	if has(l, c.F.Name) || len(l) >= api.MaxFields {
		return l
	}
	return sheet.Set(l, c.F)
}

func rename(l []api.Field, c api.Change) []api.Field {
	f, there := sheet.Get(l, c.Name)
	if !there || has(l, c.To) {
		return l
	}
	f.Name = c.To
	return sheet.Set(sheet.Drop(l, c.Name), f)
}

func show(l []api.Field, c api.Change) []api.Field {
	n, there := integer(l, c.Name)
	if !there {
		return l
	}
	return sheet.Set(l, api.Field{Name: c.Name, Text: true, S: strconv.Itoa(n)})
}

func scale(l []api.Field, c api.Change) []api.Field {
	n, there := integer(l, c.Name)
	if !there {
		return l
	}
	product, ok := times(n, c.F.N)
	if !ok {
		return l
	}
	return sheet.Set(l, api.Field{Name: c.Name, N: product})
}

// has tells whether there is a field of a name.
func has(l []api.Field, name string) bool {
	_, there := sheet.Get(l, name)
	return there
}

// integer is the integer of a field; false: there is no such field, or it is a text.
func integer(l []api.Field, name string) (int, bool) {
	f, there := sheet.Get(l, name)
	return f.N, there && !f.Text
}

// times is a product; false: it, or a part of it, is beyond MaxNumber. The parts are looked at first, so that they have sizes; then these are held against each other by a quotient, since the product may be beyond an int.
func times(a, b int) (int, bool) {
	if !inBounds(a) || !inBounds(b) {
		return 0, false
	}
	if b != 0 && max(a, -a) > api.MaxNumber/max(b, -b) {
		return 0, false
	}
	return a * b, true
}

func inBounds(n int) bool { return -api.MaxNumber <= n && n <= api.MaxNumber }
