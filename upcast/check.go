package upcast

import (
	"slices"

	"cartulary/api"
	"cartulary/sheet"
)

// tooMany tells whether there are more Upcasts, or of one more Changes, than may be.
func tooMany(l []api.Upcast) bool {
	return len(l) > api.MaxUpcasts || slices.ContainsFunc(l, func(u api.Upcast) bool { return len(u.Changes) > api.MaxParts })
}

// wrongHead tells what an Upcast may not be for.
func wrongHead(u api.Upcast) api.Errno {
	if !sheet.Name(u.Type) {
		return api.ErrUpcastName
	}
	// One of the greatest version would make an event of a version that may not be.
	if u.From < 0 || u.From >= api.MaxVersion {
		return api.ErrUpcastForm
	}
	return api.OK
}

// wrongChange tells what a change may not be.
func wrongChange(c api.Change) api.Errno {
	names := namesOf(c)
	if len(names) == 0 {
		return api.ErrUpcastForm
	}
	for _, name := range names {
		if !sheet.Name(name) {
			return api.ErrUpcastName
		}
	}
	if c.Kind == api.UAdd && sheet.Check([]api.Field{c.F}) != api.OK {
		return api.ErrUpcastForm
	}
	return api.OK
}

// namesOf are the names that a change's Kind asks for: each Kind for one at least, so that of none it is no Kind.
func namesOf(c api.Change) []string {
	switch c.Kind {
	case api.UAdd:
		return []string{c.F.Name}
	case api.UDrop, api.UShow, api.UScale:
		return []string{c.Name}
	case api.URename:
		return []string{c.Name, c.To}
	}
	return nil
}
