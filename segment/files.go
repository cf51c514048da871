package segment

import (
	"iter"
	"slices"
	"strconv"

	"cartulary/api"
	"cartulary/codec"
	"cartulary/fsdir"
)

// name is what the file of a segment is called.
func name(n int) string { return "seg." + strconv.Itoa(n) }

// segments goes through the bytes of the segments, as long as there are such, or through those ahead of the first error, and that.
func segments(v *fsdir.FS) iter.Seq2[[]byte, api.Errno] {
	return func(yield func([]byte, api.Errno) bool) {
		for n := 0; ; n++ {
			data, e := v.Read(name(n), 0, api.MaxFile)
			if e == api.ErrFsNone || !yield(data, e) || e != api.OK {
				return
			}
		}
	}
}

// mend makes a torn segment a file of the bytes that were read of it alone. The segments behind it go first: what of their room is free at once it may need.
func mend(v *fsdir.FS, n int, read []byte) api.Errno {
	if e := removeFrom(v, n+1); e != api.OK {
		return e
	}
	if e := v.Remove(name(n)); e != api.OK {
		return e
	}
	if e := v.Create(name(n)); e != api.OK {
		return e
	}
	if e := v.Append(name(n), read); e != api.OK {
		return e
	}
	return v.Sync()
}

// removeFrom removes the segments from one on, as long as there are such.
func removeFrom(v *fsdir.FS, n int) api.Errno {
	for ; ; n++ {
		switch e := v.Remove(name(n)); e {
		case api.OK:
		case api.ErrFsNone:
			return api.OK
		default:
			return e
		}
	}
}

// lay puts frames, none of them too long, behind segments of such sizes, and answers the sizes that they have then. It goes frame by frame, so that of more than there is room for no more is laid.
func lay(v *fsdir.FS, sizes []int, f []api.Frame) ([]int, api.Errno) {
	sizes = slices.Clone(sizes)
	for _, x := range f {
		b, _ := codec.PutFrame(nil, x)
		last := len(sizes) - 1
		if last < 0 || sizes[last]+len(b) > api.SegSize {
			last++
			if e := v.Create(name(last)); e != api.OK {
				return nil, e
			}
			sizes = append(sizes, 0)
		}
		if e := v.Append(name(last), b); e != api.OK {
			return nil, e
		}
		sizes[last] += len(b)
	}
	return sizes, v.Sync()
}

// refused undoes what was begun where the file system refused a part of it, and is what is answered then. Where the device is down there is nothing to undo; and a file system that was made by hand, which answers as none does, has nothing.
func refused(v *fsdir.FS, e api.Errno) api.Errno {
	switch e {
	case api.ErrDown, api.ErrArg:
		return e
	}
	v.Reset()
	return api.ErrSegSpace
}
