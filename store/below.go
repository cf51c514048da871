package store

import (
	"cartulary/api"
	"cartulary/codec"
	"cartulary/fsdir"
)

// batchKind is the kind of a frame that is an append.
const batchKind = 1

// savedIn begins the names of the files in which something is saved.
const savedIn = "save."

// fileOf is the file in which something is saved under a name.
func fileOf(name string) string { return savedIn + name }

// up is an error where nothing can be done: without a store, and with one whose device went down. The file system keeps that in mind, and answers it ahead of all else: so it is asked for a file that there never is.
func (s Store) up() api.Errno {
	_, e := s.files.Size("")
	if e == api.ErrFsNone {
		return api.OK
	}
	return e
}

// refused is what the store answers where a layer below answers so. Where something may have been begun, that is undone: also when the device is down, so that Names goes on telling what it told.
func (s Store) refused(e api.Errno) api.Errno {
	switch e {
	case api.OK:
	case api.ErrCodecLong:
		e = api.ErrStoreLong
	case api.ErrFsNone:
		e = api.ErrStoreNone
	case api.ErrFsMany, api.ErrFsSpace, api.ErrSegSpace:
		e = api.ErrStoreSpace
		fallthrough
	default:
		s.files.Reset()
	}
	return e
}

// lay makes a batch last, and adds it then to what is in memory: out of the frame, so that nothing is kept that was handed in.
func (s Store) lay(b api.Batch) api.Errno {
	data, e := codec.PutBatch(nil, b)
	if e != api.OK {
		return s.refused(e)
	}
	f := api.Frame{Kind: batchKind, Data: data}
	if e := s.log.Append([]api.Frame{f}); e != api.OK {
		return s.refused(e)
	}
	return s.take(f)
}

// take adds to what is in memory the batch that a frame of the log is; or it is none that could stand there.
func (s Store) take(f api.Frame) api.Errno {
	if f.Kind != batchKind {
		return api.ErrFsForm
	}
	b, e := codec.Batch(f.Data)
	if e != api.OK {
		return e
	}
	return s.index.Add(b)
}

// change does something to the files and makes it last; or it undoes what was begun, wherever that was refused.
func (s Store) change(do func() api.Errno) (e api.Errno) {
	defer func() { e = s.refused(e) }()
	if e := do(); e != api.OK {
		return e
	}
	return s.files.Sync()
}

// replace makes a file of bytes, in place of the one that is called so, if there is one.
func replace(files *fsdir.FS, file string, data []byte) api.Errno {
	files.Remove(file) // where that is refused there is none, or Create is refused too
	if e := files.Create(file); e != api.OK {
		return e
	}
	return files.Append(file, data)
}
