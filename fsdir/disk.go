package fsdir

import (
	"cartulary/api"
	"cartulary/bcache"
	"cartulary/blockdev"
	"cartulary/inode"
	"cartulary/journal"
)

// The first blocks of the log are the list of files; the files' blocks lie behind them.
const filesAt = api.FsExtra

// cached is how many of the files' blocks are in memory at most.
const cached = 32

// block is a block's bytes, a value: what is in the cache is shared with nobody.
type block [api.BlockSize]byte

// disk is the log of a device, and the files' blocks that were used last. A block that is dirty is not put into the log yet.
type disk struct {
	*journal.Log
	cache *bcache.Cache[int, block]
}

// openDisk opens the log that lies on a device.
func openDisk(d *blockdev.Device) (disk, api.Errno) {
	l, e := journal.Open(d)
	switch e {
	case api.OK:
	case api.ErrLogNone:
		return disk{}, api.ErrFsForm
	default: // there is no device, or it is down
		return disk{}, e
	}
	c, e := bcache.New[int, block](cached)
	return disk{l, c}, e
}

// fileBlocks is how many blocks the files have.
func (k disk) fileBlocks() int { return k.Size() - filesAt }

// up is an error where there is no log, or its device went down. The log keeps that in mind, and answers it ahead of all else: so it is asked for a block that no log has, for which it does nothing.
func (k disk) up() api.Errno {
	_, e := k.Read(-1)
	if e == api.ErrLogBlock {
		return api.OK
	}
	return e
}

// load is a block of a file.
func (k disk) load(n int) (block, api.Errno) {
	if b, ok := k.cache.Get(n); ok {
		return b, api.OK
	}
	data, e := k.Read(filesAt + n)
	if e != api.OK {
		return block{}, e
	}
	b := block(data)
	return b, k.keep(n, b, false)
}

// keep takes a block into the cache. What goes for it is put into the log, if it is dirty.
func (k disk) keep(n int, b block, dirty bool) api.Errno {
	gone, old, _, wasDirty, e := k.cache.Put(n, b, dirty)
	if wasDirty {
		return k.Put(filesAt+gone, old[:])
	}
	return e
}

// settle puts into the log all that is not there yet.
func (k disk) settle() api.Errno {
	for _, n := range k.cache.Dirty() {
		b, _ := k.cache.Get(n)
		if e := k.Put(filesAt+n, b[:]); e != api.OK {
			return e
		}
		k.cache.Clean(n)
	}
	return api.OK
}

// undo forgets all that is not in the log yet.
func (k disk) undo() {
	for _, n := range k.cache.Dirty() {
		k.cache.Drop(n)
	}
}

// forget forgets blocks that no file has any more, so that they are not put into the log for nothing. Where a Reset brings one back, the log has all of it that a file has then.
func (k disk) forget(runs []api.Run) {
	for _, r := range runs {
		for i := range r.Len {
			k.cache.Drop(r.From + i)
		}
	}
}

// readFile is so many bytes of a file, which it has.
func (k disk) readFile(f *inode.Node, from, n int) ([]byte, api.Errno) {
	data := make([]byte, 0, n)
	for len(data) < n {
		at, first, _ := f.At(from + len(data))
		b, e := k.load(at)
		if e != api.OK {
			return nil, e
		}
		end := min(first+n-len(data), api.BlockSize)
		data = append(data, b[first:end]...)
	}
	return data, api.OK
}

// writeFile writes the last bytes of a file, from one on.
func (k disk) writeFile(f *inode.Node, from int, data []byte) api.Errno {
	for len(data) > 0 {
		at, first, _ := f.At(from)
		var b block
		if first > 0 { // else the block is new, and nobody's bytes stand there
			var e api.Errno
			if b, e = k.load(at); e != api.OK {
				return e
			}
		}
		n := copy(b[first:], data)
		if e := k.keep(at, b, true); e != api.OK {
			return e
		}
		from, data = from+n, data[n:]
	}
	return api.OK
}
