package fsdir

import (
	"bytes"
	"maps"
	"slices"

	"cartulary/api"
	"cartulary/inode"
)

// mark begins the list of files, so that another thing is not taken for one. Behind it stand, a byte each, how many blocks the list has, and how many files.
const (
	mark    = "files"
	blockAt = len(mark)
	countAt = len(mark) + 1
	firstAt = len(mark) + 2
)

// names are all names, rising.
func names(files map[string]*inode.Node) []string { return slices.Sorted(maps.Keys(files)) }

// lay is the list of files as whole blocks. At most these are 9: 64 names and nodes have 64 times 1 + 40 + 3 + 1 bytes, and the runs of a node, at most one for each of 476 blocks, 3 bytes each.
func lay(files map[string]*inode.Node) []byte {
	b := make([]byte, firstAt)
	copy(b, mark)
	b[countAt] = byte(len(files))
	for _, name := range names(files) {
		b = append(b, byte(len(name)))
		b = append(b, name...)
		b = append(b, files[name].Bytes()...)
	}
	blocks := (len(b) + api.BlockSize - 1) / api.BlockSize
	b[blockAt] = byte(blocks)
	return append(b, make([]byte, blocks*api.BlockSize-len(b))...)
}

// writes are the blocks of the list of files, for a commit.
func writes(files map[string]*inode.Node) []api.Write {
	var w []api.Write
	for b := range slices.Chunk(lay(files), api.BlockSize) {
		w = append(w, api.Write{Block: len(w), Data: b})
	}
	return w
}

// list is the files of which the list lies in the log.
func (k disk) list() (map[string]*inode.Node, api.Errno) {
	b, e := k.Read(0)
	if e != api.OK {
		return nil, e
	}
	blocks := int(b[blockAt])
	if blocks > filesAt {
		return nil, api.ErrFsForm
	}
	for n := 1; n < blocks; n++ {
		more, e := k.Read(n)
		if e != api.OK {
			return nil, e
		}
		b = append(b, more...)
	}
	files, ok := parse(b)
	if !ok {
		return nil, api.ErrFsForm
	}
	return files, api.OK
}

// parse is the files of which lay makes just these bytes, if there are such.
func parse(b []byte) (map[string]*inode.Node, bool) {
	files := map[string]*inode.Node{}
	rest := b[firstAt:]
	for range b[countAt] {
		name, f, n := parseFile(rest)
		if f == nil {
			return nil, false
		}
		files[name] = f
		rest = rest[n:]
	}
	return files, len(files) <= api.MaxFiles && bytes.Equal(lay(files), b)
}

// parseFile is the file with which bytes begin, and how many it has; no node, if they begin with none.
func parseFile(b []byte) (string, *inode.Node, int) {
	if len(b) == 0 || len(b) < 1+int(b[0]) {
		return "", nil, 0
	}
	at := 1 + int(b[0])
	name := string(b[1:at])
	f, n, e := inode.Read(b[at:])
	if e != api.OK || !mayBeName(name) {
		return "", nil, 0
	}
	return name, f, at + n
}
