package disk

type file struct {
	bytes  string
	synced int // how many of the bytes are
}

// lose leaves what was synced, and of the rest as much as is to be kept.
func (f *file) lose(keep int) {
	loose := len(f.bytes) - f.synced
	f.bytes = f.bytes[:f.synced+min(keep, loose)]
}

func (n names) files() []*file {
	var files []*file
	for _, f := range []*file{n.fresh, n.cache} {
		if f != nil {
			files = append(files, f)
		}
	}
	return files
}

// size is how many bytes all files have.
func (n names) size() int {
	size := 0
	for _, f := range n.files() {
		size += len(f.bytes)
	}
	return size
}
