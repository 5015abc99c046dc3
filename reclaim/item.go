package reclaim

// isProtected reports whether one of the announced eras or of the hazard pointers forbids to free the block.
func (i Item) isProtected(announced, held []int64) bool {
	for _, era := range announced {
		if i.isProtectedBy(era) {
			return true
		}
	}
	for _, pointer := range held {
		if i.isAt(pointer) {
			return true
		}
	}
	return false
}

// isProtectedBy reports whether an announced era lies in the lifetime. A 0 announces none.
func (i Item) isProtectedBy(era int64) bool { return era != 0 && i.Birth <= era && era <= i.Retired }

// isAt reports whether a hazard pointer is the number of the block and 1. It does not add 1 to the number, which need
// not be that of a block: the greatest integer would wrap round to the least pointer.
func (i Item) isAt(pointer int64) bool {
	block := int64(i.Block)
	return pointer > block && pointer-1 == block
}

func countProtected(era int64, l ...Item) int {
	n := 0
	for _, i := range l {
		if i.isProtectedBy(era) {
			n++
		}
	}
	return n
}

func anyAt(pointer int64, l ...Item) bool {
	for _, i := range l {
		if i.isAt(pointer) {
			return true
		}
	}
	return false
}

func distinct(l ...int64) map[int64]bool {
	set := make(map[int64]bool)
	for _, n := range l {
		set[n] = true
	}
	return set
}
