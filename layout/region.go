package layout

import "simulcast/api"

// The regions of the memory, in their order.
const (
	common  = iota // the clock and the era
	notices        // the threads' announced eras and hazard pointers
	records
	cells
	slots
	bitmaps
	blocks
	regions // how many there are
)

// unitSize is how many locations a unit of each region takes. All of them are whole cache lines, so that no two units
// share one.
var unitSize = [regions]int{
	common:  api.LineSize,
	notices: api.LineSize,
	records: api.LineSize,
	cells:   api.LineSize,
	slots:   SlotSize,
	bitmaps: api.LineSize,
	blocks:  BlockSize,
}

// units returns how many units each region has: one per thread or block, and one per line of cells.
func (l Layout) units() [regions]int {
	return [regions]int{
		common:  1,
		notices: l.Threads,
		records: l.Threads,
		cells:   (l.Cells + api.LineSize - 1) / api.LineSize,
		slots:   l.Threads,
		bitmaps: min(l.Blocks, 1),
		blocks:  l.Blocks,
	}
}

// start returns the first location of a region, or the number of all locations for regions. The layout's numbers must
// be in range, since greater ones could overflow.
func (l Layout) start(region int) api.Loc {
	units := l.units()
	at := 0
	for r := range region {
		at += units[r] * unitSize[r]
	}
	return api.Loc(at)
}

// unit returns the first location of a region's unit, counted from 0, or -1 if there is none.
func (l Layout) unit(region, number int) api.Loc {
	if l.Check() != api.OK || number < 0 || number >= l.units()[region] {
		return -1
	}
	return l.start(region) + api.Loc(number*unitSize[region])
}

// ofThread returns the first location of thread t's unit in a region with one unit per thread, or -1.
func (l Layout) ofThread(region, t int) api.Loc {
	if t < 1 {
		return -1
	}
	return l.unit(region, t-1)
}
