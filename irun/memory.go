package irun

import (
	"cmp"
	"slices"

	"windlass/api"
)

const pageWords = 16

type page [pageWords]uint64

// memory is words that are 0 at first. A page is made when it is written to:
// there may be a million frames at one time, each of which has a thousand words
// and uses a few.
type memory struct {
	pages []*page
}

func (m *memory) get(at int) uint64 {
	i := at / pageWords
	if i >= len(m.pages) || m.pages[i] == nil {
		return 0
	}
	return m.pages[i][at%pageWords]
}

func (m *memory) put(at int, v uint64) {
	i := at / pageWords
	if more := i + 1 - len(m.pages); more > 0 {
		m.pages = append(m.pages, make([]*page, more)...)
	}
	if m.pages[i] == nil {
		m.pages[i] = new(page)
	}
	m.pages[i][at%pageWords] = v
}

// firstPointer is the pointer to the first cell of the first frame; each frame
// that begins has the next ones, also when others have ended, so that no pointer
// comes to refer to another frame. It is far from the numbers that a program is
// likely to have, which are to be no pointers.
const firstPointer = 0xb7d3_92e5_4c00_0000

func (c *call) pointer(cell int) uint64 {
	return firstPointer + c.serial*api.MaxCells + uint64(cell)
}

// pointee is the cell to which a pointer refers; false if the word is none, or
// the frame is no longer on the stack.
func (r *run) pointee(pointer uint64) (*call, int, bool) {
	n := pointer - firstPointer
	serial, cell := n/api.MaxCells, int(n%api.MaxCells)
	bySerial := func(f frame, serial uint64) int { return cmp.Compare(f.body().serial, serial) }
	i, ok := slices.BinarySearchFunc(r.frames, serial, bySerial)
	if !ok {
		return nil, 0, false
	}
	c := r.frames[i].body()
	return c, cell, cell < c.of.Cells
}
