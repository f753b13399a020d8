package memory

import (
	"iter"
	"slices"

	"tithe/api"
)

// block: its first byte's address, and the size that was asked for.
type block struct {
	address, size int
}

func (b block) has(address int) bool {
	return address >= b.address && address-b.address < b.size
}

// Each iterator here tells from the lowest on: pick.Best then gives the lowest of equals.

func (m *Memory) freeFrames() iter.Seq[int] {
	return func(yield func(int) bool) {
		for i := range m.frames {
			if m.frames[i].kind == free && !yield(i) {
				return
			}
		}
	}
}

// freeRuns tells the first ones of so many free frames, one behind the other.
func (m *Memory) freeRuns(count int) iter.Seq[int] {
	return func(yield func(int) bool) {
		for i := range len(m.frames) - count + 1 {
			together := !slices.ContainsFunc(m.frames[i:i+count], frame.taken)
			if together && !yield(i) {
				return
			}
		}
	}
}

func (m *Memory) superblocks(heap, class int) iter.Seq[int] {
	return func(yield func(int) bool) {
		for i := range m.frames {
			f := m.frames[i]
			ours := f.kind == superblock && f.heap == heap && f.class == class
			if ours && !yield(i) {
				return
			}
		}
	}
}

func (m *Memory) superblocksWithRoom(heap, class int) iter.Seq[int] {
	return func(yield func(int) bool) {
		for i := range m.superblocks(heap, class) {
			if !m.frames[i].full() && !yield(i) {
				return
			}
		}
	}
}

func (f frame) freeSlots() iter.Seq[int] {
	return func(yield func(int) bool) {
		for slot := range slotCount(f.class) {
			if f.sizes[slot] == 0 && !yield(slot) {
				return
			}
		}
	}
}

func (m *Memory) blocks() iter.Seq[block] {
	return func(yield func(block) bool) {
		for i := range m.frames {
			for b := range m.blocksOf(i) {
				if !yield(b) {
					return
				}
			}
		}
	}
}

func (m *Memory) blocksOf(i int) iter.Seq[block] {
	return func(yield func(block) bool) {
		f := m.frames[i]
		for slot, size := range f.sizes {
			address := i*api.FrameSize + slot*slotSize(f.class)
			if size > 0 && !yield(block{address, size}) {
				return
			}
		}
	}
}

// Live tells each block's address and size. What is told is copied when a ranging begins, so that it does not see what is taken and freed meanwhile.
func (m *Memory) Live() iter.Seq2[int, int] {
	return func(yield func(int, int) bool) {
		for _, b := range slices.Collect(m.blocks()) {
			if !yield(b.address, b.size) {
				return
			}
		}
	}
}
