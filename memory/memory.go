// Package memory has the frames, and what each of them is: see DOC.md, 'Words'.
package memory

import "tithe/api"

const (
	leastSlot = 8 // bytes of a slot of class 0
	mostSlots = api.FrameSize / leastSlot
	ofAll     = 0 // the heap that no worker has
)

type kind int

const (
	free kind = iota
	superblock
	large
)

// frame: heap and class are those of a superblock.
type frame struct {
	kind        kind
	heap, class int
	sizes       [mostSlots]int // what was asked for, slot by slot; 0: the slot is free. A large block's stands first in its first frame
}

// Memory is all that a tithe keeps.
type Memory struct {
	heaps, slack int
	frames       []frame
	bytes        []byte
}

// New makes a memory all of whose frames are free.
func New(c api.Config) *Memory {
	return &Memory{
		heaps:  c.Heaps,
		slack:  c.Slack,
		frames: make([]frame, c.Frames),
		bytes:  make([]byte, c.Frames*api.FrameSize),
	}
}

// Heaps is how many heaps there are beside the one of all.
func (m *Memory) Heaps() int {
	return m.heaps
}

func slotSize(class int) int {
	return leastSlot << class
}

func slotCount(class int) int {
	return api.FrameSize / slotSize(class)
}

func classOf(size int) int {
	class := 0
	for slotSize(class) < size {
		class++
	}
	return class
}

// framesFor counts a frame that is filled in part as a whole one.
func framesFor(size int) int {
	return (size + api.FrameSize - 1) / api.FrameSize
}

func (m *Memory) heapOf(worker int) int {
	return 1 + worker%m.heaps
}

func (f frame) taken() bool {
	return f.kind != free
}

func (f frame) usedSlots() int {
	used := 0
	for _, size := range f.sizes {
		if size > 0 {
			used++
		}
	}
	return used
}

func (f frame) full() bool {
	return f.usedSlots() == slotCount(f.class)
}
