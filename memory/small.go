package memory

import (
	"tithe/api"
	"tithe/pick"
)

func (m *Memory) takeSlot(worker, size int) (int, bool) {
	class := classOf(size)
	i, found := m.superblockFor(m.heapOf(worker), class)
	if !found {
		return 0, false
	}
	slot, found := pick.Best(m.frames[i].freeSlots(), lower)
	if !found {
		return 0, false
	}
	m.frames[i].sizes[slot] = size
	return i*api.FrameSize + slot*slotSize(class), true
}

// superblockFor gives a superblock of the heap that has room, and makes it the heap's if it was not.
func (m *Memory) superblockFor(heap, class int) (int, bool) {
	if i, found := m.fullestWithRoom(heap, class); found {
		return i, true
	}
	if i, found := m.fullestWithRoom(ofAll, class); found {
		m.frames[i].heap = heap
		return i, true
	}
	i, found := pick.Best(m.freeFrames(), lower)
	if found {
		m.frames[i] = frame{kind: superblock, heap: heap, class: class}
	}
	return i, found
}

func (m *Memory) releaseSlot(address int) {
	f := &m.frames[address/api.FrameSize]
	heap, class := f.heap, f.class
	f.sizes[address%api.FrameSize/slotSize(class)] = 0
	if heap != ofAll && m.holdsTooMuch(heap, class) {
		m.giveEmptiestAway(heap, class)
	}
	m.freeEmptyOfAll(class)
}

func (m *Memory) holdsTooMuch(heap, class int) bool {
	s := m.Stats(heap, class)
	return s.Held > s.Used+api.FrameSize*m.slack && 2*s.Used < s.Held
}

func (m *Memory) giveEmptiestAway(heap, class int) {
	i, found := pick.Best(m.superblocks(heap, class), func(a, b int) bool {
		return m.frames[a].usedSlots() < m.frames[b].usedSlots()
	})
	if found {
		m.frames[i].heap = ofAll
	}
}

func (m *Memory) freeEmptyOfAll(class int) {
	for i := range m.superblocks(ofAll, class) {
		if m.frames[i].usedSlots() == 0 {
			m.frames[i] = frame{}
		}
	}
}

func (m *Memory) fullestWithRoom(heap, class int) (int, bool) {
	return pick.Best(m.superblocksWithRoom(heap, class), func(a, b int) bool {
		return m.frames[a].usedSlots() > m.frames[b].usedSlots()
	})
}

func lower(a, b int) bool {
	return a < b
}
