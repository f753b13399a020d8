package memory

import "tithe/api"

// Stats tells what a heap holds and uses of a class.
func (m *Memory) Stats(heap, class int) api.Stats {
	var s api.Stats
	for i := range m.superblocks(heap, class) {
		s.Held += api.FrameSize
		s.Used += m.frames[i].usedSlots() * slotSize(class)
	}
	return s
}

// FreeFrames tells how many frames are free.
func (m *Memory) FreeFrames() int {
	count := 0
	for range m.freeFrames() {
		count++
	}
	return count
}
