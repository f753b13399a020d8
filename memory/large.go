package memory

import (
	"tithe/api"
	"tithe/pick"
)

func (m *Memory) takeFrames(size int) (int, bool) {
	count := framesFor(size)
	first, found := pick.Best(m.freeRuns(count), lower)
	if !found {
		return 0, false
	}
	for i := range count {
		m.frames[first+i] = frame{kind: large}
	}
	m.frames[first].sizes[0] = size
	return first * api.FrameSize, true
}

func (m *Memory) releaseFrames(b block) {
	first := b.address / api.FrameSize
	clear(m.frames[first : first+framesFor(b.size)])
}
