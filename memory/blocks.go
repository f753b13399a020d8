package memory

import (
	"errors"

	"tithe/api"
)

var errNoBlock = errors.New("no block there")

// Take gives the address of a new block, or false if there is no room for it.
func (m *Memory) Take(worker, size int) (int, bool) {
	address, found := m.place(worker, size)
	if found {
		clear(m.bytes[address : address+size])
	}
	return address, found
}

func (m *Memory) place(worker, size int) (int, bool) {
	if size > api.MaxSmall {
		return m.takeFrames(size)
	}
	return m.takeSlot(worker, size)
}

// Free panics if the address is no block's.
func (m *Memory) Free(address int) {
	b := m.mustFind(func(b block) bool { return b.address == address })
	if b.size > api.MaxSmall {
		m.releaseFrames(b)
		return
	}
	m.releaseSlot(address)
}

// mustFind panics if there is no such block, so that nothing behind it runs on a wrong address.
func (m *Memory) mustFind(is func(block) bool) block {
	for b := range m.blocks() {
		if is(b) {
			return b
		}
	}
	panic(errNoBlock)
}
