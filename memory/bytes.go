package memory

import "errors"

var errNoBlock = errors.New("no block there")

// Store panics if the address is none of a block's bytes.
func (m *Memory) Store(address int, value byte) {
	m.mustFind(func(b block) bool { return b.has(address) })
	m.bytes[address] = value
}

// Load panics if the address is none of a block's bytes.
func (m *Memory) Load(address int) byte {
	m.mustFind(func(b block) bool { return b.has(address) })
	return m.bytes[address]
}

// mustFind panics if there is no such block, so that nothing behind it runs on a wrong address.
func (m *Memory) mustFind(is func(block) bool) {
	for b := range m.blocks() {
		if is(b) {
			return
		}
	}
	panic(errNoBlock)
}
