package memory

// Store panics if the address is none of a block's bytes.
func (m *Memory) Store(address int, value byte) {
	m.mustFind(func(b block) bool { return b.has(address) })
	m.bytes[address] = value
}

// Load panics if the address is none of a block's bytes.
func (m *Memory) Load(address int) byte {
	m.mustFind(func(b block) bool { return b.has(address) })
	return m.bytes[address]
}
