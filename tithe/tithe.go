// Package tithe: memory for many workers, and never much too much: see DOC.md.
package tithe

import (
	"tithe/api"
	"tithe/memory"
)

// Tithe has frames and heaps.
type Tithe struct {
	memory *memory.Memory
}

// New makes a tithe (P3).
func New(c api.Config) (*Tithe, api.Errno) {
	if !within(c.Heaps, 1, api.MaxHeaps) || !within(c.Frames, 1, api.MaxFrames) || !within(c.Slack, 1, api.MaxSlack) {
		return nil, api.ErrArg
	}
	return &Tithe{memory.New(c)}, api.OK
}

// Malloc gives a block (P3, P6).
func (t *Tithe) Malloc(worker int, size int) (int, api.Errno) {
	if !within(worker, 0, api.MaxWorker) || !within(size, 1, api.MaxSize) {
		return 0, api.ErrArg
	}
	address, found := t.inside().Take(worker, size)
	if !found {
		return 0, api.ErrFull
	}
	return address, api.OK
}

// Free takes a block back (P4, P6).
func (t *Tithe) Free(address int) api.Errno {
	if !done(func() { t.inside().Free(address) }) {
		return api.ErrAddress
	}
	return api.OK
}

// Store stores a byte (P5).
func (t *Tithe) Store(address int, value int) api.Errno {
	if !within(value, 0, 255) {
		return api.ErrArg
	}
	if !done(func() { t.inside().Store(address, byte(value)) }) {
		return api.ErrFault
	}
	return api.OK
}

// Load loads a byte (P5).
func (t *Tithe) Load(address int) (int, api.Errno) {
	value := 0
	if !done(func() { value = int(t.inside().Load(address)) }) {
		return 0, api.ErrFault
	}
	return value, api.OK
}

// Stats tells what a heap holds of a class (P7).
func (t *Tithe) Stats(heap int, class int) (api.Stats, api.Errno) {
	m := t.inside()
	if !within(heap, 0, m.Heaps()) || !within(class, 0, api.Classes-1) {
		return api.Stats{}, api.ErrArg
	}
	return m.Stats(heap, class), api.OK
}

// FreeFrames tells how many frames are free (P7).
func (t *Tithe) FreeFrames() int { return t.inside().FreeFrames() }

// Live tells all blocks (P8).
func (t *Tithe) Live() func(yield func(address int, size int) bool) {
	return t.inside().Live()
}

// inside stands in a memory without frames where New gave nil: a call on that answers as well.
func (t *Tithe) inside() *memory.Memory {
	if t == nil || t.memory == nil {
		return memory.New(api.Config{Heaps: 1})
	}
	return t.memory
}

// done is where a call that gave up deep within ends: false then.
func done(act func()) (ended bool) {
	defer func() { ended = recover() == nil }()
	act()
	return true
}

func within(number, least, most int) bool {
	return least <= number && number <= most
}
