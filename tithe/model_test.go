package tithe

import (
	"fmt"
	"maps"
	"math/rand"
	"slices"
	"testing"

	"tithe/api"
)

const (
	freePlace  = -1
	largePlace = -2
)

// place: what a frame of the model is: a superblock, or, by its class, free or part of a large block.
type place struct {
	heap, class int
}

// model says what the document says, by plain loops over maps and lists: what the program answers is held against it.
type model struct {
	c      api.Config
	places []place
	sizes  map[int]int // by a block's address
	bytes  map[int]int // by a byte's address
	most   [api.Classes]int
}

func newModel(c api.Config) *model {
	m := &model{c: c, sizes: map[int]int{}, bytes: map[int]int{}}
	for range c.Frames {
		m.places = append(m.places, place{class: freePlace})
	}
	return m
}

func (m *model) blocksIn(frame int) int {
	count := 0
	for a := frame * 64; a < frame*64+64; a++ {
		if m.sizes[a] > 0 {
			count++
		}
	}
	return count
}

func (m *model) charged(heap, class int) (held, used int) {
	for i, p := range m.places {
		if p == (place{heap, class}) {
			held += 64
			used += m.blocksIn(i) * (8 << class)
		}
	}
	return held, used
}

func (m *model) fullest(heap, class int) int {
	best := -1
	for i := len(m.places) - 1; i >= 0; i-- {
		room := m.places[i] == place{heap, class} && m.blocksIn(i) < 8>>class
		if room && (best < 0 || m.blocksIn(i) >= m.blocksIn(best)) {
			best = i
		}
	}
	return best
}

func (m *model) malloc(worker, size int) (int, api.Errno) {
	if worker < 0 || worker > 1000 || size < 1 || size > 256 {
		return 0, api.ErrArg
	}
	a := -1
	if size > 32 {
		a = m.large(size)
	} else {
		a = m.small(1+worker%m.c.Heaps, size)
	}
	if a < 0 {
		return 0, api.ErrFull
	}
	m.sizes[a] = size
	for b := a; b < a+size; b++ {
		m.bytes[b] = 0
	}
	m.noteMost()
	return a, api.OK
}

// small: where a slot is used from then on, or below 0.
func (m *model) small(heap, size int) int {
	class := 2
	if size <= 8 {
		class = 0
	} else if size <= 16 {
		class = 1
	}
	i := m.fullest(heap, class)
	if i < 0 {
		i = m.fullest(0, class)
	}
	for f := 0; i < 0 && f < len(m.places); f++ {
		if m.places[f].class == freePlace {
			i = f
		}
	}
	if i < 0 {
		return i
	}
	m.places[i] = place{heap, class}
	a := i * 64
	for m.sizes[a] > 0 {
		a += 8 << class
	}
	return a
}

// large: where frames are taken from then on, or below 0.
func (m *model) large(size int) int {
	together := 0
	for i, p := range m.places {
		together++
		if p.class != freePlace {
			together = 0
		}
		if 64*together >= size {
			m.mark(i+1-together, size, largePlace)
			return 64 * (i + 1 - together)
		}
	}
	return -1
}

// mark says what the frames of a large block are.
func (m *model) mark(first, size, class int) {
	for i := first; 64*(i-first) < size; i++ {
		m.places[i] = place{class: class}
	}
}

func (m *model) freeFrames() int {
	count := 0
	for _, p := range m.places {
		if p.class == freePlace {
			count++
		}
	}
	return count
}

func (m *model) noteMost() {
	for class := range api.Classes {
		all := 0
		for heap := range m.c.Heaps + 1 {
			_, used := m.charged(heap, class)
			all += used
		}
		m.most[class] = max(m.most[class], all)
	}
}

func (m *model) free(a int) api.Errno {
	size, there := m.sizes[a]
	if !there {
		return api.ErrAddress
	}
	delete(m.sizes, a)
	for b := a; b < a+size; b++ {
		delete(m.bytes, b)
	}
	if size > 32 {
		m.mark(a/64, size, freePlace)
		return api.OK
	}
	p := m.places[a/64]
	held, used := m.charged(p.heap, p.class)
	if p.heap > 0 && held > used+64*m.c.Slack && used*2 < held {
		emptiest := -1
		for i := len(m.places) - 1; i >= 0; i-- {
			if m.places[i] == p && (emptiest < 0 || m.blocksIn(i) <= m.blocksIn(emptiest)) {
				emptiest = i
			}
		}
		m.places[emptiest].heap = 0
	}
	for i, q := range m.places {
		if q.class >= 0 && q.heap == 0 && m.blocksIn(i) == 0 {
			m.places[i] = place{class: freePlace}
		}
	}
	return api.OK
}

func (m *model) load(a int) (int, api.Errno) {
	v, there := m.bytes[a]
	if !there {
		return 0, api.ErrFault
	}
	return v, api.OK
}

func (m *model) store(a, v int) api.Errno {
	if v < 0 || v > 255 {
		return api.ErrArg
	}
	if _, there := m.bytes[a]; !there {
		return api.ErrFault
	}
	m.bytes[a] = v
	return api.OK
}

// step does one thing to both, and tells what was done if they differ.
func step(r *rand.Rand, x *Tithe, m *model) string {
	a := r.Intn(m.c.Frames*64+16) - 8
	switch r.Intn(8) {
	case 0, 1, 2:
		worker, size := r.Intn(1003)-1, r.Intn(34)-1
		if r.Intn(4) == 0 {
			size = 30 + r.Intn(230)
		}
		got, e := x.Malloc(worker, size)
		want, f := m.malloc(worker, size)
		if got != want || e != f {
			return fmt.Sprintf("Malloc(%d, %d) = %d, %d, want %d, %d", worker, size, got, e, want, f)
		}
	case 3, 4, 5:
		if there := slices.Sorted(maps.Keys(m.sizes)); len(there) > 0 && r.Intn(2) == 0 {
			a = there[r.Intn(len(there))]
		} else if r.Intn(8) > 0 {
			a = a &^ 7
		}
		e, f := x.Free(a), m.free(a)
		if e != f {
			return fmt.Sprintf("Free(%d) = %d, want %d", a, e, f)
		}
	case 6:
		v := r.Intn(260) - 2
		e, f := x.Store(a, v), m.store(a, v)
		if e != f {
			return fmt.Sprintf("Store(%d, %d) = %d, want %d", a, v, e, f)
		}
	default:
		got, e := x.Load(a)
		want, f := m.load(a)
		if got != want || e != f {
			return fmt.Sprintf("Load(%d) = %d, %d, want %d, %d", a, got, e, want, f)
		}
	}
	return ""
}

// sameStats tells whether the program tells of each heap and class, and of the free frames, what the model does.
func (m *model) sameStats(x *Tithe) string {
	for heap := range m.c.Heaps + 1 {
		for class := range api.Classes {
			held, used := m.charged(heap, class)
			s, e := x.Stats(heap, class)
			if s != (api.Stats{Held: held, Used: used}) || e != api.OK {
				return fmt.Sprintf("Stats(%d, %d) = %+v, %d, want %d, %d", heap, class, s, e, held, used)
			}
		}
	}
	if got, want := x.FreeFrames(), m.freeFrames(); got != want {
		return fmt.Sprintf("FreeFrames() = %d, want %d", got, want)
	}
	return ""
}

// live: an address and a size of each block.
func (m *model) live() []int {
	var list []int
	for _, a := range slices.Sorted(maps.Keys(m.sizes)) {
		list = append(list, a, m.sizes[a])
	}
	return list
}

// sameLive tells whether the program tells the model's blocks, by their addresses.
func (m *model) sameLive(x *Tithe) string {
	if got, want := told(x.Live()), m.live(); !slices.Equal(got, want) {
		return fmt.Sprintf("Live told %v, want %v", got, want)
	}
	return ""
}

// meanwhile takes a step at each block that is told: the blocks of before are told still.
func meanwhile(r *rand.Rand, x *Tithe, m *model) string {
	var got []int
	want := m.live()
	for a, size := range x.Live() {
		got = append(got, a, size)
		if wrong := step(r, x, m); wrong != "" {
			return wrong
		}
	}
	if !slices.Equal(got, want) {
		return fmt.Sprintf("with steps meanwhile, Live told %v, want %v", got, want)
	}
	return ""
}

// bounds tells which of what follows from the promises (P9) does not hold.
func (m *model) bounds() string {
	for class := range api.Classes {
		all := 0
		for heap := range m.c.Heaps + 1 {
			held, used := m.charged(heap, class)
			all += held
			if heap > 0 && held > used+64*m.c.Slack && held > 2*used {
				return fmt.Sprintf("heap %d, class %d: held %d, used %d", heap, class, held, used)
			}
		}
		if all > 2*m.most[class]+64*(m.c.Heaps*m.c.Slack+1) {
			return fmt.Sprintf("class %d: all hold %d, the most was %d", class, all, m.most[class])
		}
	}
	for i, p := range m.places {
		if p.class >= 0 && p.heap == 0 && m.blocksIn(i) == 0 {
			return fmt.Sprintf("heap 0 has frame %d, which is empty", i)
		}
	}
	sum := 0
	for _, size := range m.sizes {
		sum += size
	}
	if sum != len(m.bytes) {
		return fmt.Sprintf("blocks of %d bytes have %d", sum, len(m.bytes))
	}
	return ""
}

func (m *model) sameBytes(x *Tithe) string {
	for a := -1; a <= m.c.Frames*64; a++ {
		got, e := x.Load(a)
		if want, f := m.load(a); got != want || e != f {
			return fmt.Sprintf("at the end: Load(%d) = %d, %d, want %d, %d", a, got, e, want, f)
		}
	}
	return ""
}

// TestAgainstTheModel: P3 to P9, under long rows of calls, of every config; the rows are the same each time.
func TestAgainstTheModel(t *testing.T) {
	for heaps := 1; heaps <= api.MaxHeaps; heaps++ {
		for frames := 1; frames <= api.MaxFrames; frames++ {
			for slack := 1; slack <= api.MaxSlack; slack++ {
				c := api.Config{Heaps: heaps, Frames: frames, Slack: slack}
				x, e := New(c)
				if e != api.OK {
					t.Fatalf("New(%+v) = %d", c, e)
				}
				m := newModel(c)
				r := rand.New(rand.NewSource(int64(heaps*1000 + frames*10 + slack)))
				for i := range 600 {
					wrong := step(r, x, m)
					if wrong == "" && i%50 == 0 {
						wrong = meanwhile(r, x, m)
					}
					if wrong == "" {
						wrong = m.sameStats(x)
					}
					if wrong == "" {
						wrong = m.sameLive(x)
					}
					if wrong == "" {
						wrong = m.bounds()
					}
					if wrong != "" {
						t.Fatalf("%+v, step %d: %s", c, i, wrong)
					}
				}
				if wrong := m.sameBytes(x); wrong != "" {
					t.Fatalf("%+v: %s", c, wrong)
				}
			}
		}
	}
}
