package disk

import (
	"slices"

	"amphora/api"
)

// meter counts a disk's steps, and knows where the power goes and which steps fail.
type meter struct {
	steps int
	down  bool
	armed bool
	left  int   // steps until the power goes, while armed
	fails []int // steps to be done ahead of each failing one, counted from the one before it
}

// step stands ahead of every change of a disk: only where it answers nil may the change be made.
func (m *meter) step() error {
	if m.armed && m.left == 0 {
		m.down = true
		return api.ErrDown
	}
	m.steps++
	if m.armed {
		m.left--
	}
	if len(m.fails) == 0 {
		return nil
	}
	if m.fails[0] == 0 {
		m.fails = m.fails[1:]
		return api.ErrIO
	}
	m.fails[0]--
	return nil
}

func (m *meter) arm(n int) error {
	if n < 0 {
		return api.ErrRange
	}
	m.armed, m.left = true, n
	return nil
}

func (m *meter) plan(behind []int) error {
	for _, n := range behind {
		if n < 0 {
			return api.ErrRange
		}
	}
	m.fails = slices.Clone(behind) // step counts it down, and the caller's list must stay as it is
	return nil
}

// restart forgets what was to go wrong. The count of steps goes on: it is of the disk's whole life.
func (m *meter) restart() {
	m.down, m.armed, m.left, m.fails = false, false, 0, nil
}
