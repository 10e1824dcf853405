// Package machine runs a code from one need of a word to the next. It knows no words itself, so that whoever runs it decides how a word is read and written.
package machine

import (
	"opaque/api"
	"opaque/bounds"
)

// Machine is a code under way. The zero Machine stands at the code's beginning.
type Machine struct {
	Regs  [api.Registers]int
	place int
	begun int
	into  int // the register that waits for what the last Read sees
}

// Turn is what a code has come to: a fate, or, while that is Open, a Read or Write.
type Turn struct {
	Fate  int
	Op    int
	Addr  int
	Value int // of a Write
}

// Next runs the code up to its next Read or Write, or to its fate. Each turn that is Open has begun an instruction, so at most fuel of them come.
func (m *Machine) Next(code []api.Ins, fuel int, words int) Turn {
	for m.place < len(code) {
		if m.begun >= fuel {
			return Turn{Fate: api.Spent}
		}
		m.begun++
		ins := code[m.place]
		// What follows uses A, B and C as registers and places untested: it relies on this.
		if !wellFormed(ins, len(code)) {
			return Turn{Fate: api.Broke}
		}
		m.place++
		switch ins.Op {
		case api.Stop:
			return Turn{Fate: api.Done}
		case api.Quit:
			return Turn{Fate: api.Left}
		case api.Read, api.Write:
			return m.wordTurn(ins, words)
		}
		m.compute(ins)
	}
	return Turn{Fate: api.Done}
}

// Give hands over the value that the last Read asked for. That into is a register needs no test: it begins as 0, and only a well-formed Read changes it.
func (m *Machine) Give(value int) {
	m.Regs[m.into] = value
}

func (m *Machine) wordTurn(ins api.Ins, words int) Turn {
	turn := Turn{Op: ins.Op}
	if ins.Op == api.Read {
		turn.Addr = m.Regs[ins.B]
		m.into = ins.A
	} else {
		turn.Addr = m.Regs[ins.A]
		turn.Value = m.Regs[ins.B]
	}
	if !bounds.Within(turn.Addr, 0, words-1) {
		return Turn{Fate: api.Broke}
	}
	return turn
}

// compute does an instruction that needs nothing but the registers.
func (m *Machine) compute(ins api.Ins) {
	switch ins.Op {
	case api.Set:
		m.Regs[ins.A] = ins.B
	case api.Add:
		m.Regs[ins.A] = sum(m.Regs[ins.B], m.Regs[ins.C])
	case api.Sub:
		m.Regs[ins.A] = difference(m.Regs[ins.B], m.Regs[ins.C])
	case api.Jump:
		m.place = ins.C
	case api.Less:
		if m.Regs[ins.A] < m.Regs[ins.B] {
			m.place = ins.C
		}
	}
}

func sum(a int, b int) int {
	n := a + b
	if n > api.MaxValue {
		n -= api.MaxValue + 1
	}
	return n
}

func difference(a int, b int) int {
	n := a - b
	if n < 0 {
		n += api.MaxValue + 1
	}
	return n
}

func wellFormed(ins api.Ins, length int) bool {
	switch ins.Op {
	case api.Stop, api.Quit:
		return true
	case api.Set:
		return isRegister(ins.A) && bounds.Within(ins.B, 0, api.MaxValue)
	case api.Add, api.Sub:
		return isRegister(ins.A) && isRegister(ins.B) && isRegister(ins.C)
	case api.Jump:
		return bounds.Within(ins.C, 0, length)
	case api.Less:
		return isRegister(ins.A) && isRegister(ins.B) && bounds.Within(ins.C, 0, length)
	case api.Read, api.Write:
		return isRegister(ins.A) && isRegister(ins.B)
	}
	return false
}

func isRegister(n int) bool {
	return bounds.Within(n, 0, api.Registers-1)
}
