// Package ins is layer 1: see shared/doc/01-ins.md.
package ins

import (
	"cupola/api"
)

// The fields that an instruction may have, a bit each.
const (
	fieldD = 1 << iota
	fieldA
	fieldB
	fieldLoc
	fieldImm
)

// shape is an operation's name, what it does to memory, and its fields' bits.
type shape struct {
	name   string
	kind   int
	fields int
}

// shapes stand at their operations' numbers; a row without a name is no operation.
var shapes = [...]shape{
	api.OpMov:  {"mov", 0, fieldD | fieldImm},
	api.OpAdd:  {"add", 0, fieldD | fieldA | fieldB},
	api.OpEor:  {"eor", 0, fieldD | fieldA | fieldB},
	api.OpAnd:  {"and", 0, fieldD | fieldA | fieldB},
	api.OpLdr:  {"ldr", api.Read, fieldD | fieldLoc | fieldA},
	api.OpStr:  {"str", api.Write, fieldB | fieldLoc | fieldA},
	api.OpLdar: {"ldar", api.Read, fieldD | fieldLoc | fieldA},
	api.OpStlr: {"stlr", api.Write, fieldB | fieldLoc | fieldA},
	api.OpLdxr: {"ldxr", api.Read, fieldD | fieldLoc | fieldA},
	api.OpStxr: {"stxr", api.Write, fieldD | fieldB | fieldLoc | fieldA},
	api.OpDmb:  {"dmb", 0, fieldImm},
	api.OpIsb:  {"isb", 0, 0},
	api.OpCbz:  {"cbz", 0, fieldA | fieldImm},
	api.OpCbnz: {"cbnz", 0, fieldA | fieldImm},
}

// lastBarrier is the highest Imm of a dmb.
const lastBarrier = 2

// Name is an operation's name.
func Name(op int) string {
	return shapeOf(op).name
}

// Kind is whether an instruction loads, or stores.
func Kind(x api.Ins) int {
	return shapeOf(x.Op).kind
}

// Uses are the registers that an instruction reads.
func Uses(x api.Ins) []int {
	s := shapeOf(x.Op)
	var l []int
	if s.has(fieldA) && x.A >= 0 {
		l = append(l, x.A)
	}
	if s.has(fieldB) && x.B >= 0 {
		l = append(l, x.B)
	}
	return l
}

// Gives is the register that an instruction writes; -1: none.
func Gives(x api.Ins) int {
	if !shapeOf(x.Op).has(fieldD) {
		return api.None
	}
	return x.D
}

// May tells whether an instruction may be.
func May(x api.Ins, behind, locs int) bool {
	s := shapeOf(x.Op)
	if s.name == "" {
		return false
	}
	return fits(s.has(fieldD), isRegister(x.D), x.D == 0) &&
		fits(s.has(fieldA), mayBase(s, x.A), x.A == 0) &&
		fits(s.has(fieldB), isRegister(x.B), x.B == 0) &&
		fits(s.has(fieldLoc), 0 <= x.Loc && x.Loc < locs, x.Loc == 0) &&
		fits(s.has(fieldImm), mayImm(x, behind), x.Imm == 0)
}

// shapeOf is the row of an operation; of any other number it has no name and no fields.
func shapeOf(op int) shape {
	if op < 0 || op >= len(shapes) {
		return shape{}
	}
	return shapes[op]
}

func (s shape) has(field int) bool {
	return s.fields&field != 0
}

// fits tells whether a field is as it may be, or, where the instruction hasn't it, is 0.
func fits(has, may, zero bool) bool {
	if has {
		return may
	}
	return zero
}

func isRegister(n int) bool {
	return 0 <= n && n < api.NumRegs
}

// mayBase is of field A: what loads or stores may go without a register there.
func mayBase(s shape, a int) bool {
	return isRegister(a) || s.kind != 0 && a == api.None
}

// mayImm is of an instruction that has Imm.
func mayImm(x api.Ins, behind int) bool {
	switch x.Op {
	case api.OpMov:
		return -api.MaxNum <= x.Imm && x.Imm <= api.MaxNum
	case api.OpDmb:
		return 0 <= x.Imm && x.Imm <= lastBarrier
	default:
		return 0 <= x.Imm && x.Imm <= int64(behind)
	}
}
