// Package rules tests what holds in all layers: the words, the calls and the form of the code.
package rules

import (
	"errors"
	"testing"

	"drover/api"
)

func TestErrorsNumbers(t *testing.T) { // DOC.md, Words
	for _, c := range []struct {
		name string
		e    api.Errno
		want int
		word string
	}{
		{"OK", api.OK, 0, "error 0"},
		{"ErrArg", api.ErrArg, 1, "error 1"},
		{"ErrNil", api.ErrNil, 2, "error 2"},
		{"ErrEnd", api.ErrEnd, 10, "error 10"},
		{"ErrBytes", api.ErrBytes, 11, "error 11"},
		{"ErrMore", api.ErrMore, 12, "error 12"},
		{"ErrSum", api.ErrSum, 13, "error 13"},
		{"ErrField", api.ErrField, 20, "error 20"},
		{"ErrMatch", api.ErrMatch, 21, "error 21"},
		{"ErrAct", api.ErrAct, 22, "error 22"},
		{"ErrInstr", api.ErrInstr, 23, "error 23"},
		{"ErrGroup", api.ErrGroup, 24, "error 24"},
		{"ErrMeter", api.ErrMeter, 25, "error 25"},
		{"ErrTable", api.ErrTable, 26, "error 26"},
		{"ErrFull", api.ErrFull, 27, "error 27"},
		{"ErrClash", api.ErrClash, 28, "error 28"},
		{"ErrTwice", api.ErrTwice, 29, "error 29"},
		{"ErrLoop", api.ErrLoop, 30, "error 30"},
		{"ErrNone", api.ErrNone, 31, "error 31"},
		{"ErrSyntax", api.ErrSyntax, 40, "error 40"},
		{"ErrWhole", api.ErrWhole, 41, "error 41"},
		{"ErrTopo", api.ErrTopo, 42, "error 42"},
		{"ErrCut", api.ErrCut, 43, "error 43"},
		{"ErrBig", api.ErrBig, 44, "error 44"},
		{"a number below 0", api.Errno(-7), -7, "error -7"},
	} {
		if int(c.e) != c.want || c.e.Error() != c.word {
			t.Errorf("%s: %d, %q", c.name, int(c.e), c.e.Error())
		}
	}
	var e error = api.ErrCut
	if !errors.Is(e, api.ErrCut) || errors.Is(e, api.ErrBig) {
		t.Error("an error is not told from another one")
	}
}

func TestLimits(t *testing.T) { // DOC.md, Words
	for _, c := range []struct {
		name      string
		got, want int
	}{
		{"MaxBytes", api.MaxBytes, 1500},
		{"MaxPorts", api.MaxPorts, 16},
		{"MaxTables", api.MaxTables, 8},
		{"MaxFlows", api.MaxFlows, 256},
		{"MaxGroups", api.MaxGroups, 64},
		{"MaxMeters", api.MaxMeters, 16},
		{"MaxPred", api.MaxPred, 60},
		{"MaxParts", api.MaxParts, 12},
		{"MaxCubes", api.MaxCubes, 128},
		{"MaxExpr", api.MaxExpr, 300},
		{"MaxSwitch", api.MaxSwitch, 65535},
		{"MaxText", api.MaxText, 4096},
		{"MaxDeep", api.MaxDeep, 24},
	} {
		if c.got != c.want {
			t.Errorf("%s: %d", c.name, c.got)
		}
	}
}
