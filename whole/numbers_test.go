// Package whole has the tests of what the document promises of all layers together.
package whole

import (
	"errors"
	"testing"

	"curtilage/api"
)

func TestErrorsNumbers(t *testing.T) {
	for want, e := range map[int]api.Errno{
		0: api.OK, 1: api.ErrArg, 2: api.ErrLong, 20: api.ErrTag, 21: api.ErrSeal, 22: api.ErrPerm, 23: api.ErrBound, 30: api.ErrPage,
		31: api.ErrAlign, 32: api.ErrMapped, 33: api.ErrBudget, 40: api.ErrCode, 50: api.ErrAsm, 51: api.ErrLabel, 60: api.ErrCall,
		61: api.ErrBreak, 62: api.ErrType, 70: api.ErrFuel, 71: api.ErrTick, 100: api.ErrMagic, 101: api.ErrShort, 102: api.ErrTail,
		103: api.ErrName, 104: api.ErrMany, 105: api.ErrSegment, 106: api.ErrSymbol, 107: api.ErrReloc, 108: api.ErrList, 110: api.ErrLine,
		130: api.ErrMissing, 140: api.ErrUndefined, 141: api.ErrVersion, 160: api.ErrAddress, 180: api.ErrTypes, 190: api.ErrRoom,
		210: api.ErrHandle, 240: api.ErrScript,
	} {
		if int(e) != want {
			t.Errorf("%d is not %d", e, want)
		}
	}
	if s := api.ErrTag.Error(); s != "curtilage: error 20" || api.OK.Error() != "curtilage: no error" || api.Errno(-12).Error() != "curtilage: error -12" {
		t.Error(s)
	}
	if err := error(api.ErrPage); !errors.Is(err, api.ErrPage) || errors.Is(err, api.ErrTag) {
		t.Error("errors are values")
	}
}

func TestLimitsAndPermissions(t *testing.T) {
	for i, x := range [][2]int{
		{api.MaxTypes, 64}, {api.Page, 256}, {api.Granule, 32}, {api.MaxPages, 256}, {api.MaxPage, 65536}, {api.MaxText, 4000}, {api.MaxScript, 8000},
		{api.MaxLines, 300}, {api.MaxNeeded, 8}, {api.MaxSegments, 6}, {api.MaxSymbols, 40}, {api.MaxRelocs, 60}, {api.MaxLists, 8}, {api.MaxSize, 2048},
		{api.MaxEnd, 16384}, {api.MaxTexts, 8}, {api.MayLoad, 1}, {api.MayStore, 2}, {api.MayRun, 4}, {api.MayTake, 8}, {api.MayGive, 16},
		{api.MaySeal, 32}, {api.MayUnseal, 64}, {api.MayInvoke, 128}, {api.AllPerms, 255}, {api.KindR, 1}, {api.KindI, 2}, {api.KindLoad, 3},
		{api.KindSave, 4}, {api.KindIf, 5}, {api.KindHigh, 6}, {api.KindJump, 7}, {api.KindOne, 8}, {api.KindNone, 9}, {api.KindTwo, 10},
		{api.FlagRead, 1}, {api.FlagWrite, 2}, {api.FlagRun, 4}, {api.SymFunc, 1}, {api.SymData, 2}, {api.BindLocal, 1}, {api.BindOuter, 2},
		{api.BindWeak, 3}, {api.SeenAll, 1}, {api.SeenOwn, 2},
	} {
		if x[0] != x[1] {
			t.Errorf("number %d is %d, not %d", i, x[0], x[1])
		}
	}
}
