package abi

import (
	"math"

	"curtilage/api"
	"curtilage/cap"
	"curtilage/tagmem"
)

// region is laid from its beginning on; all of it is mapped, so that nothing that is laid tells an error.
type region struct {
	mem *tagmem.Mem
	at  uint64
}

// bytes is a capability of those from from on, up to end, standing at the first one.
func bytes(from, end uint64, perms int) api.Cap {
	return cap.And(cap.Bound(cap.Move(cap.Root(math.MaxUint64), from), end-from), perms)
}

// texts lays texts, each with a byte 0 behind it, and answers their capabilities.
func (r *region) texts(l []string) []api.Cap {
	var some []api.Cap
	for _, s := range l {
		from := r.at
		r.mem.Put(from, append([]byte(s), 0))
		r.at += uint64(len(s)) + 1
		some = append(some, bytes(from, r.at, api.MayLoad))
	}
	return some
}

// list lays capabilities, and one that is none behind them, and answers that of the list without its end.
func (r *region) list(l []api.Cap) api.Cap {
	from := r.at
	for _, c := range l {
		r.give(c)
	}
	list := bytes(from, r.at, api.MayLoad|api.MayTake)
	r.give(cap.Null())
	return list
}

func (r *region) give(c api.Cap) {
	r.mem.StoreCap(r.at, c)
	r.at += api.Granule
}

// stack is all that was not laid, up to the region's end, where it stands.
func (r *region) stack(end uint64) api.Cap {
	return cap.Move(bytes(r.at, end, api.MayLoad|api.MayStore|api.MayTake|api.MayGive), end)
}
