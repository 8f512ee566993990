package store

import (
	"sheetpile/api"
	"sheetpile/conf"
	"sheetpile/log"
	"sheetpile/volume"
)

// half is some of the stripes behind stripe 0, and what that tells while they
// are in use.
type half struct {
	name  string
	from  int
	count int
}

func halves(c api.Conf) (half, half) {
	from := tellsHalf + 1
	count := (c.Stripes - from) / 2
	return half{"A", from, count}, half{"B", from + count, count}
}

func (h half) open(v *volume.Volume) (*log.Log, api.Errno) { return log.Open(v, h.from, h.count) }

// room is how many bytes go into its log while that is empty.
func (h half) room(c api.Conf) int { return h.count * conf.Capacity(c) }

// write is its log, that has this text alone.
func (h half) write(v *volume.Volume, text string) (*log.Log, api.Errno) {
	l, err := h.open(v)
	if err != api.OK {
		return nil, err
	}
	if err := l.Truncate(0); err != api.OK {
		return nil, err
	}
	if err := l.Append(text); err != api.OK {
		return nil, err
	}
	return l, api.OK
}
