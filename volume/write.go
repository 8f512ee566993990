package volume

import (
	"sheetpile/api"
	"sheetpile/block"
	"sheetpile/conf"
	"sheetpile/intent"
	"sheetpile/stripe"
)

// sector is one that is going to be written.
type sector struct {
	disk  int
	place int
	text  string
}

// writer hands out what writes sectors, and what flushes them. Behind the
// first error, be it of a write, of a flush, or of how the sectors were made,
// neither does anything more; flush tells it.
func (v *Volume) writer() (put func(list []sector, err api.Errno), flush func() api.Errno) {
	first := api.OK
	try := func(do func() api.Errno) {
		if first == api.OK {
			first = do()
		}
	}
	put = func(list []sector, err api.Errno) {
		try(func() api.Errno { return err })
		for _, s := range list {
			try(func() api.Errno { return v.Array.Write(s.disk, s.place, s.text) })
		}
	}
	flush = func() api.Errno {
		try(v.Flush)
		return first
	}
	return put, flush
}

// heads are the layout, for these disks.
func (v *Volume) heads(disks []int) ([]sector, api.Errno) {
	head, err := conf.Write(v.layout)
	if err != api.OK {
		return nil, err
	}
	return v.seal(disks, headPlace, madeEpoch, func(int) string { return head })
}

// records are one intent, for these disks.
func (v *Volume) records(disks []int, i intent.Intent) ([]sector, api.Errno) {
	record, err := intent.Write(i)
	if err != api.OK {
		return nil, err
	}
	return v.seal(disks, conf.Slot(v.layout, i.Seq), i.Seq, func(int) string { return record })
}

// shards are those parts of stripe n that these disks are to have.
func (v *Volume) shards(disks []int, n int, epoch int, parts []string) ([]sector, api.Errno) {
	return v.seal(disks, conf.Stripe(v.layout, n), epoch, func(d int) string { return parts[d] })
}

func (v *Volume) shardsOf(disks []int, n int, epoch int, s string) ([]sector, api.Errno) {
	parts, err := stripe.Split(v.layout, s)
	if err != api.OK {
		return nil, err
	}
	return v.shards(disks, n, epoch, parts)
}

func (v *Volume) seal(disks []int, place int, epoch int, textOf func(d int) string) ([]sector, api.Errno) {
	var list []sector
	for _, d := range disks {
		text, err := block.Seal(block.Block{Array: v.id, Disk: d, Place: place, Epoch: epoch, Text: textOf(d)})
		if err != api.OK {
			return nil, err
		}
		list = append(list, sector{disk: d, place: place, text: text})
	}
	return list, api.OK
}

// redo writes the shards of intents that not all disks have yet. It flushes
// once, behind all: if it is cut, the intents are still there.
func (v *Volume) redo(newest []intent.Intent) api.Errno {
	put, flush := v.writer()
	for _, i := range newest {
		if v.isToRedo(i) {
			put(v.shardsOf(v.working(), i.Stripe, i.Seq+1, i.Text))
		}
	}
	return flush()
}

// isToRedo tells no of an intent that is older than one of the shards.
func (v *Volume) isToRedo(i intent.Intent) bool {
	_, epochs := v.look(i.Stripe)
	is := false
	for d, epoch := range epochs {
		if epoch > i.Seq+1 {
			return false
		}
		if v.Alive(d) && epoch != i.Seq+1 {
			is = true
		}
	}
	return is
}
