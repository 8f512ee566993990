package volume

import (
	"slices"

	"sheetpile/api"
	"sheetpile/block"
	"sheetpile/conf"
	"sheetpile/intent"
	"sheetpile/ring"
	"sheetpile/stripe"
)

// codeword is each disk's shard of a stripe, and whether it has one of the
// stripe's epoch.
type codeword struct {
	epoch  int
	shards []string
	have   []bool
}

// own is what disk d has at a place, if it is its own.
func (v *Volume) own(d int, place int) (block.Block, bool) {
	text, err := v.Array.Read(d, place)
	if err != api.OK {
		return block.Block{}, false
	}
	b, err := block.Own(text, v.id, d, place)
	return b, err == api.OK
}

// head is the layout that disk d has: of zero values, which no layout has, if
// there is none.
func (v *Volume) head(d int) api.Conf {
	b, is := v.own(d, headPlace)
	if !is {
		return api.Conf{}
	}
	c, _ := conf.Read(b.Text)
	return c
}

// findLayout takes the first one that is of as many disks as there are.
func (v *Volume) findLayout() bool {
	for d := range v.Disks() {
		if c := v.head(d); conf.Disks(c) == v.Disks() {
			v.layout = c
			return true
		}
	}
	return false
}

func (v *Volume) intents() []intent.Intent {
	var list []intent.Intent
	for _, d := range v.journal() {
		// The stripes, which ring.Gather does not look at, begin behind the slots.
		sectors := make([]string, conf.Stripe(v.layout, 0))
		for n := range sectors {
			// With an error it is empty, and so no intent.
			sectors[n], _ = v.Array.Read(d, n)
		}
		list = append(list, ring.Gather(v.layout, v.id, d, sectors)...)
	}
	return list
}

// latest is the greatest Epoch of all shards.
func (v *Volume) latest() int {
	latest := noEpoch
	for n := range v.layout.Stripes {
		_, epochs := v.look(n)
		latest = max(latest, slices.Max(epochs))
	}
	return latest
}

// look tells each disk's shard of stripe n, and its Epoch.
func (v *Volume) look(n int) (shards []string, epochs []int) {
	for d := range conf.Disks(v.layout) {
		b, is := v.own(d, conf.Stripe(v.layout, n))
		if !is || len(b.Text) != v.layout.Shard {
			b = block.Block{Epoch: noEpoch}
		}
		shards = append(shards, b.Text)
		epochs = append(epochs, b.Epoch)
	}
	return shards, epochs
}

func (v *Volume) find(n int) (codeword, api.Errno) {
	if !v.has(n) {
		return codeword{}, api.ErrArg
	}
	if v.Down() {
		return codeword{}, api.ErrPower
	}
	shards, epochs := v.look(n)
	epoch := epochOf(epochs, v.layout.K)
	if epoch == noEpoch {
		return codeword{}, api.ErrLost
	}
	have := make([]bool, len(epochs))
	for d := range have {
		have[d] = epochs[d] == epoch
	}
	return codeword{epoch: epoch, shards: shards, have: have}, api.OK
}

func (v *Volume) join(w codeword) (string, api.Errno) {
	s, err := stripe.Join(v.layout, w.shards, w.have)
	if err != api.OK {
		return "", api.ErrLost
	}
	return s, api.OK
}

// epochOf is the greatest one that stands k times at least; that may be
// noEpoch, which is below all others.
func epochOf(epochs []int, k int) int {
	rising := slices.Sorted(slices.Values(epochs))
	for i := len(rising) - k; i >= 0; i-- {
		if rising[i] == rising[i+k-1] {
			return rising[i]
		}
	}
	return noEpoch
}
