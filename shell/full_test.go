package shell

import (
	"testing"

	"sheetpile/api"
	"sheetpile/store"
)

// No line makes sync or merge tell ErrFull, so a call that does stands for
// them: the store is open still, as with no error, and with no other one.
func TestErrorsThatCloseAStore(t *testing.T) { // P24.2
	for err := api.OK; err <= api.ErrLine; err++ {
		s, newErr := New(api.Conf{K: 1, M: 1, Shard: 8, Stripes: 3, Slots: 1})
		if newErr != api.OK {
			t.Fatalf("New: %d", newErr)
		}
		_, got := writing(func(*store.Store) api.Errno { return err })(s, arguments{})
		isOpen := err == api.OK || err == api.ErrFull
		if got != err || (s.store != nil) != isOpen {
			t.Errorf("error %d: %d, open %v", err, got, s.store != nil)
		}
	}
}
