package script

import (
	"testing"

	"woodgrain/api"
)

// No script that may be is too long, as the limits are: what Check asks for that
// is held against Build's bytes.
func TestLength(t *testing.T) {
	for _, s := range []api.Script{
		{Tag: "2K", Image: make([]byte, 2048)},
		{Tag: "F4SC", Image: make([]byte, 32768), Events: make([]api.Event, 3)},
		{Tag: "3F", Image: make([]byte, api.MaxImage), Events: make([]api.Event, api.MaxEvents)},
	} {
		b, e := Build(s)
		if e != api.OK || length(s) != len(b) || len(b) > api.MaxScript {
			t.Errorf("P22.1: of %d bytes the length is %d (%d)", len(b), length(s), e)
		}
	}
}
