package volume

import (
	"os"
	"runtime/debug"
	"testing"
)

// The tests make many small volumes: most of their time would be spent on collecting them.
func TestMain(m *testing.M) {
	debug.SetGCPercent(1000)
	os.Exit(m.Run())
}
