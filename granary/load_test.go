package granary

import (
	"testing"

	"granary/api"
)

// TestLoadOfOtherBytes lays bytes on a disk that no Save of a dataset would.
func TestLoadOfOtherBytes(t *testing.T) {
	for _, bytes := range []string{"", "GR", "no dataset"} {
		s, _ := Disk(100)
		if e := s.disk.Save(bytes); e != api.OK {
			t.Fatalf("P7: Save of %q = %d", bytes, e)
		}
		if d, e := s.Load(); d != nil || e != api.ErrForm {
			t.Errorf("P8: Load of %q = %v, %d, want nil, ErrForm", bytes, d, e)
		}
	}
}
