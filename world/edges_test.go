package world

import "testing"

func TestSamplesAtTheLimits(t *testing.T) {
	w := play(t, begin(t), sampled(1, 1, 0, 1), sampled(1, 9, 1, 1), sampled(9, 1, 65535, 1<<20))
	if w.Series[0].In[0] != 1 || w.Series[0].Out[0] != 65535<<20 || w.Series[3].Out[0] != 1 || w.Series[3].In[0] != 65535<<20 {
		t.Error("samples", w.Series)
	}
}
