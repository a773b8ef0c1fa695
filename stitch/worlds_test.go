package stitch_test

import (
	"math"
	"testing"

	"stitch/api"
	"stitch/stitch"
)

func TestP5NumbersOfRepositories(t *testing.T) {
	for _, n := range []int{0, 4, -1, 5, -3, 256 + 1, 1<<32 + 1, math.MaxInt, math.MinInt, math.MinInt + 1} {
		if w, err := stitch.New(n); w != nil || err != api.ErrCount {
			t.Errorf("P5: New(%d) = %v, %d, want ErrCount", n, w, err)
		}
	}
	for n := 1; n <= 3; n++ {
		w := world(t, n)
		for repo := range n {
			if names, err := w.Files(repo); len(names) != 0 || err != api.OK {
				t.Errorf("P5: New(%d): Files(%d) = %q, %d", n, repo, names, err)
			}
			is(t, "P5: Write", w.Write(repo, "a", "x\n"), api.OK)
			textIs(t, w, repo, "a", "x\n")
		}
	}
}

// Everything else is wrong as well in these calls: that there is no such repository goes first.
func TestP5NoSuchRepository(t *testing.T) {
	for n := 1; n <= 3; n++ {
		w := world(t, n)
		for _, repo := range []int{-1, n, n + 1, 3, math.MaxInt, math.MinInt, 1 << 32, -n} {
			for _, name := range []string{"a", "", "A"} {
				is(t, "P5: Write", w.Write(repo, name, "x"), api.ErrRepo)
				is(t, "P5: Write", w.Write(repo, name, "thirteen rune"), api.ErrRepo)
				is(t, "P5: Erase", w.Erase(repo, name), api.ErrRepo)
				_, err := w.Text(repo, name)
				is(t, "P5: Text", err, api.ErrRepo)
				_, err = w.Kept(repo, name)
				is(t, "P5: Kept", err, api.ErrRepo)
			}
			_, err := w.Files(repo)
			is(t, "P5: Files", err, api.ErrRepo)
			for _, command := range []string{"", "log", "pull 2"} {
				_, err = w.Do(repo, command)
				is(t, "P5: Do", err, api.ErrRepo)
			}
		}
	}
}

func world(t *testing.T, n int) *stitch.World {
	t.Helper()
	w, err := stitch.New(n)
	if w == nil || err != api.OK {
		t.Fatalf("P5: New(%d): %d", n, err)
	}
	return w
}

func is(t *testing.T, what string, got, want api.Errno) {
	t.Helper()
	if got != want {
		t.Errorf("%s: %d, want %d", what, got, want)
	}
}

func textIs(t *testing.T, w *stitch.World, repo int, name, want string) {
	t.Helper()
	if got, err := w.Text(repo, name); got != want || err != api.OK {
		t.Errorf("P6: Text(%d, %q) = %q, %d, want %q", repo, name, got, err, want)
	}
}
