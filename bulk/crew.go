package bulk

import (
	"sync"

	"endonym/api"
	"endonym/idna"
	"endonym/ucd"
)

// allWrong is all sixteen errors.
const allWrong api.Errs = 1<<16 - 1

// share has some workers do the numbers below n, and ends when all of them have ended. Each number is sent once, so that no
// two workers do the same one.
func share(workers, n int, do func(i int)) {
	numbers := make(chan int)
	var crew sync.WaitGroup
	crew.Add(workers)
	for range workers {
		go func() {
			defer crew.Done()
			for i := range numbers {
				do(i)
			}
		}()
	}
	for i := range n {
		numbers <- i
	}
	close(numbers)
	crew.Wait()
}

// answer is what comes of one job. Beside a Data, an engine refuses flags alone.
func answer(d *ucd.Data, j api.Job) (t api.Told) {
	engine, e := idna.New(d, j.Flags)
	switch {
	case e != api.OK:
		t.Errs = allWrong
	case j.ASCII:
		t.Text, t.Errs = engine.ToASCII(j.Text)
	default:
		t.Text, t.Errs = engine.ToUnicode(j.Text)
	}
	return t
}
