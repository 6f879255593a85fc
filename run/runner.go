package run

import (
	"burin/api"
	"burin/kind"
)

// runner is a run: its functions, what is left of the script and of the steps, how many calls are within each other, what was told, and why it could not go on.
type runner struct {
	funcs  map[string]api.Func
	script []int64
	steps  int
	calls  int
	events []api.Event
	code   api.Errno
}

// stop ends the run, and tells that it does not go on.
func (r *runner) stop(code api.Errno) bool {
	r.code = code
	return false
}

// step tells whether the run goes on.
func (r *runner) step() bool {
	if r.steps == 0 {
		return r.stop(api.ErrLimit)
	}
	r.steps--
	return true
}

// call tells what comes back from a function, and whether the run goes on.
func (r *runner) call(f api.Func, args []int64) (int64, bool) {
	switch {
	case !r.step():
		return 0, false
	case !f.Has:
		return r.outside(f.Sig, args), true
	case r.calls == api.MaxCalls:
		return 0, r.stop(api.ErrLimit)
	}
	r.calls++
	v, ok := r.inside(f, args)
	r.calls--
	return v, ok
}

// outside tells the event of a call; its arguments are the event's from then on.
func (r *runner) outside(s api.Sig, args []int64) int64 {
	v := r.next(s.Ret)
	r.events = append(r.events, api.Event{Name: s.Name, Args: args, V: v})
	return v
}

// next is what the script has for a function of a kind.
func (r *runner) next(k int) int64 {
	if k == api.KVoid || len(r.script) == 0 {
		return 0
	}
	v, _ := kind.To(r.script[0], k)
	r.script = r.script[1:]
	return v
}

func (r *runner) inside(f api.Func, args []int64) (int64, bool) {
	c := frame{runner: r, vars: map[string]int64{}}
	for i, v := range f.Sig.Args {
		c.vars[v.Name] = args[i]
	}
	switch c.list(f.Body) {
	case stopped:
		return 0, false
	case onward:
		return 0, f.Sig.Ret == api.KVoid || r.stop(api.ErrUndef)
	}
	return c.back, true
}
