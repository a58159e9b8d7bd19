package tests

import (
	"fmt"

	"envelope/api"
	"envelope/ivp"
	"envelope/script"
	"envelope/watch"
)

// The text is y' = -y from 1 on, for one unit of time.
func Example() {
	p, line, e := script.Parse(`vars 1
const -1p0
load 0
mul 0 1
out 2
box -1p3 1p3
start 1p0
steps 1073741824 4096 1 10000
tol 1p-30 1p-30 1p-10
at 0 536870912 1073741824
`)
	if e != api.OK {
		fmt.Println(line, e)
		return
	}
	ended := ivp.Solve(p)
	for _, o := range ended.Outs {
		fmt.Printf("%d: %.7f, off %.7f at most\n", o.At, o.Y[0], o.Bound)
	}
	fmt.Println(ended.E)
	some, e := watch.Watch(p, 2)
	fmt.Println(len(some), e)
	// Output:
	// 0: 1.0000000, off 0.0000000 at most
	// 536870912: 0.6065307, off 0.0000000 at most
	// 1073741824: 0.3678794, off 0.0000000 at most
	// ok
	// 2 ok
}
