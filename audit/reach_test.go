package audit_test

import (
	"reflect"
	"unsafe"

	"turnstone/account"
	"turnstone/core"
	"turnstone/dtree"
	"turnstone/queue"
	"turnstone/req"
	"turnstone/set"
)

// What is done with a book breaks no rule, so its parts are reached past their packages, and broken by hand.

// part is a field of what a pointer is to, whatever its name.
func part[T any](of any, name string) *T {
	return (*T)(unsafe.Pointer(reflect.ValueOf(of).Elem().FieldByName(name).UnsafeAddr()))
}

func coreAt(b *account.Book, k int) *core.Core { return (*part[[]*core.Core](b.System, "cores"))[k] }

func countAt(b *account.Book, k int) *account.Count {
	return &(*part[[]account.Count](b, "counts"))[k]
}

// reqsOf are the requests of a core, by their IDs.
func reqsOf(c *core.Core) map[int]req.Req {
	var s *set.Set = c.Set
	return *part[map[int]req.Req](s, "reqs")
}

func treeOf(c *core.Core) dtree.Tree {
	var q *queue.Queue = c.Queue
	return *part[dtree.Tree](q, "inOrder")
}

func setRun(c *core.Core, id int) { *part[int](c, "run") = id }
