package bound_test

import (
	"reflect"
	"unsafe"

	"turnstone/account"
	"turnstone/core"
	"turnstone/wide"
)

// No core carries so much in any time that the greatest numbers are near, and none just what the edges ask for: so it is put there by hand.

// part is a field of what a pointer is to, whatever its name.
func part[T any](of any, name string) *T {
	return (*T)(unsafe.Pointer(reflect.ValueOf(of).Elem().FieldByName(name).UnsafeAddr()))
}

func coreAt(b *account.Book, k int) *core.Core { return (*part[[]*core.Core](b.System, "cores"))[k] }

func setCarried(b *account.Book, k int, n wide.Int) { *part[wide.Int](coreAt(b, k), "carried") = n }
