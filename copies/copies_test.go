package copies

import (
	"fmt"
	"reflect"
	"testing"

	"cipherplan/api"
)

// fill gives every field a value, and every slice one element.
func fill(v reflect.Value, n int) {
	switch v.Kind() {
	case reflect.Int:
		v.SetInt(int64(n))
	case reflect.Bool:
		v.SetBool(n%2 == 1)
	case reflect.String:
		v.SetString(fmt.Sprint(n))
	case reflect.Slice:
		if v.Len() == 0 {
			v.Set(reflect.MakeSlice(v.Type(), 1, 1))
		}
		fill(v.Index(0), n)
	case reflect.Struct:
		for i := range v.NumField() {
			fill(v.Field(i), n)
		}
	}
}

// check says whether a copy is equal, and stays what it is when what was copied is changed.
func check[T any](t *testing.T, one func(T) T) {
	var x, was T
	fill(reflect.ValueOf(&x).Elem(), 1)
	fill(reflect.ValueOf(&was).Elem(), 1)
	y := one(x)
	if !reflect.DeepEqual(x, y) {
		t.Errorf("%T: %+v", x, y)
	}
	fill(reflect.ValueOf(&x).Elem(), 2)
	if !reflect.DeepEqual(y, was) {
		t.Errorf("%T: memory is shared: %+v", x, y)
	}
}

func TestCopies(t *testing.T) {
	check(t, Certificate)
	check(t, Chain)
	check(t, Entry)
	check(t, Identity)
	check(t, Endpoint)
	check(t, Exception)
	check(t, Item)
	check(t, Estate)
	check(t, Change)
	check(t, Plan)
	check(t, Host)
	check(t, Run)
	check(t, World)
}

func TestNothing(t *testing.T) {
	if Chain(nil) != nil || len(Each([]int{}, func(n int) int { return n })) != 0 || World(api.World{}).Hosts != nil {
		t.Error("nothing becomes something")
	}
}
