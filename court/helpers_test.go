package court_test

import (
	"fmt"
	"math"
	"math/rand"
	"reflect"
	"strings"
	"testing"

	"restante/api"
)

func pick[T any](r *rand.Rand, list ...T) T { return list[r.Intn(len(list))] }

func same[T comparable](t *testing.T, what string, got, want T) {
	t.Helper()
	if got != want {
		t.Fatalf("%s: got %v, want %v", what, got, want)
	}
}

// equal compares results by their texts, which are the same for nil and empty slices.
func equal(t *testing.T, what string, got, want any) {
	t.Helper()
	if g, w := fmt.Sprintf("%+v", got), fmt.Sprintf("%+v", want); g != w {
		t.Fatalf("%s: got %s, want %s", what, g, w)
	}
}

// fails compares an error, behind which the other results have to be zero.
func fails(t *testing.T, what string, e, want api.Errno, results ...any) {
	t.Helper()
	same(t, what, e, want)
	for _, x := range results {
		if v := reflect.ValueOf(x); v.Kind() == reflect.Slice && v.Len() > 0 || v.Kind() != reflect.Slice && !isZero(v) {
			t.Fatalf("%s: %v with the result %+v", what, e, x)
		}
	}
}

// isZero reports whether a value is zero, where empty slices are.
func isZero(v reflect.Value) bool {
	switch v.Kind() {
	case reflect.Slice:
		return v.Len() == 0
	case reflect.Struct:
		for i := range v.NumField() {
			if !isZero(v.Field(i)) {
				return false
			}
		}
		return true
	}
	return v.IsZero()
}

// extremes are numbers that few fields may have.
func extremes() []int {
	return []int{math.MinInt, math.MinInt + 1, -100001, -1, 0, 1, 2, 3, 4, 5, 6, 7, 8, 9, 11, 14, 15, 16, 4000, 4001, 100000, 100001, 1000000, 1000001, 1000000000, 1000000001, 9007199254740992, 9007199254740993, math.MaxInt - 1, math.MaxInt}
}

// copied returns a value in new memory, with no more capacity than it needs.
func copied[T any](x T) T { return copiedValue(reflect.ValueOf(x), 0).Interface().(T) }

// roomy returns a copy of a value in which all slices have more memory than they need.
func roomy[T any](x T) T { return copiedValue(reflect.ValueOf(x), 3).Interface().(T) }

func copiedValue(v reflect.Value, more int) reflect.Value {
	to := reflect.New(v.Type()).Elem()
	to.Set(v)
	switch v.Kind() {
	case reflect.Slice:
		if v.Len()+more > 0 {
			to.Set(reflect.MakeSlice(v.Type(), v.Len(), v.Len()+more))
		}
		for i := range v.Len() {
			to.Index(i).Set(copiedValue(v.Index(i), more))
		}
	case reflect.Struct:
		for i := range v.NumField() {
			to.Field(i).Set(copiedValue(v.Field(i), more))
		}
	}
	return to
}

// placesIn returns all parts of a value that may be changed: numbers, strings, bools and slices.
func placesIn(v reflect.Value) []reflect.Value {
	var list []reflect.Value
	switch v.Kind() {
	case reflect.Slice:
		list = append(list, v)
		for i := range v.Len() {
			list = append(list, placesIn(v.Index(i))...)
		}
	case reflect.Array:
		for i := range v.Len() {
			list = append(list, placesIn(v.Index(i))...)
		}
	case reflect.Struct:
		for i := range v.NumField() {
			list = append(list, placesIn(v.Field(i))...)
		}
	default:
		list = append(list, v)
	}
	return list
}

// spoilt returns a copy of a value in which something has any other value.
func spoilt[T any](r *rand.Rand, x T) T {
	x = copied(x)
	list := placesIn(reflect.ValueOf(&x).Elem())
	for range 1 + r.Intn(2) {
		change(r, pick(r, list...))
	}
	return x
}

func change(r *rand.Rand, v reflect.Value) {
	switch v.Kind() {
	case reflect.Int:
		v.SetInt(pick(r, v.Int()+1, v.Int()-1, int64(pick(r, extremes()...))))
	case reflect.Uint8:
		v.SetUint(uint64(pick(r, 0, 1, 2, 3, 4, 5, 6, 7, 9, 10, 11, 15, 16, r.Intn(256), 255)))
	case reflect.Bool:
		v.SetBool(!v.Bool())
	case reflect.String:
		v.SetString(spoiltText(r, v.String()))
	case reflect.Slice:
		changeSlice(r, v)
	}
}

func changeSlice(r *rand.Rand, v reflect.Value) {
	n := v.Len()
	if n == 0 {
		v.Set(reflect.Append(v, reflect.Zero(v.Type().Elem())))
		return
	}
	switch i := r.Intn(n); r.Intn(5) {
	case 0:
		v.Set(reflect.Zero(v.Type()))
	case 1:
		v.Set(reflect.AppendSlice(copiedValue(v.Slice(0, i), 0), v.Slice(i+1, n)))
	case 2:
		v.Set(reflect.Append(v, copiedValue(v.Index(i), 0)))
	case 3:
		v.Set(reflect.Append(v, reflect.Zero(v.Type().Elem())))
	case 4:
		j := r.Intn(n)
		x, y := copiedValue(v.Index(i), 0), copiedValue(v.Index(j), 0)
		v.Index(i).Set(y)
		v.Index(j).Set(x)
	}
}

// spoiltText returns a text of which a part is changed.
func spoiltText(r *rand.Rand, s string) string {
	at := r.Intn(len(s) + 1)
	switch r.Intn(6) {
	case 0:
		return s[:at]
	case 1:
		return s[:at] + pick(r, "0", " ", "\n", "-", "+", "a", "1", "/", "\x00", "\xff", "5 ") + s[at:]
	case 2:
		return s[:at] + s[min(at+1, len(s)):]
	case 3:
		return pick(r, "", "1/", "a", "weights 1 2 3", "spell 2 v/f", strings.Repeat("a", 4000), strings.Repeat("a", 4001))
	case 4:
		return s[:at] + pick(r, "0", " ", "\n", "9", "a", "/") + s[min(at+1, len(s)):]
	}
	lines := strings.SplitAfter(s, "\n")
	i := r.Intn(len(lines))
	return strings.Join(append(append(append([]string{}, lines[:i]...), pick(r, lines...)), lines[i+r.Intn(2):]...), "")
}
