package build

import (
	"errors"
	"testing"

	"curtilage/api"
)

// TestK2LineErrorsAreAsked holds for the errors of lines as values, which no call hands out.
func TestK2LineErrorsAreAsked(t *testing.T) {
	var wrong lineError
	err := error(lineError{line: 3, what: api.ErrAsm})
	if !errors.As(err, &wrong) || wrong.line != 3 || !errors.Is(err, api.ErrAsm) || err.Error() != "line 3: curtilage: error 50" {
		t.Error(err)
	}
}
