package need

import (
	"ropewalk/api"
	"ropewalk/system"
	"ropewalk/term"
)

// checkTerm refuses what is no closed term of a system.
func checkTerm(y *system.System, t api.Term) error {
	if y == nil {
		return &api.Fault{Code: api.ErrArg}
	}
	if e := term.Check(y.Sig(), t); e != api.OK {
		return &api.Fault{Code: api.ErrNeedTerm, Why: e}
	}
	if len(term.Variables(t)) > 0 {
		return &api.Fault{Code: api.ErrNeedTerm}
	}
	return nil
}
