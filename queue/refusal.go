package queue

// prefix says, ahead of a refusal's words, whose they are.
const prefix = "queue: "

// Refusal is why a list was refused.
type Refusal struct {
	Waiting int
	Err     error
}

// Error: the refusal in words.
func (r *Refusal) Error() string {
	if r.Err == nil {
		// The queue makes none such, but anybody can.
		return prefix
	}
	return prefix + r.Err.Error()
}

// Unwrap: what it is.
func (r *Refusal) Unwrap() error { return r.Err }
