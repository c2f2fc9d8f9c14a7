// Package calls holds no code of the program: its tests hold every call that the chapters list to what all of them promise.
package calls
