// Package promises has the tests that go across all layers: that no call panics, that what is handed in stays as it is, that the same is answered to the same, and the document's examples.
package promises
