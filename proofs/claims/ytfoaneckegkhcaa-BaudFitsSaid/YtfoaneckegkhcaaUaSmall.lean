/- uart.place: what a frame's bit is worth in the byte; uart.isOdd: is an odd number of a frame's bits 1 to 9 high? -/
import Derived.Test.YtfoaneckegkhcaaUaMem
namespace Go.Proofs.Ytfoaneckegkhcaa.Ua
open Go.RowKit

end Go.Proofs.Ytfoaneckegkhcaa.Ua
