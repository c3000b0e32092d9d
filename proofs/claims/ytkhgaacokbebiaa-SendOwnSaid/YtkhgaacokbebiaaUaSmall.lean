/- uart.place: what a frame's bit is worth in the byte; uart.isOdd: is an odd number of a frame's bits 1 to 9 high? -/
import Derived.Test.YtkhgaacokbebiaaUaMem
namespace Go.Proofs.Ytkhgaacokbebiaa.Ua
open Go.RowKit

end Go.Proofs.Ytkhgaacokbebiaa.Ua
