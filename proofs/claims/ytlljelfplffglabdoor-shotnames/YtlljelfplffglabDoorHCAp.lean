import Derived.Test.YtlljelfplffglabDoorHCApK
/-! The statement's own test that lists share no room: the walk. -/
namespace Go.Proofs.YtlljelfplffglabDoor.HC
open Go.RowKit
open Go.Proofs
open Go.Proofs.YtlljelfplffglabDoor
open Go.Proofs.YtlljelfplffglabDoor.H (eC hC infoS hid zC)
open Go.Proofs.YtlljelfplffglabDoor.S (Grew Cs own_pos)
set_option linter.unusedVariables false
set_option linter.unusedSimpArgs false
end Go.Proofs.YtlljelfplffglabDoor.HC
