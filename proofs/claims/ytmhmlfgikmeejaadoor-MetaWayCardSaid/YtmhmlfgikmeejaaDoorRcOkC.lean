/- 'Ok'. -/
import Derived.Test.YtmhmlfgikmeejaaDoorRcOk2
namespace Go.Proofs.YtmhmlfgikmeejaaDoor
open Go.RowKit
set_option linter.unusedVariables false

/-- What the ten parts of Ok are told. -/
structure OkC (w : World) (s : ByteArray) (n sid co : Int) (sa : Option Addr) (ns cs : Nat) (la : Option Addr) (nl cl : Nat) (t : Tb) (k : Nat) (c1 c2 c3 c4 c5 c6 c7 c8 c9 c10 : Bool) : Prop where
  h1 : ∀ W, Up Nul w W → ∀ g, W.cell? ⟨g, 0, none⟩ = some (.int .i64 (s.size : Nat)) → Calls Tryd.prog 25 #[.agg #[.int .i64 (sh k 0), .int .i64 (sh k 1)], .slice (some ⟨g, 0, none⟩) 1 1] W fun e w' => e = .returned (.bool c1) ∧ Up Nul W w'
  h2 : ∀ W, Calls Tryd.prog 26 #[.string s] W fun e w' => e = .returned (.bool c2) ∧ Up Nul W w'
  h3 : ∀ W, Up Nul w W → ∀ g, W.cell? ⟨g, 0, none⟩ = some (.int .i64 n) → Calls Tryd.prog 25 #[.agg #[.int .i64 (sh k 2), .int .i64 (sh k 3)], .slice (some ⟨g, 0, none⟩) 1 1] W fun e w' => e = .returned (.bool c3) ∧ Up Nul W w'
  h4 : ∀ W, Up Nul w W → ∀ g, W.cell? ⟨g, 0, none⟩ = some (.int .i64 sid) → Calls Tryd.prog 25 #[.agg #[.int .i64 (sh k 4), .int .i64 (sh k 5)], .slice (some ⟨g, 0, none⟩) 1 1] W fun e w' => e = .returned (.bool c4) ∧ Up Nul W w'
  h5 : ∀ W, Up Nul w W → ∀ g, W.cell? ⟨g, 0, none⟩ = some (.int .i64 co) → Calls Tryd.prog 25 #[.agg #[.int .i64 (sh k 6), .int .i64 (sh k 7)], .slice (some ⟨g, 0, none⟩) 1 1] W fun e w' => e = .returned (.bool c5) ∧ Up Nul W w'
  h6 : ((ns : Int) == sh k 8) = c6
  h7 : ∀ W, Up Nul w W → Calls Tryd.prog 25 #[.agg #[.int .i64 (sh k 9), .int .i64 (sh k 10)], .slice sa ns cs] W fun e w' => e = .returned (.bool c7) ∧ Up Nul W w'
  h8 : c6 = true → ∃ q : Int, ((nl : Int) == q) = c8 ∧ ∀ W, Up Nul w W → Calls Tryd.prog 27 #[shv k, .slice sa ns cs] W fun e w' => e = .returned (.int .i64 q) ∧ Up Nul W w'
  h9 : ∀ W, Up Nul w W → Calls Tryd.prog 28 #[.slice la nl cl, .func (.func 29) #[] #[]] W fun e w' => e = .returned (.bool (! c9)) ∧ Up Nul W w'
  h10 : ∀ W, ∀ g, RowI W (some ⟨g, 0, none⟩) t.l → Calls Tryd.prog 25 #[.agg #[.int .i64 (sh k 13), .int .i64 (sh k 14)], .slice (some ⟨g, 0, none⟩) 6 6] W fun e w' => e = .returned (.bool c10) ∧ Up Nul W w'
end Go.Proofs.YtmhmlfgikmeejaaDoor
