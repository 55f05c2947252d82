/-
  What package ledger answers of Check, Get, Where and Hold alone (layer 11 asks no more of it).
-/
import Derived.Test.YtpkfejfdbjoehaaLedgerLaws
namespace Go.Proofs.Ytpkfejfdbjoehaa
open Go.RowKit Go.WalkArith

structure LedgerCW : Prop where
  check : ∀ (A : Option Addr) (n k : Nat) (l : List Chn) (w : World), Sl lay_Channel w (· < w.heap.size) A n k l →
    Calls Try.prog 23 #[.slice A n k] w fun e w' => e = .returned (.int .i64 (lgE l)) ∧ Below w.heap.size w w'
  get : ∀ (A : Option Addr) (n k : Nat) (l : List Chn) (id : Int) (w : World), Sl lay_Channel w (· < w.heap.size) A n k l → (Lit.int .u64 id).wf = true →
    Calls Try.prog 25 #[.slice A n k, .int .u64 id] w fun e w' => ∃ v, e = .returned (.tuple #[v, .int .i64 (gtE l id)]) ∧ OwnC w' w.heap.size v (gtC l id) ∧ Below w.heap.size w w'
  where_ : ∀ (A : Option Addr) (n k : Nat) (l : List Chn) (hold : Int) (w : World), Sl lay_Channel w (· < w.heap.size) A n k l → (Lit.int .u64 hold).wf = true →
    Calls Try.prog 27 #[.slice A n k, .int .u64 hold] w fun e w' => e = .returned (.tuple #[.int .u64 (whV l hold), .int .i64 (whE l hold)]) ∧ Below w.heap.size w w'
  hold : ∀ (A : Option Addr) (n k : Nat) (l : List Chn) (id hold m : Int) (w : World), Sl lay_Channel w (· < w.heap.size) A n k l → (Lit.int .u64 id).wf = true → (Lit.int .u64 hold).wf = true → (Lit.int .u64 m).wf = true →
    Calls Try.prog 26 #[.slice A n k, .int .u64 id, .int .u64 hold, .int .u64 m] w fun e w' => ∃ v, e = .returned (.tuple #[v, .int .i64 (lhoE l id hold m)]) ∧ OwnL lay_Channel w' w.heap.size (some w.heap.size) 28 v (lhoL l id hold m) ∧ Below w.heap.size w w'
end Go.Proofs.Ytpkfejfdbjoehaa
