import Derived.Test.YtbagfepdmmfegaaDoorK14
import Derived.Defers
import Derived.Recover
set_option linter.unusedVariables false
set_option linter.unusedSimpArgs false
namespace Go.Proofs.YtbagfepdmmfegaaDoor
open Go.RowKit Go.Shelf

/-! ### a call that gave up deep within ends here -/
theorem catch_panicking (p : Addr) (x : Bool) (u : TypeId) (pv : Value) (older : List PanicEntry) (w : World) (hc : w.cell? p = some (.bool x)) (hz : w.frozen? p = false) :
    CallsD Tryd.prog 53 #[.pointer (some p)] (.panicking ({ v := .iface u pv, recovered := false } :: older)) w fun e u' w' =>
      e = .returned (.tuple #[]) ∧ u' = .panicking ({ v := .iface u pv, recovered := true } :: older) ∧ w' = w.setCell p (.bool false) := by
  refine callsD_of_wpS Tryd.func53 rfl fun c₀ cs hu => ?_
  apply wpS_region
  simp [wpOpsS, go_sem, recoverD, hu, Tryd.ntmps53, Exit.thenS, hc, hz, bodyPostS, results, Tryd.results53]

theorem catch_idle (p : Addr) (x : Bool) (w : World) (hc : w.cell? p = some (.bool x)) (hz : w.frozen? p = false) :
    CallsD Tryd.prog 53 #[.pointer (some p)] .returning w fun e u' w' => e = .returned (.tuple #[]) ∧ u' = .returning ∧ w' = w.setCell p (.bool true) := by
  refine callsD_of_wpS Tryd.func53 rfl fun c₀ cs hu => ?_
  apply wpS_region
  simp [wpOpsS, go_sem, recoverD, hu, Tryd.ntmps53, Exit.thenS, hc, hz, bodyPostS, results, Tryd.results53]
  cases c₀
  simp_all

theorem done_any (w : World) (af : Nat) (lb : Array Value) (v : Value) (A B : World → Prop) (eaf : ∀ args w, (callFunc af args).run Tryd.prog w = .ok (.enter af args) w)
    (hA : ∀ w2, A w2 → w2.heap[w.heap.size]? = some (.cells #[.bool false] 4 (0, 0))) (hB : ∀ w2, B w2 → w2.heap[w.heap.size]? = some (.cells #[.bool false] 4 (0, 0)))
    (hact : Calls Tryd.prog af lb (w.alloc (.cells #[.bool false] 4)) fun e w2 => (e = .returned (.tuple #[]) ∧ A w2) ∨ (e = .panicked [{ v := .iface 142 v, recovered := false }] ∧ B w2)) :
    Calls Tryd.prog 36 #[.func (.func af) #[] lb] w fun e w' =>
      (e = .returned (.bool true) ∧ ∃ w2, A w2 ∧ w' = (w2.setCell ⟨w.heap.size, 0, none⟩ (.bool true)).setCell ⟨w.heap.size, 0, none⟩ (.bool true)) ∨ (e = .returned (.bool false) ∧ ∃ w2, B w2 ∧ w' = w2.setCell ⟨w.heap.size, 0, none⟩ (.bool false)) := by
  have hmf : ∀ (fn : Fn) (first cap : Array Value) (w : World), (Instr.makeFunc fn first cap).run Tryd.prog w = .ok (.func fn first cap) w := fun _ _ _ _ => rfl
  have ec := fun w => eaf lb w
  have H : Hid _ := hact
  clear hact eaf
  go_enter_defers Tryd.func36, Tryd.ntmps36
  go_wp2_with fail
  refine Calls.mono H.out ?_
  rintro e w2 (⟨rfl, ha⟩ | ⟨rfl, hb⟩)
  · have hx := hA w2 ha
    have c1 := cell_of hx 0
    have c2 := frozen_of hx 0
    have hy := heap_set hx 0 (.bool true)
    have d1 := cell_of hy 0
    have d2 := frozen_of hy 0
    have hz := heap_set hy 0 (.bool true)
    have g1 := cell_of hz 0
    simp at c1 d1 g1
    clear H hA hB
    go_wp2
    refine leaves_cons (f := 53) (args := #[.pointer (some ⟨w.heap.size, 0, none⟩)]) (by simp) (by simp [go_sem]) ?_
    refine (catch_idle ⟨w.heap.size, 0, none⟩ true _ d1 d2).mono ?_
    rintro e u' w3 ⟨rfl, rfl, rfl⟩
    have hr : (results Tryd.f36 #[.func (.func af) #[] lb, undef, .pointer (some ⟨w.heap.size, 0, none⟩), .func (.func 53) #[] #[.pointer (some ⟨w.heap.size, 0, none⟩)], .func (.func af) #[] lb, .tuple #[]]).run Tryd.prog ((w2.setCell ⟨w.heap.size, 0, none⟩ (.bool true)).setCell ⟨w.heap.size, 0, none⟩ (.bool true)) = .ok (.bool true) ((w2.setCell ⟨w.heap.size, 0, none⟩ (.bool true)).setCell ⟨w.heap.size, 0, none⟩ (.bool true)) := by
      simp [results, Tryd.results36, go_sem, g1]
    exact ⟨_, hr, .inl ⟨rfl, w2, ha, rfl⟩⟩
  · have hx := hB w2 hb
    have c1 := cell_of hx 0
    have c2 := frozen_of hx 0
    have hy := heap_set hx 0 (.bool false)
    have d1 := cell_of hy 0
    simp at c1 d1
    clear H hA hB
    refine leaves_cons (f := 53) (args := #[.pointer (some ⟨w.heap.size, 0, none⟩)]) (by simp) (by simp [go_sem]) ?_
    refine (catch_panicking ⟨w.heap.size, 0, none⟩ false _ _ [] _ c1 c2).mono ?_
    rintro e u' w3 ⟨rfl, rfl, rfl⟩
    have hr : (results Tryd.f36 #[.func (.func af) #[] lb, undef, .pointer (some ⟨w.heap.size, 0, none⟩), .func (.func 53) #[] #[.pointer (some ⟨w.heap.size, 0, none⟩)], .func (.func af) #[] lb, undef]).run Tryd.prog (w2.setCell ⟨w.heap.size, 0, none⟩ (.bool false)) = .ok (.bool false) (w2.setCell ⟨w.heap.size, 0, none⟩ (.bool false)) := by
      simp [results, Tryd.results36, go_sem, d1]
    exact ⟨_, hr, .inr ⟨rfl, w2, hb, rfl⟩⟩
end Go.Proofs.YtbagfepdmmfegaaDoor
