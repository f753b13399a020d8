import Derived.Test.YtbagfepdmmfegaaDoorK27
import Derived.Test.YtbagfepdmmfegaaDoorK23
set_option linter.unusedVariables false
set_option linter.unusedSimpArgs false
/- Live, and all steps. -/
namespace Go.Proofs.YtbagfepdmmfegaaDoor
open Go.RowKit Go.Shelf

set_option maxRecDepth 100000 in
set_option maxHeartbeats 4000000 in
theorem done_live (W : World) (x r : Nat) (fp : Nat → Prop) (S : Ti.St) (hp : PairAt PrIs W x r fp S) (on a b h n s : Int) (a0 : -9223372036854775808 ≤ a) (a1 : a ≤ 9223372036854775807) :
    Calls Tryd.prog 45 #[.agg #[.pointer (some ⟨x, 0, none⟩), .pointer (some ⟨r, 0, none⟩)], .agg #[.int .i64 9, .int .i64 on, .int .i64 a, .int .i64 b, .int .i64 h, .int .i64 n, .int .i64 s]] W fun e W' =>
      e = .returned (.bool true) ∧ ∃ S', PPost PrIs W W' x r fp S' := by
  go_enter Tryd.func45, Tryd.ntmps45
  go_wp2_with fail
  have hE0 : Ext none1 W ((W.alloc (.cells #[.pointer (some ⟨x, 0, none⟩), .pointer (some ⟨r, 0, none⟩)] 85)).alloc (.cells #[.int .i64 9, .int .i64 on, .int .i64 a, .int .i64 b, .int .i64 h, .int .i64 n, .int .i64 s] 65)) := ((Ext.refl _ _).alloc _).alloc _
  generalize ((W.alloc (.cells #[.pointer (some ⟨x, 0, none⟩), .pointer (some ⟨r, 0, none⟩)] 85)).alloc (.cells #[.int .i64 9, .int .i64 on, .int .i64 a, .int .i64 b, .int .i64 h, .int .i64 n, .int .i64 s] 65)) = W0 at *
  refine Calls.mono ((callsIn_wide (n := 13)).1 (told_in 13 (by omega) W0 x r fp S (hp.keep face hE0 (fun _ _ x => x) (fun x => x)) 9 on a b h n s a0 a1)) ?_
  rintro e W1 ⟨rfl, S', hP⟩
  have HP : Hid _ := PPost.before hE0 hP
  clear hP hE0
  go_wp2_with fail
  go_ret
  exact ⟨rfl, S', HP.out⟩

theorem done_all (W : World) (x r : Nat) (fp : Nat → Prop) (S : Ti.St) (hp : PairAt PrIs W x r fp S) (k on a b h n s : Int) (hk : k ≤ 9) (a0 : -9223372036854775808 ≤ a) (a1 : a ≤ 9223372036854775807) :
    Calls Tryd.prog 45 #[.agg #[.pointer (some ⟨x, 0, none⟩), .pointer (some ⟨r, 0, none⟩)], .agg #[.int .i64 k, .int .i64 on, .int .i64 a, .int .i64 b, .int .i64 h, .int .i64 n, .int .i64 s]] W fun e W' =>
      e = .returned (.bool true) ∧ ∃ S', PPost PrIs W W' x r fp S' := by
  by_cases e9 : k = 9
  · subst e9; exact done_live W x r fp S hp on a b h n s a0 a1
  · exact done_larges face trivial W x r fp S hp k on a b h n s (by omega) a0 a1

theorem all_any (W : World) (sv : Value) (ops : List O7) (hG : GlobAt W) (hs : ScriptAt W sv ops) (hn : ops.length ≤ 2513169434843) (hok : ∀ o ∈ ops, o.ok) :
    Calls Tryd.prog 10 #[sv] W fun e W' => e = .returned (.bool true) ∧ Ext none1 W W' := by
  have H : Hid _ := plays_any face W sv ops 9 hG hs hn hok (by omega) (by omega) (fun o h1 ho W x r fp S hp => done_all W x r fp S hp o.k o.on o.a o.b o.h o.n o.s h1 ho.2.2.1 ho.2.2.2)
  clear hs hok hG
  go_enter Tryd.func10, Tryd.ntmps10
  go_wp2_with fail
  refine Calls.mono H.out ?_
  rintro e W' ⟨rfl, hE⟩
  go_wp2
  go_ret
  exact ⟨rfl, hE⟩
end Go.Proofs.YtbagfepdmmfegaaDoor
