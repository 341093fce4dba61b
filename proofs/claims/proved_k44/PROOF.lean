import PyProof.Rows.All
import PySem.Challenge.RW_hueward_k44_plans_are_the_least
import Wide.All
import OpenK.AllK
import Wide.FinOn
import HandS.ForMost
import HandS.Style
import HandS.Flow
import HandS.Lambda
import HandS.ExcValue
import HandS.ExcIs
import KE.GoesMore
import KE.GoesEnum
import HandS.Iter
import HandS.IsInst
import HandS.Defaults
import HandS.RaiseMore
import HandS.FStr
import HandS.Small
import HandS.ExcOwn
import HandS.WordsExc
import HandS.EndTab
set_option Elab.async false
set_option linter.all false
set_option maxRecDepth 100000
set_option maxHeartbeats 4000000
namespace Hue
open L2 PySem.Spec PySem PyProof.Rows
def topS (i : Nat) : Stmt := PySem.Challenge.pw_hueward_k44_plans_are_the_least.main.body.getD i (.Pass ⟨0, 0, 0, 0⟩)
abbrev sIsFrom : Stmt := topS 6
abbrev sIsWithin : Stmt := topS 7
abbrev sIsVotes : Stmt := topS 10
abbrev sPlan : Stmt := topS 13
abbrev sEven : Stmt := topS 14
abbrev sBegun : Stmt := topS 16
abbrev sMixed : Stmt := topS 17
abbrev sDraw : Stmt := topS 18
abbrev sPick : Stmt := topS 19
abbrev sCaught : Stmt := topS 20
abbrev sLeast : Stmt := topS 21
abbrev sLaw : Stmt := topS 22
end Hue
namespace Hue
open L2 PySem.Spec PySem PyProof.Rows
/-! ### the state of the draws -/
abbrev ks (x : Str) : Key := Sum.inr x
theorem ks_ne {x y : Str} (h : ¬ x = y) : ¬ ks x = ks y := fun e => h (Sum.inr.inj e)
def stK (g c : Addr) (r t : Int) : List (Key × V) := [(ks "great", .ref g), (ks "cells", .ref c), (ks "rest", .int r), (ks "turn", .int t)]
theorem n_gc : ¬ ("great" : Str) = "cells" := by decide +kernel
theorem n_gr : ¬ ("great" : Str) = "rest" := by decide +kernel
theorem n_gt : ¬ ("great" : Str) = "turn" := by decide +kernel
theorem n_cr : ¬ ("cells" : Str) = "rest" := by decide +kernel
theorem n_ct : ¬ ("cells" : Str) = "turn" := by decide +kernel
theorem n_rt : ¬ ("rest" : Str) = "turn" := by decide +kernel
theorem n_tr : ¬ ("turn" : Str) = "rest" := by decide +kernel
theorem st_great (g c : Addr) (r t : Int) : valV (stK g c r t) (ks "great") = some (.ref g) := valV_pos rfl
theorem st_cells (g c : Addr) (r t : Int) : valV (stK g c r t) (ks "cells") = some (.ref c) := (valV_neg (ks_ne n_gc)).trans (valV_pos rfl)
theorem st_rest (g c : Addr) (r t : Int) : valV (stK g c r t) (ks "rest") = some (.int r) := (valV_neg (ks_ne n_gr)).trans ((valV_neg (ks_ne n_cr)).trans (valV_pos rfl))
theorem st_turn (g c : Addr) (r t : Int) : valV (stK g c r t) (ks "turn") = some (.int t) := (valV_neg (ks_ne n_gt)).trans ((valV_neg (ks_ne n_ct)).trans ((valV_neg (ks_ne n_rt)).trans (valV_pos rfl)))
theorem st_put_rest (g c : Addr) (r t q : Int) : putK (stK g c r t) (ks "rest") (.int q) = stK g c q t := by
  simp [putK, stK, ks, n_gr, n_cr, n_tr]
theorem st_put_turn (g c : Addr) (r t q : Int) : putK (stK g c r t) (ks "turn") (.int q) = stK g c r q := by
  simp [putK, stK, ks, n_gt, n_ct, n_rt]
theorem st_len (g c : Addr) (r t : Int) : (stK g c r t).length < sizeLine := by
  show 4 < sizeLine
  decide
theorem dg_great {H : Hp} {st g c : Addr} {r t : Int} (h : H st = some (.dK (stK g c r t))) : DGet H st (.str "great") (some (.ref g)) := by
  have q := DGet.k (k := ks "great") h
  rw [st_great] at q
  exact q
theorem dg_cells {H : Hp} {st g c : Addr} {r t : Int} (h : H st = some (.dK (stK g c r t))) : DGet H st (.str "cells") (some (.ref c)) := by
  have q := DGet.k (k := ks "cells") h
  rw [st_cells] at q
  exact q
theorem dg_rest {H : Hp} {st g c : Addr} {r t : Int} (h : H st = some (.dK (stK g c r t))) : DGet H st (.str "rest") (some (.int r)) := by
  have q := DGet.k (k := ks "rest") h
  rw [st_rest] at q
  exact q
theorem dg_turn {H : Hp} {st g c : Addr} {r t : Int} (h : H st = some (.dK (stK g c r t))) : DGet H st (.str "turn") (some (.int t)) := by
  have q := DGet.k (k := ks "turn") h
  rw [st_turn] at q
  exact q
theorem dp_turn {H : Hp} {st g c : Addr} {r t q : Int} (h : H st = some (.dK (stK g c r t))) : DPut H st (.str "turn") (.int q) (upd H st (.dK (stK g c r q))) := by
  have z := DPut.k (k := ks "turn") (v := .int q) h (st_len g c r t)
  rw [st_put_turn] at z
  exact z
theorem dp_rest {H : Hp} {st g c : Addr} {r t q : Int} (h : H st = some (.dK (stK g c r t))) : DPut H st (.str "rest") (.int q) (upd H st (.dK (stK g c q t))) := by
  have z := DPut.k (k := ks "rest") (v := .int q) h (st_len g c r t)
  rw [st_put_rest] at z
  exact z
/-- the state of the draws stands at st, its lists at g and c, its turn is t -/
def StAt (H : Hp) (st g c : Addr) (t : Nat) : Prop := g ≠ c ∧ ∃ (gs cs : List Int) (r : Int), H st = some (.dK (stK g c r (t : Int))) ∧ H g = some (.lst (gs.map V.int)) ∧ H c = some (.lst (cs.map V.int))
/-- all but the state's dict and its list of great ones is as it was -/
def Kp (st g : Addr) (H H' : Hp) : Prop := ∀ b o, b ≠ st → b ≠ g → H b = some o → H' b = some o
theorem Kp.refl (st g : Addr) (H : Hp) : Kp st g H H := fun _ _ _ _ h => h
theorem Kp.trans {st g : Addr} {H H1 H2 : Hp} (a : Kp st g H H1) (b : Kp st g H1 H2) : Kp st g H H2 := fun x o n1 n2 h => b x o n1 n2 (a x o n1 n2 h)
theorem Kp.of {st g : Addr} {H H' : Hp} (a : Same H H') : Kp st g H H' := fun x o _ _ h => a x o h
theorem Kp.seq {K : PySem.W.Frag} {st g : Addr} {H H' : Hp} {a : Addr} {xs : List V} (e : Kp st g H H') (n1 : a ≠ st) (n2 : a ≠ g) (h : SqL K H a xs) : SqL K H' a xs := by
  rcases h with (h | ⟨o, h⟩) | h
  · exact .inl (.inl (e _ _ n1 n2 h))
  · exact .inl (.inr ⟨o, e _ _ n1 n2 h⟩)
  · exact .inr h
/-! ### the promises -/
def spMixed : Sp := fun vs H Q _ => ∃ (st g c : Addr) (cs : List Int) (r : Int) (t : Nat), vs = [.ref st] ∧ H st = some (.dK (stK g c r (t : Int))) ∧ H c = some (.lst (cs.map V.int)) ∧ t < 2 ^ 40 ∧
  ∀ (v : Int) (H' : Hp), H' st = some (.dK (stK g c r ((t : Int) + 1))) → (∀ b o, b ≠ st → H b = some o → H' b = some o) → Q (.int v) H'
def spDraw : Sp := fun vs H Q _ => ∃ (st g c : Addr) (t : Nat) (room : Int), vs = [.ref st, .int room] ∧ StAt H st g c t ∧ t < 2 ^ 40 ∧ 0 < room ∧ room < 2 ^ 30 ∧
  ∀ (v : Int) (t' : Nat) (H' : Hp), 0 ≤ v → v < room → t' ≤ t + 1 → StAt H' st g c t' → Kp st g H H' → Q (.int v) H'
/-- some[draw]: of a list of at most a thousand things -/
def spPick (K : PySem.W.Frag) : Sp := fun vs H Q _ => ∃ (st g c a : Addr) (t : Nat) (xs : List V), vs = [.ref st, .ref a] ∧ StAt H st g c t ∧ t < 2 ^ 40 ∧ SqL K H a xs ∧ a ≠ st ∧ a ≠ g ∧ 0 < xs.length ∧ xs.length < 2 ^ 20 ∧
  ∀ (i : Nat) (v : V) (t' : Nat) (H' : Hp), xs[i]? = some v → t' ≤ t + 1 → StAt H' st g c t' → Kp st g H H' → Q v H'
/-! ### data: lists of ints -/
theorem lay_ints : ∀ ns : List Int, PyData.canLayAll0 (ns.map PyData.int) = true ∧ PyData.depthAll (ns.map PyData.int) = 0
  | [] => ⟨rfl, rfl⟩
  | n :: r => by
    obtain ⟨h1, h2⟩ := lay_ints r
    refine ⟨?_, ?_⟩
    · show (PyData.canLay0 (.int n) && PyData.canLayAll0 (r.map PyData.int)) = true
      rw [h1]
      all_goals rfl
    · show max (PyData.depth (.int n)) (PyData.depthAll (r.map PyData.int)) = 0
      rw [h2]
      all_goals rfl
theorem shaped_ints (ns : List Int) : SeqAt.shaped (.list (ns.map PyData.int)) = true := by
  obtain ⟨h1, h2⟩ := lay_ints ns
  unfold SeqAt.shaped
  show (PyData.canLayAll0 (ns.map PyData.int) && decide (PyData.depthAll (ns.map PyData.int) + 1 ≤ 64)) = true
  rw [h1, h2]
  all_goals rfl
theorem dp_ints {K : PySem.W.Frag} {H : Hp} : ∀ ns : List Int, DpAll K H (ns.map V.int) (ns.map PyData.int)
  | [] => .nil
  | n :: r => .cons (.int n) (dp_ints r)
section
variable {P : Program} {w : World} {K : PySem.W.Frag} {mg : Str → Option Value} {base : Heap}
theorem scMixed : FnScope ["state", "turn", "found", "prime", "blend", "cell"] ["state"] (defScope sMixed) := ⟨rfl, rfl, rfl, by decide +kernel, rfl, by decide +kernel, by decide +kernel⟩
theorem fmod_lt {a p : Int} (h : 0 < p) : 0 ≤ a.fmod p ∧ a.fmod p < p := by
  rw [Int.fmod_eq_emod_of_nonneg _ (Int.le_of_lt h)]
  exact ⟨Int.emod_nonneg _ (by omega), Int.emod_lt_of_pos _ h⟩
theorem ok_mixed {f : Addr} {fd : FuncData} (F : Fun K "_law_mixed" "_law_mixed" sMixed f fd) (mint : mg "int" = none) : FnOk P w K mg base CX0 1 f fd ["state"] spMixed := by
  refine F.ok scMixed (fun vs H Q E h => ?_) (fun cdv A outer s H vs Q E hr h => ?_)
  · obtain ⟨st, g, c, cs, r, t, rfl, _⟩ := h
    rfl
  · obtain ⟨st, g, c, cs, r, t, rfl, hst, hc, ht, q⟩ := h
    have hu := hu_of hr
    have nd := scMixed.nd
    refine ⟨_, pss_cons (ps_par (i := 1) (j := 2) (by rfl) nd rfl rfl (by decide) rfl rfl (pa_cons (pe_op op_add (pe_dget hu (pv 0) pe_str (fun _ _ => rfl)) pe_int) (pa_cons pe_int pa_nil)) (by rfl))
      (pss_cons (ps_dput hu (pv 0) pe_str (pv 1) rfl)
      (pss_cons (ps_for PassesOwn.never rfl (pi_list (pe_lst (pa_cons pe_int (pa_cons pe_int (pa_cons pe_int (pa_cons pe_int pa_nil)))))) (pg_name (i := 3) nd rfl (.inl rfl))
        (pss_cons (ps_set (i := 4) nd rfl (.inl rfl) (pe_op op_add (pe_op op_mul pe_int (pv 1)) (pe_op op_fdivN (pv 3) pe_int)))
        (pss_cons (ps_for PassesOwn.never rfl (pi_list (pe_dget hu (pv 0) pe_str (fun _ _ => rfl))) (pg_name (i := 5) nd rfl (.inl rfl))
          (pss_one (ps_set (i := 4) nd rfl (.inl rfl) (pe_op op_modN (pe_callTy call_int1 (by rfl) mint (by decide +kernel) (pa_cons (pe_op op_add (pe_op op_add (pe_op op_mul (pv 4) pe_int) (pv 5)) (pv 1)) pa_nil)) (pv 3)))))
        (pss_one (ps_set (i := 2) nd rfl (.inl rfl) (pe_op op_add (pe_op op_mul (pv 2) pe_int) (pe_op op_modN (pe_callTy call_int1 (by rfl) mint (by decide +kernel) (pa_cons (pe_op op_pow (pv 4) pe_int) pa_nil)) (pv 3))))))))
      (pss_one (ps_ret (pv 2))))), ?_⟩
    -- turn, found = state['turn'] + 1, 0; state['turn'] = turn
    refine ⟨_, rfl, st, .int (t : Int), rfl, dg_turn hst, _, _, rfl, rfl, _, _, rfl, ?_⟩
    refine ⟨_, rfl, _, rfl, st, _, rfl, dp_turn hst, ?_⟩
    -- for prime in [..]
    refine ⟨by show 4 ≤ sizeLine; decide, fun p hp => ?_⟩
    have hne : ∀ b o, upd H st (.dK (stK g c r ((t : Int) + 1))) b = some o → upd (upd H st (.dK (stK g c r ((t : Int) + 1)))) p (.lst [.int 2147483629, .int 2147483647, .int 2147483563, .int 2147483587]) b = some o := fun b o e => by
      rw [upd_ne (ne_of_none e hp)]
      exact e
    have npc : c ≠ st := fun e => by
      rw [e, hst] at hc
      cases hc
    have hst2 := hne st _ upd_same
    have hc2 := hne c _ (by rw [upd_ne npc]; exact hc)
    refine ⟨p, rfl, ⟨_, .inl (.inl upd_same)⟩, ?_⟩
    generalize hH2 : upd (upd H st (.dK (stK g c r ((t : Int) + 1)))) p (.lst [.int 2147483629, .int 2147483647, .int 2147483563, .int 2147483587]) = H2 at *
    refine for_list (xs := [.int 2147483629, .int 2147483647, .int 2147483563, .int 2147483587]) (fun i σ H' => ∃ (fo : Int) (x3 x4 x5 : Option V), σ = [some (.ref st), some (.int ((t : Int) + 1)), some (.int fo), x3, x4, x5] ∧ H2 = H') ⟨0, none, none, none, rfl, rfl⟩ (fun i σ H' _ h => ?_) (fun i x σ H' hx h => ?_) (fun σ H' h => ?_)
    · obtain ⟨fo, x3, x4, x5, rfl, rfl⟩ := h
      exact .inl (.inl (by rw [← hH2]; exact upd_same))
    · obtain ⟨fo, x3, x4, x5, rfl, rfl⟩ := h
      obtain ⟨pr, rfl, h0, h1⟩ : ∃ pr : Int, x = .int pr ∧ 0 < pr ∧ pr < 2 ^ 31 := by
        have hm := List.mem_of_getElem? hx
        simp only [List.mem_cons, List.not_mem_nil, or_false] at hm
        rcases hm with rfl | rfl | rfl | rfl
        · exact ⟨_, rfl, by decide, by decide⟩
        · exact ⟨_, rfl, by decide, by decide⟩
        · exact ⟨_, rfl, by decide, by decide⟩
        · exact ⟨_, rfl, by decide, by decide⟩
      -- blend = 69621 * turn + prime // 41
      refine ⟨_, rfl, _, _, rfl, rfl, .inl ⟨by decide, by decide⟩, _, rfl, _, _, rfl, rfl, ⟨by decide, by decide⟩, _, _, rfl, rfl, ?_⟩
      -- for cell in state['cells']
      refine ⟨_, rfl, st, _, rfl, dg_cells hst2, c, rfl, ⟨_, .inl (.inl hc2)⟩, ?_⟩
      have hb0 : (69621 * ((t : Int) + 1) + pr.fdiv 41).natAbs < 2 ^ 64 := by
        rw [Int.fdiv_eq_ediv_of_nonneg _ (by decide)]
        have z : pr / 41 ≤ pr := Int.ediv_le_self _ (by omega)
        have z0 : 0 ≤ pr / 41 := Int.ediv_nonneg (by omega) (by decide)
        omega
      refine for_list (xs := cs.map V.int) (fun i σ H' => ∃ (b : Int) (x5 : Option V), σ = [some (.ref st), some (.int ((t : Int) + 1)), some (.int fo), some (.int pr), some (.int b), x5] ∧ H2 = H' ∧ b.natAbs < 2 ^ 64) ⟨_, _, rfl, rfl, hb0⟩ (fun i σ H' _ h => ?_) (fun i x σ H' hx h => ?_) (fun σ H' h => ?_)
      · obtain ⟨b, x5, rfl, rfl, hb⟩ := h
        exact .inl (.inl hc2)
      · obtain ⟨b, x5, rfl, rfl, hb⟩ := h
        obtain ⟨z, rfl⟩ : ∃ z : Int, x = .int z := by
          rw [List.getElem?_map] at hx
          obtain ⟨z, _, e⟩ := Option.map_eq_some_iff.mp hx
          exact ⟨z, e.symm⟩
        have hbp := fmod_lt (a := b * 48271 + z + ((t : Int) + 1)) h0
        refine ⟨_, rfl, _, _, rfl, rfl, .inr ⟨by decide, by decide⟩, _, rfl, _, _, rfl, rfl, _, rfl, _, _, rfl, rfl, .inl ⟨_, rfl, _, rfl, _, _, rfl, rfl, by omega, ?_⟩⟩
        exact ⟨_, _, rfl, rfl, by omega⟩
      · obtain ⟨b, x5, rfl, rfl, hb⟩ := h
        refine ⟨_, rfl, _, _, rfl, rfl, .inr ⟨by decide, by decide⟩, _, rfl, _, _, rfl, rfl, ⟨by decide, by decide, hb⟩, .inl ⟨_, rfl, _, rfl, _, _, rfl, rfl, by omega, _, _, rfl, rfl, ?_⟩⟩
        exact ⟨_, _, _, _, rfl, rfl⟩
    · obtain ⟨fo, x3, x4, x5, rfl, rfl⟩ := h
      refine ⟨_, rfl, ?_⟩
      exact q fo _ hst2 fun b o nb e => by
        show H2 b = some o
        exact hne b o (by rw [upd_ne nb]; exact e)
theorem scDraw : FnScope ["state", "room", "found"] ["state", "room"] (defScope sDraw) := ⟨rfl, rfl, rfl, by decide +kernel, rfl, by decide +kernel, by decide +kernel⟩
theorem ok_draw {f fM : Addr} {fd fdM : FuncData} (F : Fun K "_law_draw" "_law_draw" sDraw f fd) (GM : FnOk P w K mg base CX0 1 fM fdM ["state"] spMixed) (gM : mg "_law_mixed" = some (.ref fM)) (kM : PySem.W.keepIn K (.ref fM) = true) (bM : Binds K fdM ["state"] []) (mint : mg "int" = none) : FnOk P w K mg base CX0 2 f fd ["state", "room"] spDraw := by
  refine F.ok scDraw (fun vs H Q E h => ?_) (fun cdv A outer s H vs Q E hr h => ?_)
  · obtain ⟨st, g, c, t, room, rfl, _⟩ := h
    rfl
  · obtain ⟨st, g, c, t, room, rfl, S, ht, hr0, hr1, q⟩ := h
    have hu := hu_of hr
    have nd := scDraw.nd
    refine ⟨_, pss_cons (ps_if (pt_cmpR op_eq (pe_dget hu (pv 0) pe_str (fun _ _ => rfl)) pe_int (nomark _))
        (pss_one (ps_dput hu (pv 0) pe_str (pe_ifExp (pt_cmpR (op_neD hr.units) (pe_dget hu (pv 0) pe_str (fun _ _ => rfl)) (pe_lst pa_nil) (nomark _))
          (pe_bm PySem.F.plainAttrs_list PySem.F.slot_list_pop PySem.F.type_list_pop mt_popAt (pe_dget hu (pv 0) pe_str (fun _ _ => rfl)) (pa_cons pe_int pa_nil))
          (pe_call GM hr rfl gM kM bM .nil pass0 (pa_cons (pv 0) pa_nil))) rfl)) pss_nil)
      (pss_cons (ps_set (i := 2) nd rfl (.inl rfl) (pe_op op_modN (pe_callTy call_int1 (by rfl) mint (by decide +kernel) (pa_cons (pe_dget hu (pv 0) pe_str (fun _ _ => rfl)) pa_nil)) (pv 1)))
      (pss_cons (ps_dput hu (pv 0) pe_str (pe_op op_fdivN (pe_dget hu (pv 0) pe_str (fun _ _ => rfl)) (pv 1)) rfl)
      (pss_one (ps_ret (pv 2))))), ?_⟩
    obtain ⟨ngc, gs, cs, r, hst, hg, hc⟩ := S
    refine ⟨_, rfl, st, _, rfl, dg_rest hst, rfl, _, rfl, ?_⟩
    -- what stands behind the test
    have fin : ∀ (H1 : Hp) (gs1 : List Int) (r1 : Int) (t1 : Nat), H1 st = some (.dK (stK g c r1 (t1 : Int))) → H1 g = some (.lst (gs1.map V.int)) → H1 c = some (.lst (cs.map V.int)) → t1 ≤ t + 1 → Kp st g H H1 →
        tSeq (tAsg (tOp (rI (fun x j => j ≠ 0) fun i j => V.int (i.fmod j)) (tCB (fun xs H Q => (∃ i, xs = [V.int i] ∧ Q (V.int i) H) ∨ ∃ k, xs = [V.bl k] ∧ Q (V.int (if k = true then 1 else 0)) H) (tCons (tDGet (tVar 0) (tC (V.str (Str.ofString "rest")))) tNil)) (tVar 1)) (gName 2))
          (tSeq (sDPut (tVar 0) (tC (V.str (Str.ofString "rest"))) (tOp (rI CDivN fun i j => V.int (i.fdiv j)) (tDGet (tVar 0) (tC (V.str (Str.ofString "rest")))) (tVar 1))) (tRet (tVar 2))) { nx := fun _ H' => Q .non H', rt := Q } (L2.start ["state", "room", "found"] [.ref st, .int room]) H1 := by
      intro H1 gs1 r1 t1 h1 h2 h3 h4 h5
      have nsg : g ≠ st := fun e => by
        rw [e, h1] at h2
        cases h2
      have nsc : c ≠ st := fun e => by
        rw [e, h1] at h3
        cases h3
      refine ⟨_, rfl, st, _, rfl, dg_rest h1, .inl ⟨_, rfl, _, rfl, _, _, rfl, rfl, by omega, ?_⟩⟩
      refine ⟨_, rfl, st, _, rfl, dg_rest h1, _, rfl, _, _, rfl, rfl, ⟨by omega, by omega⟩, _, rfl, st, _, rfl, dp_rest h1, ?_⟩
      have hb := fmod_lt (a := r1) hr0
      refine ⟨_, rfl, q _ t1 _ hb.1 hb.2 h4 ⟨ngc, gs1, cs, _, upd_same, by rw [upd_ne nsg]; exact h2, by rw [upd_ne nsc]; exact h3⟩ fun b o n1 n2 e => ?_⟩
      rw [upd_ne n1]
      exact h5 b o n1 n2 e
    refine ite2 (fun e => ?_) (fun e => ?_)
    · -- state['great'] != []
      refine ⟨_, rfl, st, _, rfl, dg_great hst, Nat.zero_le _, fun p hp => ?_⟩
      have nsg : g ≠ st := fun e => by
        rw [e, hst] at hg
        cases hg
      have nsc : c ≠ st := fun e => by
        rw [e, hst] at hc
        cases hc
      have sm : Same H (upd H p (.lst [])) := fun b o e => by
        rw [upd_ne (ne_of_none e hp)]
        exact e
      refine ⟨_, _, .lst (.inl (.inl (sm _ _ hg))) (dp_ints gs), .lst (.inl (.inl upd_same)) .nil, shaped_ints gs, by decide, _, rfl, ?_⟩
      cases gs with
      | nil =>
        refine iteF ?_
        refine ⟨_, rfl, st, g, c, cs, r, t, rfl, sm _ _ hst, sm _ _ hc, ht, fun v H1 h1 h2 => ?_⟩
        refine ⟨_, rfl, st, _, rfl, dp_rest h1, ?_⟩
        exact fin _ [] v (t + 1) upd_same (by rw [upd_ne nsg]; exact h2 _ _ nsg (sm _ _ hg)) (by rw [upd_ne nsc]; exact h2 _ _ nsc (sm _ _ hc)) (Nat.le_refl _) fun b o n1 n2 e => by
          rw [upd_ne n1]
          exact h2 _ _ n1 (sm _ _ e)
      | cons n gs =>
        refine iteT ?_
        refine ⟨_, rfl, st, _, rfl, dg_great (sm _ _ hst), .inl ⟨rfl, _, .inl (.inl (sm _ _ hg))⟩, g, _, 0, 0, .int n, rfl, rfl, sm _ _ hg, by decide, by decide, by simp [seqIndex?], rfl, ?_⟩
        have nge : st ≠ g := fun e => nsg e.symm
        refine ⟨_, rfl, st, _, rfl, dp_rest (by rw [upd_ne nge]; exact sm _ _ hst), ?_⟩
        exact fin _ gs n t upd_same (by rw [upd_ne nsg, upd_same]; rfl) (by rw [upd_ne nsc, upd_ne ngc.symm]; exact sm _ _ hc) (Nat.le_succ _) fun b o n1 n2 e => by
          rw [upd_ne n1, upd_ne n2]
          exact sm _ _ e
    · exact fin H gs r t hst hg hc (Nat.le_succ _) (Kp.refl _ _ _)
theorem scPick : FnScope ["state", "some"] ["state", "some"] (defScope sPick) := ⟨rfl, rfl, rfl, by decide +kernel, rfl, by decide +kernel, by decide +kernel⟩
theorem ok_pick {f fD : Addr} {fd fdD : FuncData} (F : Fun K "_law_pick" "_law_pick" sPick f fd) (GD : FnOk P w K mg base CX0 2 fD fdD ["state", "room"] spDraw) (gD : mg "_law_draw" = some (.ref fD)) (kD : PySem.W.keepIn K (.ref fD) = true) (bD : Binds K fdD ["state", "room"] []) (ml : mg "len" = none) : FnOk P w K mg base CX0 3 f fd ["state", "some"] (spPick K) := by
  refine F.ok scPick (fun vs H Q E h => ?_) (fun cdv A outer s H vs Q E hr h => ?_)
  · obtain ⟨st, g, c, a, t, xs, rfl, _⟩ := h
    rfl
  · obtain ⟨st, g, c, a, t, xs, rfl, S, ht, hS, n1, n2, hl0, hl1, q⟩ := h
    refine ⟨_, pss_one (ps_ret (pe_ix ix_list (pv 1) (pe_call GD hr rfl gD kD bD .nil pass0 (pa_cons (pv 0) (pa_cons (pe_callB call_len_seq (by rfl) ml PySem.boot_len (pa_cons (pv 1) pa_nil)) pa_nil))) (fun _ _ => rfl))), ?_⟩
    refine ⟨_, rfl, _, rfl, _, rfl, a, xs, rfl, .inl hS, st, g, c, t, _, rfl, S, ht, by omega, by omega, fun v t' H' h0 h1 h2 S' kp => ?_⟩
    have hi : v.toNat < xs.length := by omega
    refine ⟨a, xs, v, xs[v.toNat], rfl, rfl, kp.seq n1 n2 hS, at_of (j := v.toNat) (by omega) (List.getElem?_eq_getElem hi), ?_⟩
    exact q v.toNat _ t' H' (List.getElem?_eq_getElem hi) h2 S' kp
/-! ### the beginning: great ones and cells -/
def absI (i : Int) : Int := if i < 0 then -i else i
def spBegun (K : PySem.W.Frag) : Sp := fun vs H Q _ => ∃ (a : Addr) (ns : List Int), vs = [.ref a] ∧ SqL K H a (ns.map V.int) ∧ ns.length ≤ 63 ∧
  ∀ (st g c : Addr) (H' : Hp), Same H H' → StAt H' st g c 0 → H st = none → H g = none → Q (.ref st) H'
theorem scBegun : FnScope ["script", "great", "cell"] ["script"] (defScope sBegun) := ⟨rfl, rfl, rfl, by decide +kernel, rfl, by decide +kernel, by decide +kernel⟩
theorem ok_begun {f : Addr} {fd : FuncData} (F : Fun K "_law_begun" "_law_begun" sBegun f fd) (mabs : mg "abs" = none) : FnOk P w K mg base CX0 1 f fd ["script"] (spBegun K) := by
  refine F.ok scBegun (fun vs H Q E h => ?_) (fun cdv A outer s H vs Q E hr h => ?_)
  · obtain ⟨a, ns, rfl, _⟩ := h
    rfl
  · obtain ⟨a, ns, rfl, hS, hl, q⟩ := h
    have hu := hu_of hr
    have nd := scBegun.nd
    refine ⟨_, pss_cons (ps_setLc (i := 1) (own := [("cell", 2)]) (g := gName 2) (by rfl) nd rfl rfl (sw_true rfl rfl rfl (by decide +kernel)) (pi_list (pv 0)) (blkOk_by (own := [("cell", 2)]) (N := ["script", "great", "cell"]) (sc := defScope sBegun) (by decide +kernel)) (fun _ _ _ _ _ => pg_name (i := 2) nd rfl (Or.inl rfl))
          (fun _ _ _ _ _ => pts_one (pt_cmpR op_ge (pe_callB call_abs (by rfl) mabs (by decide +kernel) (pa_cons (pv 2) pa_nil)) (pe_op op_pow pe_int pe_int) (nomark _)))
          (fun _ _ _ _ _ => pe_op op_sub (pe_callB call_abs (by rfl) mabs (by decide +kernel) (pa_cons (pv 2) pa_nil)) (pe_op op_pow pe_int pe_int)))
      (pss_one (ps_ret (pe_disp (pps_cons pe_str (pv 1) (pps_cons pe_str
          (pe_lc (own := [("cell", 2)]) (g := gName 2) (by rfl) nd (pi_list (pv 0)) (blkOk_by (own := [("cell", 2)]) (N := ["script", "great", "cell"]) (sc := defScope sBegun) (by decide +kernel)) (fun _ _ _ _ _ => pg_name (i := 2) nd rfl (Or.inl rfl)) (fun _ _ _ _ _ => pts_nil)
            (fun _ _ _ _ _ => pe_callB call_abs (by rfl) mabs (by decide +kernel) (pa_cons (pv 2) pa_nil)))
          (pps_cons pe_str pe_int (pps_cons pe_str pe_int pps_nil)))) (by rfl) (by rfl) (fun z => by cases z) (by decide)))), ?_⟩
    refine ⟨_, rfl, a, rfl, ⟨_, hS⟩, fun D hD => ?_⟩
    refine lc_list (K := K) (a := a) (xs := ns.map V.int) (fun i H' => ∃ acc : List Int, H' D = some (.lst (acc.map V.int)) ∧ acc.length ≤ i ∧ Same H H') ⟨[], upd_same, Nat.le_refl _, fun b o e => by rw [upd_ne (ne_of_none e hD)]; exact e⟩ (fun i H' _ h => ?_) (fun i x H' hx h => ?_) (fun H' h => ?_)
    · obtain ⟨acc, _, _, sm⟩ := h
      exact sm.seq hS
    · obtain ⟨acc, h1, h2, sm⟩ := h
      obtain ⟨z, rfl⟩ : ∃ z : Int, x = .int z := by
        rw [List.getElem?_map] at hx
        obtain ⟨z, _, e⟩ := Option.map_eq_some_iff.mp hx
        exact ⟨z, e.symm⟩
      have hi : i < ns.length := by
        have := (List.getElem?_eq_some_iff.mp hx).1
        rw [List.length_map] at this
        exact this
      refine ⟨by rfl, _, rfl, _, rfl, _, _, rfl, rfl, ⟨by decide, by decide, by decide⟩, _, _, rfl, rfl, _, rfl, ?_⟩
      refine ite2 (fun e => ?_) (fun e => ?_)
      · refine ⟨_, rfl, _, rfl, _, _, rfl, rfl, ⟨by decide, by decide, by decide⟩, _, _, rfl, rfl, _, h1, ?_, acc ++ [(if z < 0 then -z else z) - 10 ^ Int.toNat 18], ?_, ?_, fun b o eb => ?_⟩
        · rw [List.length_map]
          exact small1000 (by omega)
        · rw [upd_same, List.map_append]
          rfl
        · rw [List.length_append]
          show acc.length + 1 ≤ i + 1
          omega
        · rw [upd_ne (ne_of_none eb hD)]
          exact sm _ _ eb
      · exact ⟨acc, h1, by omega, sm⟩
    · obtain ⟨gs, hg, _, sm⟩ := h
      -- the dict
      refine fun p hp => ?_
      have sm2 : Same H (upd H' p (.dK [])) := fun b o e => by
        rw [upd_ne (ne_of_none (sm _ _ e) hp)]
        exact sm _ _ e
      refine ⟨_, rfl, _, rfl, a, rfl, ⟨_, sm2.seq hS⟩, fun D2 hD2 => ?_⟩
      have nDp : D2 ≠ p := fun e => by
        rw [e, upd_same] at hD2
        cases hD2
      have hgp : (upd H' p (.dK [])) D = some (.lst (gs.map V.int)) := by
        rw [upd_ne (ne_of_none hg hp)]
        exact hg
      have nDD : D ≠ D2 := ne_of_none hgp hD2
      have npD : p ≠ D := fun e => by
        rw [e] at hp
        rw [hp] at hg
        cases hg
      refine lc_list (K := K) (a := a) (xs := ns.map V.int) (fun i H4 => ∃ acc : List Int, H4 D2 = some (.lst (acc.map V.int)) ∧ acc.length ≤ i ∧ ∀ b o, b ≠ D2 → upd H' p (.dK []) b = some o → H4 b = some o) ⟨[], upd_same, Nat.le_refl _, fun b o n e => by rw [upd_ne n]; exact e⟩ (fun i H4 _ h => ?_) (fun i x H4 hx h => ?_) (fun H4 h => ?_)
      · obtain ⟨acc, _, _, k4⟩ := h
        exact (show Same H H4 from fun b o e => k4 b o (ne_of_none (sm2 _ _ e) hD2) (sm2 _ _ e)).seq hS
      · obtain ⟨acc, h1, h2, k4⟩ := h
        obtain ⟨z, rfl⟩ : ∃ z : Int, x = .int z := by
          rw [List.getElem?_map] at hx
          obtain ⟨z, _, e⟩ := Option.map_eq_some_iff.mp hx
          exact ⟨z, e.symm⟩
        have hi : i < ns.length := by
          have := (List.getElem?_eq_some_iff.mp hx).1
          rw [List.length_map] at this
          exact this
        refine ⟨by rfl, _, rfl, _, rfl, _, h1, ?_, acc ++ [if z < 0 then -z else z], ?_, ?_, fun b o n eb => ?_⟩
        · rw [List.length_map]
          exact small1000 (by omega)
        · rw [upd_same, List.map_append]
          rfl
        · rw [List.length_append]
          show acc.length + 1 ≤ i + 1
          omega
        · rw [upd_ne n]
          exact k4 _ _ n eb
      · obtain ⟨cs, hc, _, k4⟩ := h
        refine ⟨k4 _ _ nDp.symm upd_same, stK D D2 0 0, rfl, by show 4 ≤ 15; decide, ?_⟩
        have em : mergeK [] (stK D D2 0 0) = stK D D2 0 0 := by
          simp [mergeK, putK, stK, ks, n_gc, n_gr, n_gt, n_cr, n_ct, n_rt]
        rw [em]
        have npn : H p = none := sm.free hp
        refine q p D D2 _ (fun b o e => ?_) ⟨nDD, gs, cs, 0, upd_same, ?_, ?_⟩ npn hD
        · rw [upd_ne (ne_of_none e npn)]
          exact k4 _ _ (ne_of_none (sm2 _ _ e) hD2) (sm2 _ _ e)
        · rw [upd_ne npD.symm]
          exact k4 _ _ nDD hgp
        · rw [upd_ne nDp]
          exact hc
end
end Hue
namespace Hue
open L2 PySem.Spec PySem PyProof.Rows
/-- the built-in names that stand as they are -/
structure Bt (mg : Str → Option Value) : Prop where
  len : mg "len" = none
  range : mg "range" = none
  tuple : mg "tuple" = none
  list : mg "list" = none
  int : mg "int" = none
  bool : mg "bool" = none
  str : mg "str" = none
  dict : mg "dict" = none
  abs : mg "abs" = none
  enumerate : mg "enumerate" = none
  isinstance : mg "isinstance" = none
  max : mg "max" = none
  min : mg "min" = none
  sum : mg "sum" = none
  sorted : mg "sorted" = none
  zip : mg "zip" = none
  repr : mg "repr" = none
  all : mg "all" = none
  any : mg "any" = none
  set : mg "set" = none
section
variable {P : Program} {w : World} {K : PySem.W.Frag} {mg : Str → Option Value} {base : Heap}
/-- a def of the text that keeps a promise -/
def Df (P : Program) (w : World) (K : PySem.W.Frag) (mg : Str → Option Value) (base : Heap) (k : Nat) (x : Str) (ps : List Str) (sp : Sp) : Prop :=
  ∃ (f : Addr) (fd : FuncData), FnOk P w K mg base CX0 k f fd ps sp ∧ mg x = some (.ref f) ∧ PySem.W.keepIn K (.ref f) = true ∧ L2.Binds K fd ps []
/-- a def of the text, as the top leaves it -/
def Tx (K : PySem.W.Frag) (mg : Str → Option Value) (x : Str) (st : Stmt) (ps : List Str) : Prop :=
  ∃ (f : Addr) (fd : FuncData), Fun K x x st f fd ∧ mg x = some (.ref f) ∧ L2.Binds K fd ps []
theorem Df.mono {j k : Nat} {x : Str} {ps : List Str} {sp : Sp} (D : Df P w K mg base j x ps sp) (h : j ≤ k) : Df P w K mg base k x ps sp := by
  obtain ⟨f, fd, G, g, kp, b⟩ := D
  exact ⟨f, fd, G.mono h, g, kp, b⟩
theorem Tx.df {k : Nat} {x : Str} {st : Stmt} {ps : List Str} {sp : Sp} (X : Tx K mg x st ps) (h : ∀ f fd, Fun K x x st f fd → FnOk P w K mg base CX0 k f fd ps sp) : Df P w K mg base k x ps sp := by
  obtain ⟨f, fd, F, g, b⟩ := X
  exact ⟨f, fd, h f fd F, g, F.kp, b⟩
theorem df_mixed (X : Tx K mg "_law_mixed" sMixed ["state"]) (T : Bt mg) : Df P w K mg base 1 "_law_mixed" ["state"] spMixed := X.df fun f fd F => ok_mixed F T.int
theorem df_draw (X : Tx K mg "_law_draw" sDraw ["state", "room"]) (M : Df P w K mg base 1 "_law_mixed" ["state"] spMixed) (T : Bt mg) : Df P w K mg base 2 "_law_draw" ["state", "room"] spDraw := by
  obtain ⟨fM, fdM, G, g, kp, b⟩ := M
  exact X.df fun f fd F => ok_draw F G g kp b T.int
theorem df_pick (X : Tx K mg "_law_pick" sPick ["state", "some"]) (M : Df P w K mg base 2 "_law_draw" ["state", "room"] spDraw) (T : Bt mg) : Df P w K mg base 3 "_law_pick" ["state", "some"] (spPick K) := by
  obtain ⟨fM, fdM, G, g, kp, b⟩ := M
  exact X.df fun f fd F => ok_pick F G g kp b T.len
theorem df_begun (X : Tx K mg "_law_begun" sBegun ["script"]) (T : Bt mg) : Df P w K mg base 1 "_law_begun" ["script"] (spBegun K) := X.df fun f fd F => ok_begun F T.abs
end
/-! ### helpers -/
theorem StAt.st {H : Hp} {st g c : Addr} {t : Nat} (S : StAt H st g c t) : ∃ kvs, H st = some (.dK kvs) := by
  obtain ⟨_, gs, cs, r, h, _⟩ := S
  exact ⟨_, h⟩
theorem StAt.g {H : Hp} {st g c : Addr} {t : Nat} (S : StAt H st g c t) : ∃ xs, H g = some (.lst xs) := by
  obtain ⟨_, gs, cs, r, _, h, _⟩ := S
  exact ⟨_, h⟩
theorem StAt.new {H : Hp} {st g c p : Addr} {t : Nat} (S : StAt H st g c t) (h : H p = none) : p ≠ st ∧ p ≠ g := by
  obtain ⟨_, h1⟩ := S.st
  obtain ⟨_, h2⟩ := S.g
  exact ⟨fun e => (by rw [e, h1] at h; cases h), fun e => (by rw [e, h2] at h; cases h)⟩
theorem StAt.newc {H : Hp} {st g c p : Addr} {t : Nat} (S : StAt H st g c t) (h : H p = none) : p ≠ c := by
  obtain ⟨_, gs, cs, r, _, _, h3⟩ := S
  exact fun e => (by rw [e, h3] at h; cases h)
theorem StAt.upd {H : Hp} {st g c p : Addr} {t : Nat} {o : HO} (S : StAt H st g c t) (n1 : p ≠ st) (n2 : p ≠ g) (n3 : p ≠ c) : StAt (upd H p o) st g c t := by
  obtain ⟨n, gs, cs, r, h1, h2, h3⟩ := S
  exact ⟨n, gs, cs, r, by rw [upd_ne n1.symm]; exact h1, by rw [upd_ne n2.symm]; exact h2, by rw [upd_ne n3.symm]; exact h3⟩
theorem StAt.same {H H' : Hp} {st g c : Addr} {t : Nat} (S : StAt H st g c t) (e : Same H H') : StAt H' st g c t := by
  obtain ⟨n, gs, cs, r, h1, h2, h3⟩ := S
  exact ⟨n, gs, cs, r, e _ _ h1, e _ _ h2, e _ _ h3⟩
theorem same_new {H : Hp} {p : Addr} {o : HO} (h : H p = none) : Same H (upd H p o) := fun b u e => by
  rw [upd_ne (ne_of_none e h)]
  exact e
/-- an object that H did not know changes -/
theorem Same.mut {H H' : Hp} {p : Addr} {o : HO} (e : Same H H') (h : H p = none) : Same H (upd H' p o) := fun a u ha => by
  rw [upd_ne (ne_of_none ha h)]
  exact e a u ha
theorem Kp.mut {st g : Addr} {H H' : Hp} {p : Addr} {o : HO} (e : Kp st g H H') (h : H p = none) : Kp st g H (upd H' p o) := fun a u n1 n2 ha => by
  rw [upd_ne (ne_of_none ha h)]
  exact e a u n1 n2 ha
theorem Kp.free {st g c : Addr} {t : Nat} {H H' : Hp} {p : Addr} (e : Kp st g H H') (S : StAt H' st g c t) (h : H' p = none) : H p = none := by
  obtain ⟨n1, n2⟩ := S.new h
  cases q : H p with
  | none => rfl
  | some o =>
    rw [e p o n1 n2 q] at h
    cases h
/-- an object that is neither a list nor a dict is none of the state's -/
theorem StAt.tup {H : Hp} {st g c p : Addr} {t : Nat} {xs : List V} (S : StAt H st g c t) (h : H p = some (.tup xs)) : p ≠ st ∧ p ≠ g := by
  obtain ⟨_, h1⟩ := S.st
  obtain ⟨_, h2⟩ := S.g
  exact ⟨fun e => (by rw [e, h1] at h; cases h), fun e => (by rw [e, h2] at h; cases h)⟩
theorem Kp.tup {st g c : Addr} {t : Nat} {H H' : Hp} {p : Addr} {xs : List V} (e : Kp st g H H') (S : StAt H st g c t) (h : H p = some (.tup xs)) : H' p = some (.tup xs) := by
  obtain ⟨n1, n2⟩ := S.tup h
  exact e _ _ n1 n2 h
end Hue
namespace Hue
open PySem PySem.Spec PyProof.Rows L2 LamX
/-- the lambda of the text that stands at f; c is its code object -/
def LamO (q : Str) (ar : Arguments) (ex : Expr) (sp : Scope) (cl : List (Str × Addr)) (c f : Addr) : HO :=
  .ext fun h => ∃ pm ctv, h.get? f = some (PySem.W.kla_obj "<lambda>" q ar ex sp cl pm c ctv)
/-- an error of the class cls that was caught, at a -/
def CauO (cls : Value) (a : Addr) : HO := .ext fun h => ∃ (oe : Obj) (vs : Array Value), h.get? a = some oe ∧ Zc cls none oe ∧ oe.data = .fields vs
theorem lamO_ok {P : Program} {w : World} {H : Hp} {h : Heap} {q : Str} {ar : Arguments} {ex : Expr} {sp : Scope} {cl : List (Str × Addr)} {c f : Addr} {pm ctv : Value}
    (e : h.get? f = some (PySem.W.kla_obj "<lambda>" q ar ex sp cl pm c ctv)) : ObjOk P w H h f (LamO q ar ex sp cl c f) :=
  ⟨⟨pm, ctv, e⟩, ⟨_, e⟩, fun _ _ ⟨p, t, z⟩ k => ⟨p, t, k _ z⟩⟩
theorem cauO_ok {P : Program} {w : World} {H : Hp} {h : Heap} {cls : Value} {a : Addr} {oe : Obj} {vs : Array Value} (e : h.get? a = some oe) (z : Zc cls none oe) (d : oe.data = .fields vs) : ObjOk P w H h a (CauO cls a) :=
  ⟨⟨oe, vs, e, z, d⟩, ⟨_, e⟩, fun _ _ ⟨o, v, e1, e2, e3⟩ k => ⟨o, v, k _ e1, e2, e3⟩⟩
section
variable {X : Cx} {pins : List (Addr × Obj)} {σ : L2.St} {H : Hp} {s : Shared}
/-- an object that is there and was not tracked, is tracked from now on -/
theorem inv_track {a : Addr} {o : HO} (I : Inv X pins σ H s) (na : H a = none) (n0 : X.s_0.heap.get? a = none) (nL : X.env.locals ≠ a) (nC : ∀ x c, X.env.cells.lookup x = some c → c ≠ a) (nP : ∀ p ∈ X.pn ++ pins, p.1 ≠ a)
    (new : ObjOk X.prog X.w (upd H a o) s.heap a o) : Inv X pins σ (upd H a o) s := by
  have nT : ∀ {b u}, H b = some u → b ≠ a := fun e => ne_of_none e na
  refine ⟨I.ok, I.os, I.bare, ⟨I.base.keep, I.base.slot, fun b u e n hx => ?_, I.base.there, fun b xs e => ?_, fun b u v e => ?_, fun b ps e => ?_⟩, I.loc, I.cell, ?_, fun x c e => ?_, fun p hp => ?_, I.hok.laidN (fun _ _ z => z) na new, I.len⟩
  · have ne : b ≠ a := fun z => by
      rw [z, n0] at e
      cases e
    rw [upd_ne ne]
    exact I.base.free b u e n hx
  · have q := I.base.tups b xs e
    rw [upd_ne (nT q)]
    exact q
  · have q := I.base.frzs b u v e
    rw [upd_ne (nT q)]
    exact q
  · obtain ⟨m, q⟩ := I.base.tbls b ps e
    exact ⟨m, by rw [upd_ne (nT q)]; exact q⟩
  · rw [upd_ne nL]
    exact I.free
  · rw [upd_ne (nC x c e)]
    exact I.freeC x c e
  · obtain ⟨e1, e2, e3⟩ := I.pin p hp
    exact ⟨e1, by rw [upd_ne (nP p hp)]; exact e2, e3⟩
end
end Hue
namespace Hue
open PySem PySem.Spec PyProof.Rows L2 LamX
section
variable {X : Cx}
/-- a lambda, as a value: T, the tables of code objects; the object at f is known from then on -/
def tLamV (X : Cx) (T : List (Addr × Str)) (ar : Arguments) (ex : Expr) (sp : Scope) : TE := fun σ H Q =>
  Tabs T H ∧ ∀ (f c : Addr) (H1 : Hp), ExtN H H1 → Tabs T H1 → H f = none →
    H1 f = some (LamO (X.env.qual ++ "<lambda>") ar ex sp (cloFrom X.env.cells sp.names []) c f) → H1 c = some (CodeO c (X.env.qual ++ "<lambda>")) → Q (.ref f) H1
theorem extN_new {H H1 : Hp} {f : Addr} {o : HO} (e : ExtN H H1) (n : H1 f = none) : ExtN H (upd H1 f o) := fun b u hb nt => by
  have q := e b u hb nt
  rw [upd_ne (ne_of_none q n)]
  exact q
theorem pe_lam {T : List (Addr × Str)} {c P : Addr} {ar : Arguments} {ex : Expr} {sp : Scope} {pos : Pos} (TB : TabB X.base X.mg c P) (hco : X.env.code = .ref c) (hm : (P, X.env.qual ++ "<lambda>") ∈ T) (hu : ∀ p ∈ T, p.1 = P → p.2 = X.env.qual ++ "<lambda>")
    (L : LamS X.env.scope sp) (hdf : defaultsOf ar X.env = ([], [])) : PE X (.Lambda ar ex sp pos) (tLamV X T ar ex sp) := by
  refine ⟨fun pins s σ H Q I h => ?_⟩
  obtain ⟨hT, h⟩ := h
  obtain ⟨ps, hP, trip, among⟩ := hT _ hm
  have hfree := L.has I.ok
  have bP : s.heap.BuiltinsAt X.mg P := TB.bm.keeps I.bk
  have hP2 : s.heap.get? P = some { cls := .none, data := .fields ps } := I.hok P _ hP
  -- the function's object is laid behind whatever was laid for its code
  have fin : ∀ (h' : Heap) (tk : Nat) (c' : Addr) (ctv : Value) (H1 : Hp), Inv X pins σ H1 { s with heap := h', toks := tk } → (∀ b, H b ≠ none → H1 b ≠ none) → ExtN H H1 → Tabs T H1 → H1 c' = some (CodeO c' (X.env.qual ++ "<lambda>")) →
      EP X pins σ Q (.ref h'.objs.size) { s with heap := h'.push (PySem.W.kla_obj "<lambda>" (X.env.qual ++ "<lambda>") ar ex sp (cloFrom X.env.cells sp.names []) ((X.mg "__name__").getD .none) c' ctv), toks := tk } :=
    fun h' tk c' ctv H1 J nn eN T1 hc' => by
      have nf : H1 h'.objs.size = none := J.hok.fresh (Nat.le_refl _)
      have nf0 : H h'.objs.size = none := by
        cases q : H h'.objs.size with
        | none => rfl
        | some u => exact absurd nf (nn _ (by rw [q]; simp))
      have e0 : h'.get? h'.objs.size = none := by
        cases q : h'.get? h'.objs.size with
        | none => rfl
        | some u => exact absurd (Heap.lt_size q) (Nat.lt_irrefl _)
      refine ⟨.ref h'.objs.size, _, J.laidN (o := LamO (X.env.qual ++ "<lambda>") ar ex sp (cloFrom X.env.cells sp.names []) c' h'.objs.size) (t' := tk) (fun b o e => Heap.get?_push_of_some _ e) e0 nf (lamO_ok (Heap.get?_push_size _ rfl)), rfl, h _ c' _ (extN_new eN nf) (T1.ext fun b o e => by rw [upd_ne (ne_of_none e nf)]; exact e) nf0 upd_same ?_⟩
      rw [upd_ne (ne_of_none hc' nf)]
      exact hc'
  refine PySem.W.kla_eval hdf ?_
  cases hc : codeAmong pos ps.toList with
  | none =>
    refine PySem.W.kla_makeFunction (mg := X.mg) (c := c) (P := P) (ps := ps) (closure_ok hfree) I.ok.glob (I.mod.glob.keeps I.bk) hco (TB.code.keeps I.bk) hP2 trip hc TB.gP bP fun c' ctv h' tk hx hge hlt hrec htb => ?_
    obtain ⟨c2, oc, vs, t, e2, hoc, hd, hv⟩ := hrec
    cases e2
    have nC : H c' = none := I.hok.fresh hge
    have nPc : P ≠ c' := ne_of_none hP nC
    have J := inv_table (t' := tk) (more := #[rawInt pos.line, rawInt pos.col, .ref c']) (h' := h') I hP (fun b o hb e => hx b o hb e) htb hge ⟨oc, vs, t, hoc, hd, hv⟩
    have eL : (ps ++ #[rawInt pos.line, rawInt pos.col, .ref c']).toList = ps.toList ++ [rawInt pos.line, rawInt pos.col, .ref c'] := by simp
    have hE : ExtN H (upd (upd H P (.tbl (ps ++ #[rawInt pos.line, rawInt pos.col, .ref c']))) c' (CodeO c' (X.env.qual ++ "<lambda>"))) := fun b o e n => by
      have n1 : b ≠ P := fun z => by
        rw [z, hP] at e
        exact n ps (Option.some.inj e).symm
      rw [upd_ne (ne_of_none e nC), upd_ne n1]
      exact e
    refine fin h' tk c' ctv _ J (fun b hb => ?_) hE (fun p hp => ?_) upd_same
    · by_cases b1 : b = c'
      · rw [b1, upd_same]
        simp
      · rw [upd_ne b1]
        by_cases b2 : b = P
        · rw [b2, upd_same]
          simp
        · rw [upd_ne b2]
          exact hb
    · by_cases hb : p.1 = P
      · rw [hu p hp hb, hb]
        refine ⟨_, by rw [upd_ne nPc, upd_same], by rw [eL]; exact PySem.TriplesOk_snoc _ _ _ _ trip, fun p' cv hcv => ?_⟩
        rw [eL] at hcv
        rcases among_app _ trip hcv with z | z
        · obtain ⟨c0, e1, e2⟩ := among p' cv z
          exact ⟨c0, e1, hE _ _ e2 codeO_ne⟩
        · exact ⟨c', z, upd_same⟩
      · obtain ⟨qs, a1, a2, a3⟩ := hT p hp
        refine ⟨qs, by rw [upd_ne (ne_of_none a1 nC), upd_ne hb]; exact a1, a2, fun p' cv hcv => ?_⟩
        obtain ⟨c0, e1, e2⟩ := a3 p' cv hcv
        exact ⟨c0, e1, hE _ _ e2 codeO_ne⟩
  | some cv =>
    obtain ⟨c', e, hco'⟩ := among pos cv hc
    subst e
    refine PySem.W.kla_makeFunctionHit (mg := X.mg) (c := c) (P := P) (ps := ps) (closure_ok hfree) I.ok.glob (I.mod.glob.keeps I.bk) hco (TB.code.keeps I.bk) hP2 trip hc bP fun ctv h' tk hx hsz => ?_
    exact fin h' tk c' ctv H (I.kept hx) (fun _ z => z) (ExtN.refl H) hT hco'
end
end Hue
namespace Hue
open PySem PySem.Spec PyProof.Rows L2 LamX
section
variable {X : Cx} {pins : List (Addr × Obj)} {σ : L2.St} {H HZ : Hp} {s s1 : Shared}
/-- a() in the def that got the lambda at f; the def's context was entered at s from X -/
theorem act_ok {CXg : CXT} {Eg : XK} {Ng : List Str} {qg : Str} {sg : Scope} {g f c' : Addr} {cdg : Value} {ar : Arguments} {ex : Expr} {sp : Scope} {k i : Nat} {a : Str} {pn : List (Addr × Obj)} {xe : Value → Shared → Prop} {W : WX} {E : XK} {tb : TE} {p1 p2 : Pos}
    (I : Inv X pins σ H s) (L : LamS X.env.scope sp)
    (hbind : ∀ pm ctv : Value, bindArgs (PySem.W.kla_fn "<lambda>" (X.env.qual ++ "<lambda>") ar ex sp (cloFrom X.env.cells sp.names []) pm (.ref c') ctv) ⟨[], []⟩ = pure [])
    (tk : Takes ((cxOf CXg X.prog X.w X.K X.mg X.base Ng qg sg g cdg X.A X.stack s H Eg).tr pn xe) W) (hW : ∀ cls d σ' H', E cls d H' → W cls d σ' H')
    (hr : Room (k + 1) (X.A.deeper (envOfC qg sg s.heap.objs.size g cdg)))
    (hbody : ∀ (A : Around) (outer : List Env) (s : Shared) (H : Hp), Room k (A.deeper (lamEnv X sp s.heap.objs.size f c')) → PE (lamCx X A outer s H E sp f c') ex tb)
    (hN : Ng[i]? = some a) (hv : Vis sg a) (hd : (a == ("__debug__" : Str)) = false := by decide) (hcd : (a == ("__classdict__" : Str)) = false := by decide) :
    PE ((cxOf CXg X.prog X.w X.K X.mg X.base Ng qg sg g cdg X.A X.stack s H Eg).tr pn xe) (.Call (.Name a p1) [] [] p2)
      (fun σZ HZ Q => σZ[i]? = some (some (.ref f)) ∧ HZ f = some (LamO (X.env.qual ++ "<lambda>") ar ex sp (cloFrom X.env.cells sp.names []) c' f) ∧ HZ c' = some (CodeO c' (X.env.qual ++ "<lambda>")) ∧ tb σ HZ Q) := by
  refine ⟨fun pinsZ sZ σZ HZ Q IZ h => ?_⟩
  obtain ⟨hs, hf, hc, ht⟩ := h
  refine wpAny_Call_Name_kw (thn ((pe_var (pos := p1) (i := i) hN hv hd hcd).run pinsZ sZ σZ HZ (fun v H1 => v = .ref f ∧ H1 = HZ) IZ ⟨.ref f, hs, rfl, rfl⟩) fun u s1 got => ?_)
  obtain ⟨v, H1, I1, r1, ev, eH⟩ := got
  rw [ev] at r1
  rw [eH] at I1
  obtain rfl : u = Value.ref f := r1
  obtain ⟨⟨pm, ctv, of1⟩, _, _⟩ := I1.hok f _ hf
  refine PySem.W.callWith_F0 ⟨_, _, _, _, of1⟩ ?_
  have un : Un (frs X.stack) [] H HZ s.heap s1.heap := I1.base
  obtain ⟨⟨oc, vs, t, hoc, hdc, hvc⟩, _, _⟩ := I1.hok c' _ hc
  have rc : codeAny (model X.prog X.w) (X.A.deeper (envOfC qg sg s.heap.objs.size g cdg)) (.call (.ref f) ⟨[], []⟩)
      (CR (L2.CX X.prog X.w) (envOfC qg sg s.heap.objs.size g cdg :: X.stack) X.prog X.w HZ s1 Q E) s1 := by
    refine PySem.W.kla_callFunE hr.depth of1 rfl L.co L.gen rfl ⟨c', oc, vs, t, rfl, hoc, hdc, hvc⟩ ?_
    rw [hbind]
    refine wpAny_pure (wpAny_newFunctionEnv (fun y hy => (L.own y hy).2) (fun y hy => absurd hy (by simp)) (fun h2 hns hsb => ⟨I1.nolimit.fresh _ hsb, ?_⟩) L.kind)
    show codeAny _ _ (.expr ex (lamEnv X sp s1.heap.objs.size f c')) _ _
    have kp : ∀ b o, s1.heap.get? b = some o → h2.get? b = some o := fun b o e =>
      hsb.extBut b o (Nat.ne_of_lt (Heap.lt_size e)) (Heap.get?_push_of_some _ e)
    have J := lam_start2 (f := f) (c' := c') (E := E) (tk := s1.toks + ([] : List (Str × Value)).length) (A := X.A.deeper (envOfC qg sg s.heap.objs.size g cdg)) (outer := envOfC qg sg s.heap.objs.size g cdg :: X.stack) I L I1.env0 hr.hd un hns kp
    refine PySem.W.kla_codeExpr (wpAny_mono ((hbody _ _ s1 HZ (hr.deeper _)).run [] _ _ HZ Q J ht) (fun v s' hq => ?_) fun e s' hq => hq)
    obtain ⟨w', H', J', rv, q⟩ := hq
    exact ⟨w', H', J'.os, J'.bare, J'.base, J'.hok, rv, q⟩
  have hx : Passes (L2.CX X.prog X.w) ((cxOf CXg X.prog X.w X.K X.mg X.base Ng qg sg g cdg X.A X.stack s H Eg).tr pn xe) E := passes_call tk hW
  refine wpAny_call (codeAny_mono rc fun r s' hq => ?_)
  match r, hq with
  | .error e, hq => exact hx pinsZ σZ HZ s1 e s' I1 hq
  | .ok (.ret u), hq => exact I1.after hq
  | .ok .next, hq => exact False.elim hq
  | .ok .brk, hq => exact False.elim hq
  | .ok .cont, hq => exact False.elim hq
end
/-- what the clause 'except x as n' wishes of an error that the body raises: it is of the class c, and known from then on -/
def wNote (K : PySem.W.Frag) (c : Value) (i : Nat) (m : Nat) (ts : TS) (D : Ends) : WX := fun cls d σ H =>
  PySem.W.exmOne K cls c = some true ∧ d = none ∧
    ∀ a, σ.length = m → H a = none → ts { nx := fun σ' H' => D.nx (σ'.set i none) H', rt := D.rt, bk := fun σ' H' => D.bk (σ'.set i none) H', ct := fun σ' H' => D.ct (σ'.set i none) H' } (σ.set i (some (.ref a))) (upd H a (CauO cls a))
section
variable {X : Cx} {x n : Str} {c : Value} {i : Nat} {body suite : List Stmt} {b₀ : Stmt} {np pos pos' : Pos} {tb : WX → TS} {ts : TS}
theorem inv_suite {pins : List (Addr × Obj)} {σ : L2.St} {H : Hp} {s : Shared} (I : Inv X pins σ H s) (a : Addr) : Inv (X.suite a (X.pn ++ pins)) [] σ H s :=
  ⟨I.ok.suite _ _, I.os, I.bare, I.base, I.loc, I.cell, I.free, I.freeC, fun p hp => I.pin p (by rw [List.append_nil] at hp; exact hp), I.hok, I.len⟩
theorem inv_unsuite {pins : List (Addr × Obj)} {σ : L2.St} {H : Hp} {s : Shared} {a : Addr} (I : Inv (X.suite a (X.pn ++ pins)) [] σ H s) (ok : X.Ok) : Inv X pins σ H s :=
  ⟨ok, I.os, I.bare, I.base, I.loc, I.cell, I.free, I.freeC, fun p hp => I.pin p (List.mem_append_left _ hp), I.hok, I.len⟩
theorem ps_try_note (hs : X.stack = X.env :: X.outer) (hf : X.env.frame = some X.env.locals) (hex : X.ex = []) (hN : X.N.Nodup) (hi : X.N[i]? = some n) (hln : X.env.kindOf n = some .local) (hc : Names X x c)
    (hb : ∀ (W : WX) (pn : List (Addr × Obj)) (xe : Value → Shared → Prop), Takes (X.tr pn xe) W → PassesOwn (model X.prog X.w) X.A X.env xe → PSs (X.tr pn xe) body (tb W))
    (hsu : ∀ (a : Addr) (pn : List (Addr × Obj)), PSs (X.suite a pn) (b₀ :: suite) ts) :
    PS X (.Try body [.ExceptHandler (some (.Name x np)) (some n) (b₀ :: suite) pos'] [] [] pos) (fun D σ H => tb (wNote X.K c i X.N.length ts D) D σ H) := by
  refine ⟨fun pins s σ H D I h => ?_⟩
  have ok := I.ok
  have hfr : X.A.frames = some (X.env :: X.outer) := by rw [ok.frames, hs]
  have hloc : Loc X.env.scope n := .inl hln
  refine wpAny_Try_except ?_
  refine wpAny_mono ((hb (wNote X.K c i X.N.length ts D) (X.pn ++ pins) _ (fun u s' xx => ?_) PassesOwn.looking).run [] s σ H D (I.toTry _) h) (fun f s1 hsp => ?_) (fun e s1 he => he)
  · obtain ⟨a, B, sI, pins', σ', H', cls, d, rfl, J', nb, up, sky, na, os, ag, hmatch, hd0, hyes⟩ := xx
    subst hd0
    have J : Inv X pins σ' H' sI := J'.ofTry ok
    have sky' : Sky B (X.env :: X.outer) a (Zc cls none) X.env.locals s'.heap := by rw [← hs]; exact sky
    show wpAny (model X.prog X.w) X.A (noteFrame (.ref a) X.env) _ _ _
    refine Sky.land Zc.steady hfr hf sky' fun h3 fl3 up3 => ?_
    have J3 : Inv X pins σ' H' { s' with heap := h3 } := J.landed nb fl3.1 (up.trans up3) os ag
    obtain ⟨oe3, vs3, he3, hz3, hd3⟩ := fl3.there
    have notIn : ∀ {h : Heap} {o : Obj} {vs : Array Value}, h.FunFrames B (X.env :: X.outer) → h.get? a = some o → o.data = .fields vs → a ∉ frs (X.env :: X.outer) := fun ff e dd hm => by
      obtain ⟨_, o', e', hnf⟩ := ff.mem hm
      rw [e] at e'
      cases e'
      exact hnf _ dd
    have nfr := notIn fl3.2.2.1 he3 hd3
    have nL : a ≠ X.env.locals := fun z => nfr (List.mem_filterMap.mpr ⟨X.env, List.mem_cons_self, by rw [hf, z]⟩)
    have nF : a ∉ X.fs := fun hm => by
      obtain ⟨e, he, q⟩ := List.mem_filterMap.mp hm
      exact nfr (List.mem_filterMap.mpr ⟨e, List.mem_cons_of_mem _ he, q⟩)
    have nI : sI.heap.get? a = none := by
      cases q : sI.heap.get? a with
      | none => rfl
      | some o =>
        have z := nb a o q (by rw [hs]; exact nfr)
        rw [fl3.2.1] at z
        cases z
    have n0 : X.s_0.heap.get? a = none := by
      cases q : X.s_0.heap.get? a with
      | none => rfl
      | some o =>
        obtain ⟨o', z⟩ := J.base.there a o q (by rw [hex]; exact fun z => nomatch z)
        rw [nI] at z
        cases z
    have S3 := J3.suite he3 hd3 na nL nF
    refine wpAny_handleBy_cons (codeAny_handlers_test ?_) (by intro q; cases q)
    have LT : PySem.W.Looks (model X.prog X.w) h3 (typeOf (.ref a)) cls := fun A Q E s k q => wpAny_typeOf_ref (k _ _ he3) (by rw [hz3.1]; exact q)
    have LM := PySem.W.exm_one (M := model X.prog X.w) (J3.kIn) LT hmatch
    have test : ∀ {Q : Value → Shared → Prop} {E : Value → Shared → Prop}, Q c { s' with heap := h3 } →
        wpAny (model X.prog X.w) (X.A.mark (some (.ref a))) (eval (.Name x np) X.env) Q E { s' with heap := h3 } := fun q => by
      rcases hc with ⟨hg, hdbg, hm | ⟨hm, hv, hnn⟩⟩
      · exact ld_glob (X := X.suite a ((a, oe3) :: (X.pn ++ pins))) S3 hg hm q hdbg
      · exact ld_blt (X := X.suite a ((a, oe3) :: (X.pn ++ pins))) S3 hg hm hv q hnn hdbg
    refine test (LM.here ?_)
    refine codeAny_handlers_suite_as ?_
    refine HandSPX.lands_againZ fl3 fun h4 fl4 up4 => ?_
    have J4 : Inv X pins σ' H' { s' with heap := h4 } := J.landed nb fl4.1 ((up.trans up3).trans up4) os ag
    obtain ⟨oe4, vs4, he4, hz4, hd4⟩ := fl4.there
    have T4 : Inv X pins σ' (upd H' a (CauO cls a)) { s' with heap := h4 } := by
      refine inv_track J4 na n0 nL.symm (fun y cy e z => ?_) (fun p hp z => ?_) (cauO_ok he4 hz4 hd4)
      · obtain ⟨v, o, e1, e2⟩ := J4.cell y cy e
        rw [z] at e1
        have e3 : some o = some oe4 := e1.symm.trans he4
        cases e3
        rw [hd4] at e2
        cases e2
      · have e1 := (J.pin p hp).1
        rw [z, nI] at e1
        cases e1
    refine store_ok (X := X.suite a (X.pn ++ pins)) (v := .ref a) (inv_suite T4 a) hN hi hloc rfl (fun s5 S5 => ?_) (.inr hln)
    refine wpAny_mono ((hsu a (X.pn ++ pins)).run [] s5 _ _ _ S5 (hyes a J.len na)) (fun f s6 hsp => ?_) (fun _ _ z => False.elim z)
    have end_ : ∀ {σ6 : L2.St} {H6 : Hp} {Q : Shared → Prop}, Inv (X.suite a (X.pn ++ pins)) [] σ6 H6 s6 → (∀ s7, Inv X pins (σ6.set i none) H6 s7 → Q s7) →
        wpAny (model X.prog X.w) X.A (do bindName X.env n .none; unbindBehindTheSuite X.env n pos') (fun _ s7 => Q s7) X.xe s6 := fun S6 hq => gone_ok (inv_unsuite S6 ok) hN hi hln hq
    match f, hsp with
    | .next, ⟨σ6, H6, S6, q6⟩ => exact end_ S6 fun s7 J7 => ⟨_, _, J7, q6⟩
    | .brk, ⟨σ6, H6, S6, q6⟩ => exact end_ S6 fun s7 J7 => ⟨_, _, J7, q6⟩
    | .cont, ⟨σ6, H6, S6, q6⟩ => exact end_ S6 fun s7 J7 => ⟨_, _, J7, q6⟩
    | .ret u, ⟨v6, σ6, H6, S6, r6, q6⟩ => exact end_ S6 fun s7 J7 => ⟨_, _, _, J7, r6, q6⟩
  · match f, hsp with
    | .next, ⟨σ', H', J', q⟩ => exact wpAny_execs_nil ⟨σ', H', J'.ofTry ok, q⟩
    | .brk, ⟨σ', H', J', q⟩ => exact ⟨σ', H', J'.ofTry ok, q⟩
    | .cont, ⟨σ', H', J', q⟩ => exact ⟨σ', H', J'.ofTry ok, q⟩
    | .ret u, ⟨v, σ', H', J', r, q⟩ => exact ⟨v, σ', H', J'.ofTry ok, r, q⟩
end
end Hue
namespace Hue
open PySem PySem.Spec PyProof.Rows L2 LamX
/-- a lambda of the def of X, with what its body asks; it may be called k levels deep -/
structure LamB (X : Cx) (k : Nat) where
  ar : Arguments
  ex : Expr
  sp : Scope
  t : XK → TE
  L : LamS X.env.scope sp
  hbind : ∀ (pm cv ctv : Value), bindArgs (PySem.W.kla_fn "<lambda>" (X.env.qual ++ "<lambda>") ar ex sp (cloFrom X.env.cells sp.names []) pm cv ctv) ⟨[], []⟩ = pure []
  hbody : ∀ (A : Around) (outer : List Env) (s : Shared) (H : Hp) (E : XK) (f c' : Addr), Room k (A.deeper (lamEnv X sp s.heap.objs.size f c')) → PE (lamCx X A outer s H E sp f c') ex (t E)
/-- the lambda B stands at f -/
def LamAt (X : Cx) {k : Nat} (B : LamB X k) (H : Hp) (f c : Addr) : Prop :=
  H f = some (LamO (X.env.qual ++ "<lambda>") B.ar B.ex B.sp (cloFrom X.env.cells B.sp.names []) c f) ∧ H c = some (CodeO c (X.env.qual ++ "<lambda>"))
/-- _law_caught(e), by what the lambda does: it returns None, or the error, which is known from then on -/
def tCau (X : Cx) (k : Nat) (CS : Addr) (te : TE) : TE := fun σ H Q => te σ H fun v H1 => ∃ (B : LamB X k) (f c : Addr), v = .ref f ∧ LamAt X B H1 f c ∧
  B.t (fun cls d H' => PySem.W.exmOne X.K cls (.ref CS) = some true ∧ d = none ∧ ∀ a, H' a = none → Q (.ref a) (upd H' a (CauO cls a))) σ H1 fun _ H' => Q .non H'
theorem scCaught : FnScope ["action", "found", "error"] ["action"] (defScope sCaught) := ⟨rfl, rfl, rfl, by decide +kernel, rfl, by decide +kernel, by decide +kernel⟩
section
variable {X : Cx}
theorem pe_caught {CS : Addr} {e : Expr} {te : TE} {k : Nat} {p pos : Pos} (TX : Tx X.K X.mg "_law_caught" sCaught ["action"]) (hE : X.mg "HueError" = some (.ref CS)) (hr : Room (k + 2) X.A) (hg : Gl X "_law_caught") (he : PE X e te)
    (hse : starEach [e] X.env = (false, eval e X.env) :: starEach [] X.env := by rfl) : PE X (.Call (.Name "_law_caught" p) [e] [] pos) (tCau X k CS te) := by
  refine ⟨fun pins s σ H Q I h => ?_⟩
  obtain ⟨g, fd, F, hm, hb⟩ := TX
  obtain ⟨oc, od, kV, doc, pm, an, cdv, ct, osl, rfl, lk, hcd⟩ := F.ex
  refine wpAny_Call_Name_kw (ld_glob I hg hm ?_ (by decide))
  refine PySem.W.callWith_K (h₀ := X.base) I.ok.mod.kin F.kp (thn ((pa_cons (hs := hse) he pa_nil).run pos pins s σ H (fun vs H1 => match vs with
    | [v] => ∃ (B : LamB X k) (f c : Addr), v = .ref f ∧ LamAt X B H1 f c ∧ B.t (fun cls d H' => PySem.W.exmOne X.K cls (.ref CS) = some true ∧ d = none ∧ ∀ a, H' a = none → Q (.ref a) (upd H' a (CauO cls a))) σ H1 fun _ H' => Q .non H'
    | _ => False) I h) fun us s1 got => ?_) hse (by rfl)
  obtain ⟨vs, H1, I1, r, got⟩ := got
  obtain ⟨v, rfl⟩ : ∃ v, vs = [v] := match vs, got with
    | [v], _ => ⟨v, rfl⟩
  obtain ⟨B, f, c, rfl, ⟨hf, hc⟩, ht⟩ := got
  refine ⟨I1.kIn, ?_⟩
  cases r with
  | cons ru rr =>
    cases rr
    cases ru
    have rc : codeAny (model X.prog X.w) X.A (.call (.ref g) ⟨[.ref f], []⟩) (CR CX0 X.stack X.prog X.w H1 s1 Q E0) s1 := by
      refine run_ofS (N := ["action", "found", "error"]) (ps := ["action"]) (us := [.ref f]) (vs := [.ref f]) lk hcd scCaught hr I1.env0 (hb s1 [.ref f] I1.kIn rfl) (.cons rfl .nil) rfl fun hr2 => ?_
      have nd := scCaught.nd
      have key : ∃ t, PSs (cxOf CX0 X.prog X.w X.K X.mg X.base ["action", "found", "error"] "_law_caught" (defScope sCaught) g cdv X.A X.stack s1 H1 E0).nox (defBody sCaught) t ∧ t { nx := fun _ H' => Q .non H', rt := Q } (L2.start ["action", "found", "error"] [.ref f]) H1 := by
        refine ⟨_, pss_cons (ps_set (i := 1) nd rfl (.inl rfl) pe_non)
          (pss_cons (ps_try_note (i := 2) (n := "error") (c := .ref CS) (ts := fun D σ H => ∃ v, σ[2]? = some (some v) ∧ D.nx (σ.set 1 (some v)) H)
              (tb := fun W D σZ HZ => ∃ Ech : XK, (∀ cls d σ' H', Ech cls d H' → W cls d σ' H') ∧ σZ[0]? = some (some (.ref f)) ∧ HZ f = some (LamO (X.env.qual ++ "<lambda>") B.ar B.ex B.sp (cloFrom X.env.cells B.sp.names []) c f) ∧ HZ c = some (CodeO c (X.env.qual ++ "<lambda>")) ∧ B.t Ech σ HZ fun _ H' => D.nx σZ H')
              rfl rfl rfl nd rfl rfl ⟨rfl, by decide, .inl hE⟩ (fun W pn xe tk _ => ?_) (fun a pn => ?_))
          (pss_one (ps_ret (pv 1)))), ?_⟩
        · refine ⟨fun pins2 s2 σ2 H2 D I2 h2 => ?_⟩
          obtain ⟨Ech, hW, h1, h2, h3, h4⟩ := h2
          exact (pss_one (ps_expr (act_ok (CXg := CX0) (Eg := E0) (qg := "_law_caught") (g := g) (cdg := cdv) (i := 0) (a := "action") (Ng := ["action", "found", "error"]) (sg := defScope sCaught) I1 B.L (B.hbind · (.ref c) ·) tk hW hr2 (fun A outer s H hr3 => B.hbody A outer s H Ech f c hr3) rfl (.inl rfl)))).run pins2 s2 σ2 H2 D I2 ⟨h1, h2, h3, h4⟩
        · exact pss_one (ps_set (i := 1) nd rfl (.inl rfl) (pv 2))
        · refine ⟨fun cls d H' => PySem.W.exmOne X.K cls (.ref CS) = some true ∧ d = none ∧ ∀ a, H' a = none → Q (.ref a) (upd H' a (CauO cls a)), fun cls d σ' H' hE' => ?_, rfl, hf, hc, ?_⟩
          · obtain ⟨e1, e2, e3⟩ := hE'
            refine ⟨e1, e2, fun a hl na => ?_⟩
            match σ', hl with
            | [x0, x1, x2], _ => exact ⟨.ref a, rfl, ⟨_, rfl, e3 a na⟩⟩
          · have go : ∀ H', Q .non H' → tRet (tVar 1) { nx := fun _ H' => Q .non H', rt := Q } ((L2.start ["action", "found", "error"] [.ref f]).set 1 (some V.non)) H' := fun H' q => ⟨_, rfl, q⟩
            have eq : (fun (_ : V) (H' : Hp) => Q .non H') = fun _ H' => tRet (tVar 1) { nx := fun _ H' => Q .non H', rt := Q } ((L2.start ["action", "found", "error"] [.ref f]).set 1 (some V.non)) H' :=
              funext fun _ => funext fun H' => propext ⟨fun q => go H' q, fun ⟨v, e, q⟩ => by cases e; exact q⟩
            rw [eq] at ht
            exact ht
      obtain ⟨t, ht1, ht2⟩ := key
      exact ⟨t, ht1.nox, ht2⟩
    refine wpAny_call (codeAny_mono rc fun r s2 hq => ?_)
    match r, hq with
    | .error e, hq => exact (show False from hq).elim
    | .ok (.ret u), hq => exact I1.after hq
    | .ok .next, hq => exact False.elim hq
    | .ok .brk, hq => exact False.elim hq
    | .ok .cont, hq => exact False.elim hq
end
end Hue
namespace Hue
open L2 PySem.Spec PySem PyProof.Rows
/-! ### enumerate(tuple) -/
theorem meets_enumT1 {v : Value} {o : Obj} {Hs : Heap → Prop} (B : Begins v o Hs) :
    Meets (Builtin.«enumerate.__new__» ⟨[.type "enumerate", v], []⟩) (fun _ R s => Hs s.heap ∧ R (.ok (.ret (.ref (s.heap.push o).objs.size)))
      { s with heap := (s.heap.push o).push { cls := .type "enumerate", data := .fields #[.none, .bool false, .ref s.heap.objs.size, rawInt 0, .none, .none] } }) :=
  .of_wp fun prog w A R s hs => by
    obtain ⟨hp, gg, dd, tk, os⟩ := s
    obtain ⟨h1, h⟩ := hs
    have hsub := sub_enumerate
    have qi : ∀ {A' : Around} {E : Value → Shared → Prop} {Q : Value → Shared → Prop}, Q (.ref hp.objs.size) ⟨hp.push o, gg, dd, tk, os⟩ →
        wpAny (model prog w) A' (pyIter v) Q E ⟨hp, gg, dd, tk, os⟩ := fun z => B.iter prog w _ _ ⟨hp, gg, dd, tk, os⟩ _ h1 z
    wp_walk
    refine wpAny_stack_any fun st => wpAny_pure ?_
    split
    · rename_i cc _ _ _ _ _
      cases (cc == Value.type "enumerate") with
      | false =>
        wp_walk using qi
        exact ⟨_, rfl, h⟩
      | true =>
        wp_walk using qi
        exact ⟨_, rfl, h⟩
    · wp_walk using qi
      exact ⟨_, rfl, h⟩
def IteT (K : PySem.W.Frag) (a : Addr) : It where
  go := fun i H => ∃ (xs : List V) (x : V), SqT K H a xs ∧ xs[i]? = some x
  yld := fun i H v H' => ∃ (T : Addr) (x : V), v = .ref T ∧ H T = none ∧ H' = upd H T (.tup [.int (i : Int), x]) ∧ ∀ xs, SqT K H a xs → xs[i]? = some x
  stop := fun i H => ∃ xs : List V, SqT K H a xs ∧ xs.length = i
theorem turn_enumT {P : Program} {w : World} {K : PySem.W.Frag} {elts : List Expr} {kk : Nat} {tpos : Pos} (a e it : Addr) :
    Turn P w K (.Tuple elts kk tpos) (IteT K a) [e, it] e (fun i h => (∃ old, IsEnum h e it (i : Int) old) ∧ h.IsTupleIter it a i ∧ e ≠ it) where
  mem := List.mem_cons_self ..
  obj := by
    intro i h st b hb
    obtain ⟨⟨old, he⟩, ⟨o, ho, hc, hd⟩, _⟩ := st
    rcases List.mem_cons.mp hb with z | z
    · rw [z]
      exact ⟨_, he, fun v q => nomatch q⟩
    · rw [List.mem_singleton.mp z]
      exact ⟨o, ho, fun v q => by rw [hd] at q; cases q⟩
  keep := by
    intro i h h' st k
    obtain ⟨⟨old, he⟩, hi, hne⟩ := st
    exact ⟨⟨old, k e (by simp) _ he⟩, hi.at fun o q => k it (by simp) o q, hne⟩
  item := by
    intro X hP hw hK hc i pins s σ H E I hf st hg
    subst hP hw hK
    obtain ⟨⟨old, he⟩, hit, hne⟩ := st
    obtain ⟨xs, x, hq, hx⟩ := hg
    obtain ⟨its, rv, p, hz⟩ := I.tuple hq
    obtain ⟨u, hu, ru⟩ := rv.get hx
    have hel : e < s.heap.objs.size := Heap.lt_size he
    have hil : it < s.heap.objs.size := by
      obtain ⟨_, z, _⟩ := hit
      exact Heap.lt_size z
    have hai : a ≠ it := fun y => by
      obtain ⟨o1, z1, c1, _⟩ := hit
      obtain ⟨o2, z2, c2, _⟩ := p
      rw [y, z1] at z2
      cases z2
      rw [c1] at c2
      exact absurd (Value.type.inj c2) (by decide)
    have hH : X.A.in1.handled = none := I.ok.hd hc
    have hae : e ∉ [it, a] := fun y => by
      rcases List.mem_cons.mp y with z | z
      · exact hne z
      · obtain ⟨o2, z2, c2, _⟩ := p
        rw [← List.mem_singleton.mp z, he] at z2
        cases z2
        exact absurd (Value.type.inj c2) (by decide)
    have hlt : i < its.toArray.size := by
      have := (List.getElem?_eq_some_iff.mp hu).1
      rw [List.size_toArray]
      exact this
    refine wpAny_pyNext_enum_itemC (Draws.tuple hH it a hai its.toArray) he ⟨hit, p⟩ hlt hne hae fun y h' tk hy ho hst hT hsz hk => ?_
    have hyu : y = u := by
      rw [List.getElem?_toArray, hu] at hy
      exact (Option.some.inj hy).symm
    subst hyu
    obtain ⟨hit', hp'⟩ := hst
    refine ⟨_, rfl, wpAny_letOwnedTupleGo_enum (s := { s with heap := h', toks := tk + 1 }) ho fun h2 he2 sb => ?_⟩
    have hT2 := (sb.2 _ (Nat.ne_of_gt hel)).trans hT
    have new : ObjOk X.prog X.w (upd H s.heap.objs.size (.tup [.int (i : Int), x])) h2 s.heap.objs.size (.tup [.int (i : Int), x]) :=
      ⟨by show 2 ≤ sizeLine; decide, [.int i tk, y],
        .cons ⟨_, rfl⟩ (.cons ru .nil), ⟨_, hT2, rfl, _, rfl⟩⟩
    have hnc : ∀ b o, b ∉ [e, it] → s.heap.get? b = some o → h2.get? b = some o := fun b o hb z =>
      (sb.2 b (fun y2 => hb (by simp [y2]))).trans (hk b o (fun y2 => hb (by simp [y2])) (fun y2 => hb (by simp [y2])) z)
    have I1 : Inv X pins σ (upd H s.heap.objs.size (.tup [.int (i : Int), x])) { s with heap := h2, toks := tk + 1 } :=
      I.turnedNew (ch := [e, it]) hnc hf (Nat.le_refl _) new
    have fr := I.hok.fresh (Nat.le_refl _)
    refine ⟨.ref s.heap.objs.size, _, I1, rfl, ⟨_, x, rfl, fr, rfl, fun ys hys => ?_⟩, ⟨⟨y, ?_⟩, hit'.at fun o z => (sb.2 it (Ne.symm hne)).trans z, hne⟩, fun b hb => ?_⟩
    · rw [I.tuple_inj hys hq]
      exact hx
    · rw [show ((i + 1 : Nat) : Int) = (i : Int) + 1 by omega]
      exact he2
    · have hlt2 : b < s.heap.objs.size := by
        rcases List.mem_cons.mp hb with z | z
        · rw [z]
          exact hel
        · rw [List.mem_singleton.mp z]
          exact hil
      rw [upd_ne (Nat.ne_of_lt hlt2)]
      exact (hf b hb).1
  done := by
    intro X hP hw hK hc i pins s σ H E I hf st hg
    subst hP hw hK
    obtain ⟨⟨old, he⟩, hit, hne⟩ := st
    obtain ⟨xs, hq, hx⟩ := hg
    obtain ⟨its, rv, p, hz⟩ := I.tuple hq
    have hH : X.A.in1.handled = none := I.ok.hd hc
    have hai : a ≠ it := fun y => by
      obtain ⟨o1, z1, c1, _⟩ := hit
      obtain ⟨o2, z2, c2, _⟩ := p
      rw [y, z1] at z2
      cases z2
      rw [c1] at c2
      exact absurd (Value.type.inj c2) (by decide)
    have hl := rv.length
    obtain ⟨f0, f1, f2, f3, f4, f5⟩ := hf it (by simp)
    have hsz : its.toArray.size = i := by
      rw [List.size_toArray]
      omega
    refine wpAny_pyNext_enum_endD (Draws.tuple hH it a hai its.toArray) he ⟨by rw [hsz]; exact hit, p⟩ fun h' eb =>
      ⟨rfl, I.turned (t' := s.toks) (fun b o hb z => eb b o hb z) f0 f1 f3 f4 f5⟩
  self := fun A i s Q E st h => by
    obtain ⟨⟨_, he⟩, _⟩ := st
    exact wpAny_pyIter_enum he h
def iEnumT (K : PySem.W.Frag) (ta : TA) : TI := fun σ H R => ta σ H fun vs H1 => ∃ (a : Addr) (xs : List V), vs = [.ref a] ∧ SqT K H1 a xs ∧ R (IteT K a) H1
theorem pi_enumT {X : Cx} {e : Expr} {ta : TA} {p pos tpos : Pos} {elts : List Expr} {kk : Nat} (hg : Gl X "enumerate") (hm : X.mg "enumerate" = none) (ha : PA X [e] ta)
    (hs : starEach [e] X.env = [(false, eval e X.env)] := by rfl) : PI X (.Tuple elts kk tpos) (.Call (.Name "enumerate" p) [e] [] pos) (iEnumT X.K ta) := by
  refine ⟨fun pins s σ H R I h => ?_⟩
  refine Call_ (ld_blt I hg hm boot_enumerate (PyProof.Rows.callWith_type1 (thn (ha.run pos pins s σ H _ I h) fun us s1 ⟨vs, H1, I1, r1, q1⟩ => ?_) hs rfl))
  obtain ⟨a, xs, rfl, hq, q⟩ := q1
  cases r1 with
  | cons r rr =>
    cases rr
    cases r
    obtain ⟨its, rv, p', hz⟩ := I1.tuple hq
    have B := begins_tuple a its.toArray
    refine callType_new F.called_enumerate (by decide) (F.typeCall_enumerate_1 _) (F.newCall_enumerate_1 _) (fun obj => F.args_object_init_2 obj _) F.entry_enumerate_new (meets_enumT1 B) ⟨p', ?_⟩
    have hz2 : (s1.heap.push { cls := .type "tuple_iterator", data := .fields #[.ref a, .int 0 0] }).objs.size = s1.heap.objs.size + 1 := Heap.size_push ..
    show _ ∧ _
    rw [hz2]
    have he : IsEnum ((s1.heap.push { cls := .type "tuple_iterator", data := .fields #[.ref a, .int 0 0] }).push
        { cls := .type "enumerate", data := .fields #[.none, .bool false, .ref s1.heap.objs.size, rawInt 0, .none, .none] }) (s1.heap.objs.size + 1) s1.heap.objs.size 0 .none := by
      have z := Heap.get?_push_size (s1.heap.push { cls := .type "tuple_iterator", data := .fields #[.ref a, .int 0 0] })
        (o := { cls := .type "enumerate", data := .fields #[.none, .bool false, .ref s1.heap.objs.size, rawInt 0, .none, .none] }) rfl
      rw [hz2] at z
      exact z
    have hit := Heap.get?_push_of_some (h := s1.heap.push { cls := .type "tuple_iterator", data := .fields #[.ref a, .int 0 0] })
      { cls := .type "enumerate", data := .fields #[.none, .bool false, .ref s1.heap.objs.size, rawInt 0, .none, .none] } (Heap.get?_push_size s1.heap (o := { cls := .type "tuple_iterator", data := .fields #[.ref a, .int 0 0] }) rfl)
    refine ⟨⟨_, he, rfl⟩, wpAny_pyIter_enum he ?_⟩
    refine ⟨s1.heap.objs.size + 1, [s1.heap.objs.size + 1, s1.heap.objs.size], _, _, H1, rfl, I1.kept (t' := s1.toks) fun b o x => Heap.get?_push_of_some _ (Heap.get?_push_of_some _ x), turn_enumT a (s1.heap.objs.size + 1) s1.heap.objs.size, ⟨⟨.none, he⟩, ⟨_, hit, rfl, rfl⟩, Nat.succ_ne_self _⟩, fun b hb => ?_, q⟩
    have hle : s1.heap.objs.size ≤ b := by
      rcases List.mem_cons.mp hb with z | z
      · rw [z]
        exact Nat.le_add_right _ _
      · rw [List.mem_singleton.mp z]
        exact Nat.le_refl _
    exact I1.fpOk hle (I1.hok.fresh hle)
end Hue
namespace Hue
open L2 PySem.Spec PySem PyProof.Rows
/-! ### tuples stay for ever -/
def isTup : HO → Prop
  | .tup _ => True
  | .frz _ (.tup _) => True
  | _ => False
def Tk (H H' : Hp) : Prop := ∀ b o, isTup o → H b = some o → H' b = some o
theorem Tk.refl (H : Hp) : Tk H H := fun _ _ _ h => h
theorem Tk.trans {H H1 H2 : Hp} (a : Tk H H1) (b : Tk H1 H2) : Tk H H2 := fun x o i h => b x o i (a x o i h)
theorem Tk.same {H H' : Hp} (e : Same H H') : Tk H H' := fun x o _ h => e x o h
theorem Tk.new {H : Hp} {p : Addr} {o : HO} (h : H p = none) : Tk H (upd H p o) := Tk.same (same_new h)
/-- a list is changed -/
theorem Tk.lst {H : Hp} {p : Addr} {xs : List V} {o : HO} (h : H p = some (.lst xs)) : Tk H (upd H p o) := fun b u i e => by
  rw [upd_ne fun z => ?_]
  · exact e
  · rw [z, h] at e
    cases e
    exact i.elim
theorem Tk.kp {st g c : Addr} {t : Nat} {H H' : Hp} (S : StAt H st g c t) (k : Kp st g H H') : Tk H H' := fun b o i e => by
  obtain ⟨_, h1⟩ := S.st
  obtain ⟨_, h2⟩ := S.g
  refine k b o (fun z => ?_) (fun z => ?_) e
  · rw [z, h1] at e
    cases e
    exact i.elim
  · rw [z, h2] at e
    cases e
    exact i.elim
theorem Tk.tup {H H' : Hp} (k : Tk H H') {a : Addr} {xs : List V} (h : H a = some (.tup xs)) : H' a = some (.tup xs) := k a _ True.intro h
theorem Tk.seq {K : PySem.W.Frag} {H H' : Hp} (k : Tk H H') {a : Addr} {xs : List V} (h : SqT K H a xs) : SqT K H' a xs := by
  rcases h with (h | ⟨o, h⟩) | h
  · exact .inl (.inl (k _ _ True.intro h))
  · exact .inl (.inr ⟨o, k _ _ True.intro h⟩)
  · exact .inr h
/-! ### data without lists -/
mutual
def noL : PyData → Bool
  | .list _ => false
  | .dict _ => false
  | .tuple xs => noLs xs
  | _ => true
def noLs : List PyData → Bool
  | [] => true
  | x :: xs => noL x && noLs xs
end
mutual
theorem dp_tk {K : PySem.W.Frag} {H H' : Hp} (k : Tk H H') : ∀ (d : PyData) (v : V), noL d = true → Dp K H v d → Dp K H' v d
  | .none, _, _, h => by cases h; exact .non
  | .bool b, _, _, h => by cases h; exact .bl b
  | .int i, _, _, h => by cases h; exact .int i
  | .str x, _, _, h => by cases h; exact .str x
  | .list _, _, z, _ => by simp [noL] at z
  | .dict _, _, z, _ => by simp [noL] at z
  | .tuple ds, _, z, h => by
    cases h with
    | tup a b => exact .tup (k.seq a) (dps_tk k ds _ z b)
theorem dps_tk {K : PySem.W.Frag} {H H' : Hp} (k : Tk H H') : ∀ (ds : List PyData) (vs : List V), noLs ds = true → DpAll K H vs ds → DpAll K H' vs ds
  | [], _, _, h => by cases h; exact .nil
  | d :: ds, _, z, h => by
    cases h with
    | cons a b =>
      have z' := Bool.and_eq_true_iff.mp (show (noL d && noLs ds) = true from z)
      exact .cons (dp_tk k d _ z'.1 a) (dps_tk k ds _ z'.2 b)
end
mutual
theorem dp_same {K : PySem.W.Frag} {H H' : Hp} (k : Same H H') : ∀ (d : PyData) (v : V), Dp K H v d → Dp K H' v d
  | .none, _, h => by cases h; exact .non
  | .bool b, _, h => by cases h; exact .bl b
  | .int i, _, h => by cases h; exact .int i
  | .str x, _, h => by cases h; exact .str x
  | .list ds, _, h => by
    cases h with
    | lst a b => exact .lst (k.seq a) (dps_same k ds _ b)
  | .dict _, _, h => by cases h
  | .tuple ds, _, h => by
    cases h with
    | tup a b => exact .tup ((Tk.same k).seq a) (dps_same k ds _ b)
theorem dps_same {K : PySem.W.Frag} {H H' : Hp} (k : Same H H') : ∀ (ds : List PyData) (vs : List V), DpAll K H vs ds → DpAll K H' vs ds
  | [], _, h => by cases h; exact .nil
  | d :: ds, _, h => by
    cases h with
    | cons a b => exact .cons (dp_same k d _ a) (dps_same k ds _ b)
end
theorem noLs_map {α : Type} (f : α → PyData) (h : ∀ x, noL (f x) = true) : ∀ xs : List α, noLs (xs.map f) = true
  | [] => rfl
  | x :: r => by
    show (noL (f x) && noLs (r.map f)) = true
    rw [h x, noLs_map f h r]
    rfl
theorem dps_app {K : PySem.W.Frag} {H : Hp} : ∀ {vs : List V} {ds : List PyData} {ws : List V} {es : List PyData}, DpAll K H vs ds → DpAll K H ws es → DpAll K H (vs ++ ws) (ds ++ es)
  | _, _, _, _, .nil, h => h
  | _, _, _, _, .cons a b, h => .cons a (dps_app b h)
theorem dps_len {K : PySem.W.Frag} {H : Hp} : ∀ {vs : List V} {ds : List PyData}, DpAll K H vs ds → vs.length = ds.length
  | _, _, .nil => rfl
  | _, _, .cons _ b => congrArg (· + 1) (dps_len b)
theorem dps_get {K : PySem.W.Frag} {H : Hp} : ∀ {vs : List V} {ds : List PyData} {i : Nat} {v : V}, DpAll K H vs ds → vs[i]? = some v → ∃ d, ds[i]? = some d ∧ Dp K H v d
  | _, _, 0, _, .cons a _, h => by
    cases (Option.some.inj h)
    exact ⟨_, rfl, a⟩
  | _, _, i + 1, _, .cons _ b, h => dps_get (i := i) b h
  | _, _, _, _, .nil, h => by simp at h
theorem dps_map {K : PySem.W.Frag} {H : Hp} {α : Type} {f : α → V} {g : α → PyData} (h : ∀ x, Dp K H (f x) (g x)) : ∀ xs : List α, DpAll K H (xs.map f) (xs.map g)
  | [] => .nil
  | x :: r => .cons (h x) (dps_map h r)
/-! ### shapes -/
theorem lays_map {α : Type} (f : α → PyData) (n : Nat) (h : ∀ x, PyData.canLay0 (f x) = true ∧ PyData.depth (f x) ≤ n) : ∀ xs : List α, PyData.canLayAll0 (xs.map f) = true ∧ PyData.depthAll (xs.map f) ≤ n
  | [] => ⟨rfl, Nat.zero_le _⟩
  | x :: r => by
    obtain ⟨h1, h2⟩ := lays_map f n h r
    obtain ⟨h3, h4⟩ := h x
    refine ⟨?_, ?_⟩
    · show (PyData.canLay0 (f x) && PyData.canLayAll0 (r.map f)) = true
      rw [h1, h3]
      rfl
    · show max (PyData.depth (f x)) (PyData.depthAll (r.map f)) ≤ n
      omega
theorem shaped_list {ds : List PyData} (n : Nat) (hn : n ≤ 63) (h : PyData.canLayAll0 ds = true ∧ PyData.depthAll ds ≤ n) : SeqAt.shaped (.list ds) = true := by
  unfold SeqAt.shaped
  show (PyData.canLayAll0 ds && decide (PyData.depthAll ds + 1 ≤ 64)) = true
  rw [h.1, decide_eq_true (by have := h.2; omega)]
  rfl
theorem shaped_tuple {ds : List PyData} (n : Nat) (hn : n ≤ 63) (h : PyData.canLayAll0 ds = true ∧ PyData.depthAll ds ≤ n) : SeqAt.shaped (.tuple ds) = true := by
  unfold SeqAt.shaped
  show (PyData.canLayAll0 ds && decide (PyData.depthAll ds + 1 ≤ 64)) = true
  rw [h.1, decide_eq_true (by have := h.2; omega)]
  rfl
theorem eqv_same {d : PyData} (h : SeqAt.shaped d = true) : PyData.eqv d d = true := SeqAt.eqv_refl d (SeqAt.canLay_of_shaped h)
end Hue
namespace Hue
open L2 PySem.Spec PySem PyProof.Rows
def IntG (mg : Str → Option Value) (x : Str) (n : Int) : Prop := ∃ t, mg x = some (.int n t)
theorem pe_gint {X : Cx} {x : Str} {n : Int} {pos : Pos} (h : IntG X.mg x n) (hg : Gl X x) (hd : (x == ("__debug__" : Str)) = false := by decide) : PE X (.Name x pos) (tC (.int n)) := by
  obtain ⟨t, e⟩ := h
  exact pe_glob hg e ⟨t, rfl⟩ hd
/-- values of all kinds that the law draws, by their type -/
inductive PlV (K : PySem.W.Frag) (H : Hp) : V → Prop where
  | int (n : Int) : PlV K H (.int n)
  | bl (b : Bool) : PlV K H (.bl b)
  | non : PlV K H .non
  | str (x : Str) : PlV K H (.str x)
  | tup {a : Addr} {xs : List V} (h : H a = some (.tup xs)) : PlV K H (.ref a)
  | lst {a : Addr} {xs : List V} (h : H a = some (.lst xs)) : PlV K H (.ref a)
def geV : V → Int → Bool
  | .int n, lo => decide (lo ≤ n)
  | _, _ => false
def inV : V → Int → Int → Bool
  | .int n, lo, hi => decide (lo ≤ n ∧ n ≤ hi)
  | _, _, _ => false
def spFrom (K : PySem.W.Frag) : Sp := fun vs H Q _ => ∃ (v : V) (lo : Int), vs = [v, .int lo] ∧ PlV K H v ∧ Q (.bl (geV v lo)) H
def spWithin (K : PySem.W.Frag) : Sp := fun vs H Q _ => ∃ (v : V) (lo hi : Int), vs = [v, .int lo, .int hi] ∧ PlV K H v ∧ Q (.bl (inV v lo hi)) H
section
variable {P : Program} {w : World} {K : PySem.W.Frag} {mg : Str → Option Value} {base : Heap}
theorem scFrom : FnScope ["value", "low"] ["value", "low"] (defScope sIsFrom) := ⟨rfl, rfl, rfl, by decide +kernel, rfl, by decide +kernel, by decide +kernel⟩
theorem df_from (X : Tx K mg "is_from" sIsFrom ["value", "low"]) (T : Bt mg) : Df P w K mg base 1 "is_from" ["value", "low"] (spFrom K) := by
  refine X.df fun f fd F => F.ok scFrom (fun vs H Q E h => ?_) (fun cdv A outer s H vs Q E hr h => ?_)
  · obtain ⟨n, lo, rfl, _⟩ := h
    rfl
  · have nd := scFrom.nd
    obtain ⟨v, lo, rfl, pl, q⟩ := h
    refine ⟨_, pss_cons (ps_if (PW.pt (pw_or (pt_val (pe_callB call_isi (by rfl) T.isinstance (by decide +kernel) (pa_cons (pv 0) (pa_cons (pe_bltn (v := .ty "bool") (u := .type "bool") (by rfl) T.bool (by decide +kernel) rfl) pa_nil)))) (pw_or1 (pt_not (pt_val (pe_callB call_isi (by rfl) T.isinstance (by decide +kernel) (pa_cons (pv 0) (pa_cons (pe_bltn (v := .ty "int") (u := .type "int") (by rfl) T.int (by decide +kernel) rfl) pa_nil))))))))
      (pss_one (ps_ret pe_bl))
      pss_nil)
      (pss_one (ps_ret (pe_cmpR op_ge (pv 0) (pv 1) (nomark _)))), ?_⟩
    cases pl with
    | int n =>
      refine ⟨_, rfl, _, _, _, _, false, rfl, .ty _, .base (.int _), kit_ty (by decide +kernel), _, rfl, ?_⟩
      refine iteF ?_
      refine ⟨_, rfl, _, _, _, _, true, rfl, .ty _, .base (.int _), kit_ty (by decide +kernel), _, rfl, ?_⟩
      refine iteF ?_
      exact ⟨_, rfl, _, rfl, _, _, rfl, rfl, q⟩
    | bl b =>
      refine ⟨_, rfl, _, _, _, _, true, rfl, .ty _, .base (.bl _), kit_ty (by decide +kernel), _, rfl, ?_⟩
      exact iteT (iteT q)
    | non =>
      refine ⟨_, rfl, _, _, _, _, false, rfl, .ty _, .base .non, kit_ty (by decide +kernel), _, rfl, ?_⟩
      refine iteF ?_
      refine ⟨_, rfl, _, _, _, _, false, rfl, .ty _, .base .non, kit_ty (by decide +kernel), _, rfl, ?_⟩
      exact iteT q
    | str x =>
      refine ⟨_, rfl, _, _, _, _, false, rfl, .ty _, .base (.str _), kit_ty (by decide +kernel), _, rfl, ?_⟩
      refine iteF ?_
      refine ⟨_, rfl, _, _, _, _, false, rfl, .ty _, .base (.str _), kit_ty (by decide +kernel), _, rfl, ?_⟩
      exact iteT q
    | tup e =>
      refine ⟨_, rfl, _, _, _, _, false, rfl, .ty _, .base (.tup e), kit_ty (by decide +kernel), _, rfl, ?_⟩
      refine iteF ?_
      refine ⟨_, rfl, _, _, _, _, false, rfl, .ty _, .base (.tup e), kit_ty (by decide +kernel), _, rfl, ?_⟩
      exact iteT q
    | lst e =>
      refine ⟨_, rfl, _, _, _, _, false, rfl, .ty _, .base (.lst e), kit_ty (by decide +kernel), _, rfl, ?_⟩
      refine iteF ?_
      refine ⟨_, rfl, _, _, _, _, false, rfl, .ty _, .base (.lst e), kit_ty (by decide +kernel), _, rfl, ?_⟩
      exact iteT q
theorem scWithin : FnScope ["value", "low", "high"] ["value", "low", "high"] (defScope sIsWithin) := ⟨rfl, rfl, rfl, by decide +kernel, rfl, by decide +kernel, by decide +kernel⟩
theorem df_within (X : Tx K mg "is_within" sIsWithin ["value", "low", "high"]) (D : Df P w K mg base 1 "is_from" ["value", "low"] (spFrom K)) : Df P w K mg base 2 "is_within" ["value", "low", "high"] (spWithin K) := by
  obtain ⟨f1, fd1, Gis_from, gis_from, kis_from, bis_from⟩ := D
  refine X.df fun f fd F => F.ok scWithin (fun vs H Q E h => ?_) (fun cdv A outer s H vs Q E hr h => ?_)
  · obtain ⟨n, lo, hi, rfl, _⟩ := h
    rfl
  · have nd := scWithin.nd
    obtain ⟨v, lo, hi, rfl, pl, q⟩ := h
    refine ⟨_, pss_one (ps_ret (pe_and (pe_call Gis_from hr rfl gis_from kis_from bis_from .nil pass0 (pa_cons (pv 0) (pa_cons (pv 1) pa_nil))) (pe_one (pe_cmpR op_le (pv 0) (pv 2) (nomark _))))), ?_⟩
    refine ⟨_, rfl, _, rfl, v, lo, rfl, pl, ?_⟩
    cases pl with
    | int n =>
      refine ⟨_, rfl, ite2 (fun e => ?_) (fun e => ?_)⟩
      · have e := of_decide_eq_true e
        refine ⟨_, rfl, _, rfl, _, _, rfl, rfl, ?_⟩
        have z : inV (.int n) lo hi = decide (n ≤ hi) := decide_eq_decide.mpr ⟨fun z => z.2, fun z => ⟨e, z⟩⟩
        rw [z] at q
        exact q
      · have e : ¬ lo ≤ n := fun z => e (decide_eq_true z)
        show Q (.bl false) H
        have z : inV (.int n) lo hi = false := decide_eq_false fun z => e z.1
        rw [z] at q
        exact q
    | bl b => exact ⟨_, rfl, q⟩
    | non => exact ⟨_, rfl, q⟩
    | str x => exact ⟨_, rfl, q⟩
    | tup e => exact ⟨_, rfl, q⟩
    | lst e => exact ⟨_, rfl, q⟩
end
end Hue
namespace Hue
open L2 PySem.Spec PySem PyProof.Rows
/-! ### calls by keywords alone, two of them, turned round -/
def sw2 {α : Type} : List α → List α → List α
  | [], [a, b] => [b, a]
  | _, _ => []
theorem sw2_rel {vs zs : List V} {us ws : List Value} (r : Vals vs us) (r2 : Vals zs ws) : Vals (sw2 vs zs) (sw2 us ws) := by
  cases r with
  | cons a b => exact .nil
  | nil =>
    cases r2 with
    | nil => exact .nil
    | cons a b =>
      cases b with
      | nil => exact .nil
      | cons c d =>
        cases d with
        | nil => exact .cons c (.cons a .nil)
        | cons e f => exact .nil
theorem kb_of {K : PySem.W.Frag} {x : Str} {st : Stmt} {f : Addr} {fd : FuncData} {ps ks : List Str} (F : Fun K x x st f fd) (hp : ps.length = 2)
    (h : ∀ (kV doc pm : Value) (an : Option Addr) (cdv ct : Value) (a b : Value), bindArgs (PySem.W.fnOf x x (defArgs st) (defBody st) (defScope st) .none kV doc pm an cdv ct) ⟨[], ks.zip [a, b]⟩ = pure (ps.zip [b, a])) : KBinds K fd ps ks sw2 sw2 := by
  obtain ⟨oc, od, kV, doc, pm, an, cdv, ct, osl, rfl, lk, hcd⟩ := F.ex
  refine ⟨fun s us ws hK hl => ?_, sw2_rel⟩
  match us, ws with
  | [], [a, b] => exact BindsTo.of_eq (h kV doc pm an cdv ct a b)
  | [], [] => simp [sw2, hp] at hl
  | [], [a] => simp [sw2, hp] at hl
  | [], a :: b :: c :: r => simp [sw2, hp] at hl
  | u :: us, ws => simp [sw2, hp] at hl
section
variable {X : Cx} {CX : CXT} {k : Nat} {f : Addr} {fd : FuncData} {ps ks : List Str} {sp : Sp} {E : XK} {x : Str} {p pos : Pos} {kws : List Keyword} {tk : TA}
/-- f(k = v, ..) -/
theorem pe_callK0 (F : FnOk X.prog X.w X.K X.mg X.base CX k f fd ps sp) (hr : Room k X.A) (hg : Gl X x) (hm : X.mg x = some (.ref f)) (hk : PySem.W.keepIn X.K (.ref f) = true) (hb : KBinds X.K fd ps ks sw2 sw2) (hx : Passes CX X E)
    (hkw : PK X kws tk) (hall : (backToKw pos (keywordEach kws X.env)).all (·.1.isSome) = true := by rfl) (hks : (backToKw pos (keywordEach kws X.env)).filterMap (·.1) = ks := by rfl)
    (hdb : (x == ("__debug__" : Str)) = false := by decide) (hpl : ((backTo pos (starEach [] X.env)).any (·.1) || (backToKw pos (keywordEach kws X.env)).any (·.1.isNone)) = false := by rfl) :
    PE X (.Call (.Name x p) [] kws pos) (tCallK sp sw2 E tNil tk) := by
  refine ⟨fun pins s σ H Q I h => ?_⟩
  refine wpAny_Call_Name_kw (ld_glob I hg hm ?_ hdb)
  refine PySem.W.callWith_KW0 (h₀ := X.base) I.ok.mod.kin hk hall (thn (hkw.run pos pins s σ H _ I h) fun ws s2 got => ?_) hpl
  obtain ⟨zs, H2, I2, rz, q2⟩ := got
  refine ⟨I2.kIn, ?_⟩
  rw [hks]
  exact run_fnk (us := []) (vs := []) F hr hb hx I2 .nil rz q2
end
/-! ### errors of the package -/
abbrev veMro : List Value := [.type "ValueError", .type "Exception", .type "BaseException", .type "object"]
structure ErrC (K : PySem.W.Frag) (mg : Str → Option Value) (x : Str) (C CS : Addr) : Prop where
  g : mg x = some (.ref C)
  ex : PySem.W.excIn K C veMro "ValueError.__new__" = true
  kp : PySem.W.keepIn K (.ref C) = true
  sb : PySem.W.subIn K (.ref C) (.type "BaseException") = some true
  ty : PySem.W.typeIn K (.ref C) = some (.type "type")
  ce : ExcC K C
  hu : PySem.W.exmOne K (.ref C) (.ref CS) = some true
/-- a def that raises -/
def DfE (P : Program) (w : World) (K : PySem.W.Frag) (mg : Str → Option Value) (base : Heap) (k : Nat) (x : Str) (ps ks : List Str) (sp : Sp) : Prop :=
  ∃ (f : Addr) (fd : FuncData), FnOk P w K mg base (L2.CX P w) k f fd ps sp ∧ mg x = some (.ref f) ∧ PySem.W.keepIn K (.ref f) = true ∧ L2.Binds K fd ps [] ∧ KBinds K fd ps ks sw2 sw2
section
variable {P : Program} {w : World} {K : PySem.W.Frag} {mg : Str → Option Value} {base : Heap}
theorem Tx.dfE {k : Nat} {x : Str} {st : Stmt} {ps ks : List Str} {sp : Sp} (X : Tx K mg x st ps) (hp : ps.length = 2) (h : ∀ f fd, Fun K x x st f fd → FnOk P w K mg base (L2.CX P w) k f fd ps sp)
    (hb : ∀ (kV doc pm : Value) (an : Option Addr) (cdv ct : Value) (a b : Value), bindArgs (PySem.W.fnOf x x (defArgs st) (defBody st) (defScope st) .none kV doc pm an cdv ct) ⟨[], ks.zip [a, b]⟩ = pure (ps.zip [b, a])) : DfE P w K mg base k x ps ks sp := by
  obtain ⟨f, fd, F, g, b⟩ := X
  exact ⟨f, fd, h f fd F, g, F.kp, b, kb_of F hp hb⟩
def spPlan (K : PySem.W.Frag) (CW : Addr) : Sp := fun vs H Q E => ∃ v u, vs = [v, u] ∧ PlV K H v ∧ PlV K H u ∧ (¬ (inV v 0 4 = true ∧ inV u 0 4 = true) → E (.ref CW) none H) ∧
  ∀ a b : Int, v = .int a → u = .int b → 0 ≤ a → a ≤ 4 → 0 ≤ b → b ≤ 4 → ∀ m : Int, m = (if b > a then b else a) + 1 → (5 < m + b → Q .non H) ∧ (m + b ≤ 5 → ∀ p, H p = none → Q (.ref p) (upd H p (.tup [.int (m + b), .int m])))
theorem inV_int {v : V} {lo hi : Int} (h : inV v lo hi = true) : ∃ n, v = .int n ∧ lo ≤ n ∧ n ≤ hi := by
  cases v with
  | int n => exact ⟨n, rfl, of_decide_eq_true h⟩
  | _ => cases h
theorem scPlan : FnScope ["told", "whole", "need"] ["told", "whole"] (defScope sPlan) := ⟨rfl, rfl, rfl, by decide +kernel, rfl, by decide +kernel, by decide +kernel⟩
theorem df_plan {CW CS : Addr} (X : Tx K mg "plan" sPlan ["told", "whole"]) (T : Bt mg) (EW : ErrC K mg "BadWish" CW CS) (n5 : IntG mg "MOST_HUES" 5) (n4 : IntG mg "GREATEST_WISH" 4)
    (D : Df P w K mg base 2 "is_within" ["value", "low", "high"] (spWithin K)) : DfE P w K mg base 3 "plan" ["told", "whole"] ["whole", "told"] (spPlan K CW) := by
  refine X.dfE rfl (fun f fd F => ?_) (fun _ _ _ _ _ _ a b => rfl)
  obtain ⟨f1, fd1, Gw, gw, kw, bw⟩ := D
  refine F.okX scPlan (fun vs H Q E h => ?_) (fun cdv A outer s H vs Q E hr h => ?_)
  · obtain ⟨v, u, rfl, _⟩ := h
    rfl
  · have nd := scPlan.nd
    obtain ⟨v, u, rfl, pv1, pu, bad, good⟩ := h
    refine ⟨_, pss_cons (ps_if (PW.pt (pw_or (pt_not (pt_val (pe_call Gw hr rfl gw kw bw .nil pass0 (pa_cons (pv 0) (pa_cons pe_int (pa_cons (pe_gint n4 rfl) pa_nil)))))) (pw_or1 (pt_not (pt_val (pe_call Gw hr rfl gw kw bw .nil pass0 (pa_cons (pv 1) (pa_cons pe_int (pa_cons (pe_gint n4 rfl) pa_nil)))))))))
      (pss_one (ps_raise rfl (takes_of rfl rfl rfl rfl) (pmk_ownA PySem.F.excBase_ValueError EW.ex EW.g EW.kp (raises_own EW.sb EW.ty) rfl (by exact pa_cons (pe_joined (.cons pe_str (.cons (pe_fmt (pe_gint n4 rfl)) .nil))) pa_nil))))
      pss_nil)
      (pss_cons (ps_set (i := 2) nd rfl (.inl rfl) (pe_op op_add (pe_callB (call_max2 rfl) (by rfl) T.max (by decide +kernel) (pa_cons (pv 0) (pa_cons (pv 1) pa_nil))) pe_int))
      (pss_cons (ps_if (pt_cmpR op_gt (pe_op op_add (pv 2) (pv 1)) (pe_gint n5 rfl) (nomark _)) (pss_one (ps_ret pe_non)) pss_nil)
      (pss_one (ps_ret (pe_tup (pa_cons (pe_op op_add (pv 2) (pv 1)) (pa_cons (pv 2) pa_nil))))))), ?_⟩
    have raised : ¬ (inV v 0 4 = true ∧ inV u 0 4 = true) → E (.ref CW) none H := bad
    refine ⟨_, rfl, v, 0, 4, rfl, pv1, inV v 0 4, rfl, ?_⟩
    cases h1 : inV v 0 4 with
    | false =>
      refine iteT (iteT ?_)
      exact ⟨_, rfl, by decide +kernel, .inr ⟨4, rfl, by decide, _, rfl, by decide +kernel, show 1 ≤ sizeLine by decide, raised fun z => by rw [h1] at z; cases z.1⟩⟩
    | true =>
      refine iteF ⟨_, rfl, u, 0, 4, rfl, pu, inV u 0 4, rfl, ?_⟩
      cases h2 : inV u 0 4 with
      | false =>
        refine iteT ?_
        exact ⟨_, rfl, by decide +kernel, .inr ⟨4, rfl, by decide, _, rfl, by decide +kernel, show 1 ≤ sizeLine by decide, raised fun z => by rw [h2] at z; cases z.2⟩⟩
      | true =>
        refine iteF ?_
        obtain ⟨a, rfl, a0, a4⟩ := inV_int h1
        obtain ⟨b, rfl, b0, b4⟩ := inV_int h2
        obtain ⟨g1, g2⟩ := good a b rfl rfl a0 a4 b0 b4 _ rfl
        refine ⟨_, rfl, _, rfl, a, b, rfl, _, _, rfl, rfl, ?_⟩
        refine ⟨_, rfl, _, rfl, _, _, rfl, rfl, _, _, rfl, rfl, _, rfl, ite2 (fun e => ?_) (fun e => ?_)⟩
        · exact g1 (of_decide_eq_true e)
        · have e : ¬ 5 < (if b > a then b else a) + 1 + b := fun z => e (decide_eq_true z)
          refine ⟨_, rfl, _, rfl, _, _, rfl, rfl, _, rfl, show 2 ≤ sizeLine by decide, fun p hp => g2 (by omega) p hp⟩
end
end Hue
namespace Hue
open L2 PySem.Spec PySem PyProof.Rows
section
variable {P : Program} {w : World} {K : PySem.W.Frag} {mg : Str → Option Value} {base : Heap}
/-- the votes at a width -/
def evN (h n w : Int) : Int := if w - (h - n) > w.fdiv 2 + 1 then w - (h - n) else w.fdiv 2 + 1
def evVs (h n : Int) (i : Nat) : List V := (List.range i).map fun j : Nat => V.int (evN h n (1 + (j : Int)))
def spEven (K : PySem.W.Frag) (CH CV : Addr) : Sp := fun vs H Q E => ∃ v u, vs = [v, u] ∧ PlV K H v ∧ PlV K H u ∧ (inV v 1 5 = false → E (.ref CH) none H) ∧
  ∀ h : Int, v = .int h → 1 ≤ h → h ≤ 5 → ((inV u 1 h = false ∨ ∃ n, u = .int n ∧ 2 * n ≤ h) → E (.ref CV) none H) ∧
    ∀ n : Int, u = .int n → 1 ≤ n → n ≤ h → h < 2 * n → ∀ (p : Addr) (H' : Hp), Same H H' → H p = none → H' p = some (.tup (evVs h n h.toNat)) → Q (.ref p) H'
theorem scEven : FnScope ["hues", "need", "width"] ["hues", "need"] (defScope sEven) := ⟨rfl, rfl, rfl, by decide +kernel, rfl, by decide +kernel, by decide +kernel⟩
theorem df_even {CH CV CS : Addr} (X : Tx K mg "even_votes" sEven ["hues", "need"]) (T : Bt mg) (EH : ErrC K mg "BadHues" CH CS) (EV : ErrC K mg "BadVotes" CV CS) (n5 : IntG mg "MOST_HUES" 5)
    (D : Df P w K mg base 2 "is_within" ["value", "low", "high"] (spWithin K)) : DfE P w K mg base 3 "even_votes" ["hues", "need"] ["need", "hues"] (spEven K CH CV) := by
  refine X.dfE rfl (fun f fd F => ?_) (fun _ _ _ _ _ _ a b => rfl)
  obtain ⟨f1, fd1, Gis_within, gis_within, kis_within, bis_within⟩ := D
  refine F.okX scEven (fun vs H Q E h => ?_) (fun cdv A outer s H vs Q E hr h => ?_)
  · obtain ⟨v, u, rfl, _⟩ := h
    rfl
  · have nd := scEven.nd
    obtain ⟨v, u, rfl, pv1, pu, bad, good⟩ := h
    refine ⟨_, pss_cons (ps_if (pt_not (pt_val (pe_call Gis_within hr rfl gis_within kis_within bis_within .nil pass0 (pa_cons (pv 0) (pa_cons pe_int (pa_cons (pe_gint n5 rfl) pa_nil))))))
      (pss_one (ps_raise rfl (takes_of rfl rfl rfl rfl) (pmk_ownA PySem.F.excBase_ValueError EH.ex EH.g EH.kp (raises_own EH.sb EH.ty) rfl (by exact pa_cons (pe_joined (.cons pe_str (.cons (pe_fmt (pe_gint n5 rfl)) .nil))) pa_nil))))
      pss_nil)
      (pss_cons (ps_if (PW.pt (pw_or (pt_not (pt_val (pe_call Gis_within hr rfl gis_within kis_within bis_within .nil pass0 (pa_cons (pv 1) (pa_cons pe_int (pa_cons (pv 0) pa_nil)))))) (pw_or1 (pt_cmpR op_ge (pv 0) (pe_op op_mul pe_int (pv 1)) (nomark _)))))
      (pss_one (ps_raise rfl (takes_of rfl rfl rfl rfl) (pmk_ownA PySem.F.excBase_ValueError EV.ex EV.g EV.kp (raises_own EV.sb EV.ty) rfl (by exact pa_cons pe_str pa_nil))))
      pss_nil)
      (pss_one (ps_ret (pe_callTy call_tuple_of (by rfl) T.tuple (by decide +kernel) (pa_cons (pe_lc (own := [("width", 2)]) (g := gName 2) (by rfl) nd (pi_range2 (by rfl) T.range (pa_cons pe_int (pa_cons (pe_op op_add (pv 0) pe_int) pa_nil))) (blkOk_by (own := [("width", 2)]) (N := ["hues", "need", "width"]) (sc := defScope sEven) (by decide +kernel)) (fun _ _ _ _ _ => pg_name (i := 2) nd rfl (Or.inl rfl))
          (fun _ _ _ _ _ => pts_nil)
          (fun _ _ _ _ _ => pe_callB (call_max2 rfl) (by rfl) T.max (by decide +kernel) (pa_cons (pe_op op_add (pe_op op_fdivN (pv 2) pe_int) pe_int) (pa_cons (pe_op op_sub (pv 2) (pe_op op_sub (pv 0) (pv 1))) pa_nil)))) pa_nil))))), ?_⟩
    refine ⟨_, rfl, v, 1, 5, rfl, pv1, inV v 1 5, rfl, ?_⟩
    cases h1 : inV v 1 5 with
    | false =>
      refine iteT ?_
      exact ⟨_, rfl, by decide +kernel, .inr ⟨5, rfl, by decide, _, rfl, by decide +kernel, show 1 ≤ sizeLine by decide, bad h1⟩⟩
    | true =>
      obtain ⟨h, rfl, a0, a4⟩ := inV_int h1
      obtain ⟨bd, gd⟩ := good h rfl a0 a4
      refine iteF ⟨_, rfl, _, rfl, u, 1, h, rfl, pu, inV u 1 h, rfl, ?_⟩
      cases h2 : inV u 1 h with
      | false =>
        refine iteT (iteT ?_)
        exact ⟨show 1 ≤ sizeLine by decide, bd (.inl h2)⟩
      | true =>
        obtain ⟨n, rfl, b0, b4⟩ := inV_int h2
        refine iteF ⟨_, rfl, _, rfl, _, _, rfl, rfl, .inl ⟨by omega, by omega⟩, _, _, rfl, rfl, _, rfl, ite2 (fun e => ?_) (fun e => ?_)⟩
        · exact ⟨show 1 ≤ sizeLine by decide, bd (.inr ⟨n, rfl, of_decide_eq_true e⟩)⟩
        · have e : ¬ 2 * n ≤ h := fun z => e (decide_eq_true z)
          have rg : (h + 1 - 1).toNat = h.toNat := by omega
          refine ⟨_, rfl, _, _, rfl, rfl, 1, h + 1, rfl, by omega, fun D hD => ?_⟩
          rw [rg]
          refine lc_range (lo := 1) (n := h.toNat) (fun i H' => H' D = some (.lst (evVs h n i)) ∧ ∀ b o, b ≠ D → H b = some o → H' b = some o) ⟨upd_same, fun b o hb e => by rw [upd_ne hb]; exact e⟩ (fun i H' hi hh => ?_) (fun H' hh => ?_)
          · obtain ⟨h3, h4⟩ := hh
            refine ⟨rfl, ?_⟩
            refine ⟨_, rfl, _, _, rfl, rfl, ⟨by decide, by decide⟩, _, _, rfl, rfl, _, rfl, _, rfl, _, rfl, _, _, rfl, rfl, _, _, rfl, rfl, _, _, rfl, _, h3, ?_, ?_, fun b o hb e => by rw [upd_ne hb]; exact h4 b o hb e⟩
            · show (evVs h n i).length < sizeLine
              unfold evVs
              rw [List.length_map, List.length_range]
              exact Nat.lt_of_lt_of_le (show i < 100 by omega) (by decide)
            · rw [upd_same]
              unfold evVs
              rw [List.range_succ, List.map_append]
              rfl
          · obtain ⟨h3, h4⟩ := hh
            refine ⟨D, _, rfl, .inl ⟨.inl (.inl h3), fun p hp => ?_⟩⟩
            have ne : p ≠ D := fun z => by
              rw [z, h3] at hp
              cases hp
            have p0 : H p = none := by
              cases z : H p with
              | none => rfl
              | some o =>
                rw [h4 p o ne z] at hp
                cases hp
            refine gd n rfl b0 b4 (by omega) p _ (fun b o e => ?_) p0 upd_same
            have nb : b ≠ p := ne_of_none e p0
            have nd2 : b ≠ D := ne_of_none e hD
            rw [upd_ne nb]
            exact h4 b o nd2 e
def spLeast : Sp := fun vs H Q _ => ∃ a b : Int, vs = [.int a, .int b] ∧ 0 ≤ a ∧ a ≤ 4 ∧ 0 ≤ b ∧ b ≤ 4 ∧
  ∀ m : Int, m = (if b > a then b else a) + 1 → (5 < m + b → Q .non H) ∧ (m + b ≤ 5 → ∀ p, H p = none → Q (.ref p) (upd H p (.tup [.int (m + b), .int m])))
theorem scLeast : FnScope ["told", "whole", "hues", "need"] ["told", "whole"] (defScope sLeast) := ⟨rfl, rfl, rfl, by decide +kernel, rfl, by decide +kernel, by decide +kernel⟩
theorem df_least (X : Tx K mg "_law_least_plan" sLeast ["told", "whole"]) (T : Bt mg) : Df P w K mg base 1 "_law_least_plan" ["told", "whole"] spLeast := by
  refine X.df fun f fd F => F.ok scLeast (fun vs H Q E h => ?_) (fun cdv A outer s H vs Q E hr h => ?_)
  · obtain ⟨a, b, rfl, _⟩ := h
    rfl
  · have nd := scLeast.nd
    obtain ⟨a, b, rfl, a0, a4, b0, b4, q⟩ := h
    refine ⟨_, pss_cons (ps_for PassesOwn.never rfl (pi_range2 (by rfl) T.range (pa_cons pe_int (pa_cons pe_int pa_nil))) (pg_name (i := 2) nd rfl (.inl rfl))
      (pss_one (ps_for PassesOwn.never rfl (pi_range2 (by rfl) T.range (pa_cons (pe_op op_add (pe_op op_fdivN (pv 2) pe_int) pe_int) (pa_cons (pe_op op_add (pv 2) pe_int) pa_nil))) (pg_name (i := 3) nd rfl (.inl rfl))
        (pss_one (ps_if (PW.pt (pw_and (pt_cmpR op_ge (pe_op op_sub (pv 3) pe_int) (pv 0) (nomark _)) (pw_and1 (pt_cmpR op_ge (pe_op op_sub (pv 2) (pv 3)) (pv 1) (nomark _)))))
          (pss_one (ps_ret (pe_tup (pa_cons (pv 2) (pa_cons (pv 3) pa_nil)))))
          pss_nil)))))
      (pss_one (ps_ret pe_non)), ?_⟩
    obtain ⟨q1, q2⟩ := q _ rfl
    -- no pair with fewer hues does
    have m0 : (if b > a then b else a) ≤ 4 := by
      split
      · omega
      · omega
    have ma : a ≤ (if b > a then b else a) := by
      split
      · omega
      · omega
    have mb : b ≤ (if b > a then b else a) := by
      split
      · omega
      · omega
    have mm : (if b > a then b else a) = a ∨ (if b > a then b else a) = b := by
      split
      · exact .inr rfl
      · exact .inl rfl
    generalize (if b > a then b else a) = y at q1 q2 m0 ma mb mm
    refine ⟨1, 6, rfl, by omega, for_range (lo := 1) (n := 5) (fun i σ H' => (∃ y1 y2, σ = [some (.int a), some (.int b), y1, y2]) ∧ H' = H ∧ (i : Int) < y + 1 + b) ⟨⟨_, _, rfl⟩, rfl, by omega⟩ (fun i σ H' hi h => ?_) (fun σ H' h => ?_)⟩
    · obtain ⟨⟨y1, y2, rfl⟩, eH, lt⟩ := h
      subst eH
      have fd2 : (1 + (i : Int)).fdiv 2 = (1 + (i : Int)) / 2 := Int.fdiv_eq_ediv_of_nonneg _ (by decide)
      refine ⟨_, rfl, _, _, rfl, rfl, ⟨by decide, by decide⟩, _, _, rfl, rfl, _, rfl, _, _, rfl, rfl, _, _, rfl, by rw [fd2]; omega, ?_⟩
      rw [fd2]
      generalize hL : (1 + (i : Int)) / 2 + 1 = L
      generalize hH0 : H' = H0 at q1 q2 ⊢
      refine for_range (lo := L) (n := (1 + (i : Int) + 1 - L).toNat) (fun j σ H' => (∃ y2, σ = [some (.int a), some (.int b), some (.int (1 + (i : Int))), y2]) ∧ H' = H0 ∧ (y + 1 + b = 1 + (i : Int) → L + (j : Int) ≤ y + 1)) ⟨⟨_, rfl⟩, rfl, fun e => by omega⟩ (fun j σ H' hj h => ?_) (fun σ H' h => ?_)
      · obtain ⟨⟨y2, rfl⟩, rfl, le⟩ := h
        refine ⟨_, rfl, _, _, rfl, rfl, _, rfl, _, _, rfl, rfl, _, rfl, ite2 (fun e1 => ?_) (fun e1 => ?_)⟩
        · have e1 := of_decide_eq_true e1
          refine ⟨_, rfl, _, rfl, _, _, rfl, rfl, _, rfl, _, _, rfl, rfl, _, rfl, ite2 (fun e2 => ?_) (fun e2 => ?_)⟩
          · have e2 := of_decide_eq_true e2
            refine ⟨_, rfl, _, rfl, show 2 ≤ sizeLine by decide, fun p hp => ?_⟩
            have a1 : y + 1 + b = 1 + (i : Int) := by omega
            have a2 : y + 1 = L + (j : Int) := by omega
            rw [a1, a2] at q2
            exact q2 (by omega) p hp
          · have e2 : ¬ b ≤ 1 + (i : Int) - (L + (j : Int)) := fun z => e2 (decide_eq_true z)
            exact ⟨⟨_, rfl⟩, rfl, fun z => by omega⟩
        · have e1 : ¬ a ≤ L + (j : Int) - 1 := fun z => e1 (decide_eq_true z)
          exact ⟨⟨_, rfl⟩, rfl, fun z => by omega⟩
      · obtain ⟨⟨y2, rfl⟩, rfl, le⟩ := h
        exact ⟨⟨_, _, rfl⟩, rfl, by omega⟩
    · obtain ⟨_, rfl, lt⟩ := h
      exact q1 (by omega)
end
end Hue
namespace Hue
open L2 PySem.Spec PySem PyProof.Rows
def votesOk (vs : List Nat) : Prop := 1 ≤ vs.length ∧ vs.length ≤ 5 ∧ ∀ i v, vs[i]? = some v → v ≤ i + 1 ∧ i + 1 < 2 * v
theorem tyx_tup {K : PySem.W.Frag} {H : Hp} {a : Addr} {xs : List V} (h : SqT K H a xs) : TyX K H (.ref a) (.type "tuple") := by
  rcases h with (h | ⟨o, h⟩) | ⟨o, its, n, h, c, _⟩
  · exact .base (.tup h)
  · exact .fTuple h
  · exact .kTuple h c
theorem for_enumT {K : PySem.W.Frag} {a : Addr} {xs : List V} {g : TG} {tb : TS} {D : Ends} {σ : L2.St} {H : Hp} (Pv : Nat → L2.St → Hp → Prop) (h0 : Pv 0 σ H) (hq : ∀ i σ H, i ≤ xs.length → Pv i σ H → SqT K H a xs)
    (hs : ∀ (i : Nat) (x : V) (T : Addr) (σ : L2.St) (H : Hp), xs[i]? = some x → Pv i σ H → H T = none → g (.ref T) σ (upd H T (.tup [.int (i : Int), x])) fun σ2 H2 => tb { D with nx := Pv (i + 1), ct := Pv (i + 1), bk := D.nx } σ2 H2) (hd : ∀ σ H, Pv xs.length σ H → D.nx σ H) :
    ∃ W : Nat → Nat → L2.St → Hp → Prop, (∃ m, W 0 m σ H) ∧ ∀ i m σ H, W i m σ H →
      ((IteT K a).stop i H ∧ D.nx σ H) ∨ ((IteT K a).go i H ∧ ∃ Nx : L2.St → Hp → Prop, (∀ σ' H', Nx σ' H' → ∃ m', m' < m ∧ W (i + 1) m' σ' H') ∧ ∀ v H', (IteT K a).yld i H v H' → g v σ H' fun σ2 H2 => tb { D with nx := Nx, ct := Nx, bk := D.nx } σ2 H2) := by
  refine ⟨fun i m σ H => m = xs.length - i ∧ i ≤ xs.length ∧ Pv i σ H, ⟨xs.length, rfl, Nat.zero_le _, h0⟩, ?_⟩
  rintro i m σ H ⟨rfl, hi, p⟩
  have q := hq i σ H hi p
  by_cases hlt : i < xs.length
  · have hx : xs[i]? = some xs[i] := List.getElem?_eq_getElem hlt
    refine .inr ⟨⟨xs, _, q, hx⟩, Pv (i + 1), fun σ' H' p' => ⟨xs.length - (i + 1), by omega, rfl, hlt, p'⟩, fun v H' y => ?_⟩
    obtain ⟨T, x', rfl, hT, rfl, f1⟩ := y
    exact hs i x' T σ H (f1 xs q) p hT
  · have e : i = xs.length := by omega
    subst e
    exact .inl ⟨⟨xs, q, rfl⟩, hd σ H p⟩
def spIsVotes (K : PySem.W.Frag) : Sp := fun vs H Q _ => ∃ (a : Addr) (ns : List Nat), vs = [.ref a] ∧ SqT K H a (ns.map fun n : Nat => V.int (n : Int)) ∧ votesOk ns ∧ ∀ H', Same H H' → Q (.bl true) H'
section
variable {P : Program} {w : World} {K : PySem.W.Frag} {mg : Str → Option Value} {base : Heap}
theorem scIsVotes : FnScope ["value", "below", "need", "width"] ["value"] (defScope sIsVotes) := ⟨rfl, rfl, rfl, by decide +kernel, rfl, by decide +kernel, by decide +kernel⟩
theorem ok_isVotes {f : Addr} {fd : FuncData} (F : Fun K "is_votes" "is_votes" sIsVotes f fd) (T : Bt mg) (n5 : IntG mg "MOST_HUES" 5) (D1 : Df P w K mg base 2 "is_within" ["value", "low", "high"] (spWithin K)) : FnOk P w K mg base CX0 3 f fd ["value"] (spIsVotes K) := by
  obtain ⟨f1, fd1, Gis_within, gis_within, kis_within, bis_within⟩ := D1
  refine F.ok scIsVotes (fun vs H Q E h => ?_) (fun cdv A outer s H vs Q E hr h => ?_)
  · obtain ⟨a, ns, rfl, _⟩ := h
    rfl
  · have nd := scIsVotes.nd
    obtain ⟨a, ns, rfl, hS, ok, q⟩ := h
    refine ⟨_, pss_cons (ps_if (PW.pt (pw_or (pt_not (pt_val (pe_callB call_isi (by rfl) T.isinstance (by decide +kernel) (pa_cons (pv 0) (pa_cons (pe_bltn (v := .ty "tuple") (u := .type "tuple") (by rfl) T.tuple (by decide +kernel) rfl) pa_nil))))) (pw_or1 (pt_not (pt_chain op_le op_le pe_int (pe_callB call_len_seq (by rfl) T.len PySem.boot_len (pa_cons (pv 0) pa_nil)) (pe_gint n5 rfl))))))
      (pss_one (ps_ret pe_bl))
      pss_nil)
      (pss_cons (ps_for PassesOwn.never rfl (pi_enumT (by rfl) T.enumerate (pa_cons (pv 0) pa_nil)) (pg_tup (by rfl) (pgs_cons (pg_name (i := 1) nd rfl (.inl rfl)) (pgs_cons (pg_name (i := 2) nd rfl (.inl rfl)) pgs_nil)))
      (pss_cons (ps_set (i := 3) nd rfl (.inl rfl) (pe_op op_add (pv 1) pe_int))
        (pss_one (ps_if (PW.pt (pw_or (pt_not (pt_val (pe_call Gis_within hr rfl gis_within kis_within bis_within .nil pass0 (pa_cons (pv 2) (pa_cons pe_int (pa_cons (pv 3) pa_nil)))))) (pw_or1 (pt_not (pt_cmpR op_lt (pv 3) (pe_op op_mul pe_int (pv 2)) (nomark _))))))
        (pss_one (ps_ret pe_bl))
        pss_nil))))
      (pss_one (ps_ret pe_bl))), ?_⟩
    have hl : (ns.map fun n : Nat => V.int (n : Int)).length = ns.length := List.length_map _
    refine ⟨_, rfl, .ref a, _, _, _, true, rfl, .ty _, tyx_tup hS, kit_ty (by decide +kernel), _, rfl, iteF ?_⟩
    refine ⟨_, rfl, a, _, rfl, .inr hS, ?_⟩
    refine ⟨_, _, rfl, rfl, true, congrArg V.bl (decide_eq_true (by rw [hl]; have := ok.1; omega)), iteT ⟨_, _, rfl, rfl, true, congrArg V.bl (decide_eq_true (by rw [hl]; have := ok.2.1; omega)), iteF ?_⟩⟩
    refine ⟨_, rfl, a, _, rfl, hS, for_enumT (xs := ns.map fun n : Nat => V.int (n : Int)) (fun i σ H' => (∃ y1 y2 y3, σ = [some (.ref a), y1, y2, y3]) ∧ Same H H') ⟨⟨_, _, _, rfl⟩, fun _ _ e => e⟩ (fun i σ H' _ h => (Tk.same h.2).seq hS) (fun i x p σ H' hx h hp => ?_) (fun σ H' h => q _ h.2)⟩
    obtain ⟨⟨y1, y2, y3, rfl⟩, sm⟩ := h
    rw [List.getElem?_map] at hx
    obtain ⟨n, hn, rfl⟩ := Option.map_eq_some_iff.mp hx
    obtain ⟨o1, o2⟩ := ok.2.2 i n hn
    have s1 := sm.trans (same_new (o := .tup [.int (i : Int), .int (n : Int)]) hp)
    refine ⟨p, _, rfl, .inl (.inl upd_same), rfl, _, _, rfl, _, _, rfl, rfl, ?_⟩
    refine ⟨_, rfl, _, _, rfl, rfl, ?_⟩
    refine ⟨_, rfl, _, rfl, .int (n : Int), 1, _, rfl, .int _, true, congrArg V.bl (decide_eq_true (by omega)), iteF ?_⟩
    refine ⟨_, rfl, _, rfl, _, _, rfl, rfl, .inl ⟨by omega, by omega⟩, _, _, rfl, rfl, true, congrArg V.bl (decide_eq_true (by omega)), iteF ?_⟩
    exact ⟨⟨_, _, _, rfl⟩, s1⟩

end
/-- isinstance of an error that was caught -/
def rIsCau (K : PySem.W.Frag) : List V → Hp → VK → Prop := fun xs H Q => ∃ (a C D : Addr) (b : Bool), xs = [.ref a, .ref C] ∧ H a = some (CauO (.ref D) a) ∧ ExcC K D ∧ PySem.W.kitOne K (.ref D) (.ref C) = some b ∧ Q (.bl b) H
theorem call_isCau {X : Cx} : CallR X (.builtin "isinstance") (rIsCau X.K) := by
  intro pins s σ H xs us Q I r h
  obtain ⟨a, C, D, b, rfl, ha, c, e, q⟩ := h
  cases r with
  | cons rx rr =>
    cases rr with
    | cons rt rr =>
      cases rr
      cases rx
      cases rt
      obtain ⟨⟨oe, vs, hget, hz, hd⟩, _, _⟩ := I.hok a _ ha
      have J : PySem.W.InstAt s.heap a oe D none := by
        obtain ⟨oc, od, oda, osl⟩ := oe
        obtain ⟨h1, h2⟩ := hz
        dsimp only at h1 h2 hd
        subst h1 h2 hd
        exact ⟨hget, rfl, rfl, trivial⟩
      exact PySem.W.kia_one (PySem.W.handS_kitx_exc c.hg c.hk c.hs c.hd c.ha c.hn c.ht c.hm) I.kIn J e (fun z => nomatch z) fun tk => ⟨.bl b, H, I.kept (t' := tk) fun _ _ z => z, rfl, q⟩
theorem kit_self {K : PySem.W.Frag} {D : Addr} : PySem.W.kitOne K (.ref D) (.ref D) = some true := by
  unfold PySem.W.kitOne
  rw [if_pos (by simp)]
end Hue
namespace Hue
open L2 PySem.Spec PySem PyProof.Rows
abbrev N44 : List Str := ["script", "state", "told", "whole", "need", "votes", "due", "task", "bad", "hues", "low", "odd", "width"]
abbrev bLaw : List Stmt := defBody sLaw
abbrev stL (i : Nat) : Stmt := bLaw.getD i (.Pass ⟨0, 0, 0, 0⟩)
theorem scLaw : FnScope N44 ["script"] (defScope sLaw) := ⟨rfl, rfl, rfl, by decide +kernel, rfl, by decide +kernel, by decide +kernel⟩
/-- x is True -/
def plB : V → Bool
  | .int _ => true
  | .bl _ => true
  | .non => true
  | .str _ => true
  | _ => false
def isT : V → Bool
  | .bl b => b
  | _ => false
theorem op_isTrue {X : Cx} : OpR X (compareOp .Is) (fun x y H Q => plB x = true ∧ y = .bl true ∧ Q (.bl (isT x)) H) := by
  intro pins s σ H x y v u Q I rx ry h
  obtain ⟨pl, rfl, q⟩ := h
  cases (show u = Value.bool true from ry)
  cases x with
  | int i =>
    obtain ⟨t, rfl⟩ := rx
    exact wpAny_is_other rfl (fun z => nomatch z) ⟨.bl false, H, I, rfl, q⟩
  | bl b =>
    cases (show v = Value.bool b from rx)
    cases b with
    | true => exact wpAny_is_self rfl ⟨.bl true, H, I, rfl, q⟩
    | false => exact wpAny_is_other rfl (fun z => nomatch z) ⟨.bl false, H, I, rfl, q⟩
  | non =>
    cases rx
    exact wpAny_is_other rfl (fun z => nomatch z) ⟨.bl false, H, I, rfl, q⟩
  | str z =>
    obtain ⟨t, rfl⟩ := rx
    exact wpAny_is_other rfl (fun z => nomatch z) ⟨.bl false, H, I, rfl, q⟩
  | _ => cases pl
theorem evs_len (h n : Int) (i : Nat) : (evVs h n i).length = i := by
  unfold evVs
  rw [List.length_map, List.length_range]
/-- the votes as data -/
def evDs (h n : Int) (i : Nat) : List PyData := (List.range i).map fun j : Nat => PyData.int (evN h n (1 + (j : Int)))
theorem evs_dp {K : PySem.W.Frag} {H : Hp} (h n : Int) (i : Nat) : DpAll K H (evVs h n i) (evDs h n i) := by
  have go : ∀ l : List Nat, DpAll K H (l.map fun j : Nat => V.int (evN h n (1 + (j : Int)))) (l.map fun j : Nat => PyData.int (evN h n (1 + (j : Int)))) := fun l => by
    induction l with
    | nil => exact .nil
    | cons a r ih => exact .cons (.int _) ih
  exact go _
def planD (m b : Int) : PyData := if 5 < m + b then .none else .tuple [.int (m + b), .int m]
section
variable {P : Program} {w : World} {K : PySem.W.Frag} {mg : Str → Option Value} {base : Heap}
/-- the 25 plans -/
theorem st_plans {f : Addr} {cdv : Value} {A : Around} {outer : List Env} {s : Shared} {H0 : Hp} {E : XK} {CW : Addr} (hr : Room 12 (A.deeper (envOfC "law" (defScope sLaw) s.heap.objs.size f cdv))) (T : Bt mg)
    (D1 : DfE P w K mg base 3 "plan" ["told", "whole"] ["whole", "told"] (spPlan K CW)) (D2 : Df P w K mg base 1 "_law_least_plan" ["told", "whole"] spLeast) :
    ∃ t, PS (cxOf CX0 P w K mg base N44 "law" (defScope sLaw) f cdv A outer s H0 E).nox (stL 1) t ∧
      ∀ (H : Hp) (D : Ends) (x0 x1 x2 x3 x4 x5 x6 x7 x8 x9 x10 x11 x12 : Option V), (∀ y2 y3 H', Same H H' → D.nx [x0, x1, y2, y3, x4, x5, x6, x7, x8, x9, x10, x11, x12] H') →
        t D [x0, x1, x2, x3, x4, x5, x6, x7, x8, x9, x10, x11, x12] H := by
  obtain ⟨f1, fd1, G1, g1, k1, b1, kb1⟩ := D1
  obtain ⟨f2, fd2, G2, g2, k2, b2⟩ := D2
  have nd := scLaw.nd
  refine ⟨_, ps_for PassesOwn.never rfl (pi_range1 (by rfl) T.range (pa_cons pe_int pa_nil)) (pg_name (i := 2) nd rfl (.inl rfl))
    (pss_one (ps_for PassesOwn.never rfl (pi_range1 (by rfl) T.range (pa_cons pe_int pa_nil)) (pg_name (i := 3) nd rfl (.inl rfl))
      (pss_one (ps_if (PW.pt (pw_or (pt_cmpR (op_neD hr.units) (pe_call G1 (hr.mono (by decide)) rfl g1 k1 b1 .nil passL (pa_cons (pv 2) (pa_cons (pv 3) pa_nil))) (pe_call G2 (hr.mono (by decide)) rfl g2 k2 b2 .nil pass0 (pa_cons (pv 2) (pa_cons (pv 3) pa_nil))) (nomark _))
          (pw_or1 (pt_cmpR (op_neD hr.units) (pe_callK0 G1 (hr.mono (by decide)) rfl g1 k1 kb1 passL (pk_cons (pv 3) (pk_cons (pv 2) pk_nil))) (pe_call G1 (hr.mono (by decide)) rfl g1 k1 b1 .nil passL (pa_cons (pv 2) (pa_cons (pv 3) pa_nil))) (nomark _)))))
        (pss_one (ps_ret pe_bl)) pss_nil)))), fun H D x0 x1 x2 x3 x4 x5 x6 x7 x8 x9 x10 x11 x12 q => ?_⟩
  refine ⟨5, rfl, by decide, by decide, ?_⟩
  refine for_range (lo := 0) (n := 5) (fun i σ H' => ∃ y2 y3, σ = [x0, x1, y2, y3, x4, x5, x6, x7, x8, x9, x10, x11, x12] ∧ Same H H') ⟨_, _, rfl, fun _ _ e => e⟩ (fun i σ H' hi h => ?_) (fun σ H' h => ?_)
  · obtain ⟨y2, y3, rfl, sm⟩ := h
    refine ⟨5, rfl, by decide, by decide, ?_⟩
    refine for_range (lo := 0) (n := 5) (fun j σ H' => ∃ y3, σ = [x0, x1, some (.int (0 + (i : Int))), y3, x4, x5, x6, x7, x8, x9, x10, x11, x12] ∧ Same H H') ⟨_, rfl, sm⟩ (fun j σ H' hj h => ?_) (fun σ H' h => ?_)
    · obtain ⟨y3, rfl, sm⟩ := h
      have i0 : (0 : Int) ≤ 0 + (i : Int) ∧ 0 + (i : Int) ≤ 4 := by omega
      have j0 : (0 : Int) ≤ 0 + (j : Int) ∧ 0 + (j : Int) ≤ 4 := by omega
      generalize (0 + (i : Int)) = a at i0 ⊢
      generalize (0 + (j : Int)) = b at j0 ⊢
      have okIn : ∀ {x : Int}, 0 ≤ x ∧ x ≤ 4 → inV (.int x) 0 4 = true := fun h => decide_eq_true h
      obtain ⟨m, hm⟩ : ∃ m : Int, m = (if b > a then b else a) + 1 := ⟨_, rfl⟩
      -- what each of the calls tells
      have call1 : ∀ (H1 : Hp) (Q : VK) (E : XK), (∀ v H2, Same H1 H2 → Dp K H2 v (planD m b) → Q v H2) → spPlan K CW ([.int a, .int b] ++ []) H1 Q E := fun H1 Q E k => by
        refine ⟨_, _, rfl, .int _, .int _, fun z => absurd ⟨okIn i0, okIn j0⟩ z, fun a' b' e1 e2 _ _ _ _ m' em => ?_⟩
        cases e1
        cases e2
        rw [← hm] at em
        subst em
        refine ⟨fun h5 => k _ _ (fun _ _ z => z) ?_, fun h5 p hp => k _ _ (same_new hp) ?_⟩
        · unfold planD
          rw [if_pos h5]
          exact .non
        · unfold planD
          rw [if_neg (by omega)]
          exact .tup (.inl (.inl upd_same)) (.cons (.int _) (.cons (.int _) .nil))
      have call3 : ∀ (H1 : Hp) (Q : VK) (E : XK), (∀ v H2, Same H1 H2 → Dp K H2 v (planD m b) → Q v H2) → spPlan K CW [.int a, .int b] H1 Q E := fun H1 Q E k => by
        have z := call1 H1 Q E k
        exact z
      have call2 : ∀ (H1 : Hp) (Q : VK) (E : XK), (∀ v H2, Same H1 H2 → Dp K H2 v (planD m b) → Q v H2) → spLeast ([.int a, .int b] ++ []) H1 Q E := fun H1 Q E k => by
        refine ⟨_, _, rfl, i0.1, i0.2, j0.1, j0.2, fun m' em => ?_⟩
        rw [← hm] at em
        subst em
        refine ⟨fun h5 => k _ _ (fun _ _ z => z) ?_, fun h5 p hp => k _ _ (same_new hp) ?_⟩
        · unfold planD
          rw [if_pos h5]
          exact .non
        · unfold planD
          rw [if_neg (by omega)]
          exact .tup (.inl (.inl upd_same)) (.cons (.int _) (.cons (.int _) .nil))
      have keepD : ∀ {H1 H2 : Hp} {v : V}, Same H1 H2 → Dp K H1 v (planD m b) → Dp K H2 v (planD m b) := fun sm d => by
        refine dp_tk (Tk.same sm) _ _ ?_ d
        unfold planD
        split <;> rfl
      have sh : SeqAt.shaped (planD m b) = true := by
        unfold planD
        split <;> rfl
      have eq : PyData.eqv (planD m b) (planD m b) = true := eqv_same sh
      refine ⟨_, rfl, _, rfl, ?_⟩
      dsimp only [tNil, tCons, tVar, tCall, tCallK, sw2]
      refine call1 _ _ _ fun v1 Ha s1 d1 => ⟨_, rfl, _, rfl, ?_⟩
      refine call2 _ _ _ fun v2 Hb s2 d2 => ⟨_, _, keepD s2 d1, d2, sh, sh, ?_⟩
      rw [eq]
      refine ⟨false, rfl, iteF ?_⟩
      refine ⟨_, rfl, _, rfl, ?_⟩
      dsimp only [tNil, tCons, tVar, tCall, tCallK, sw2]
      refine call3 _ _ _ fun v3 Hc s3 d3 => ⟨_, rfl, _, rfl, ?_⟩
      refine call1 _ _ _ fun v4 Hd s4 d4 => ⟨_, _, keepD s4 d3, d4, sh, sh, ?_⟩
      rw [eq]
      refine ⟨false, rfl, iteF ?_⟩
      exact ⟨_, rfl, (((sm.trans s1).trans s2).trans s3).trans s4⟩
    · obtain ⟨y3, rfl, sm⟩ := h
      exact ⟨_, _, rfl, sm⟩
  · obtain ⟨y2, y3, rfl, sm⟩ := h
    exact q _ _ _ sm
end
end Hue
namespace Hue
open L2 PySem.Spec PySem PyProof.Rows
theorem evN_bounds {h n w : Int} (h1 : 1 ≤ n) (h2 : n ≤ h) (h3 : h < 2 * n) (w1 : 1 ≤ w) : 0 ≤ evN h n w ∧ evN h n w ≤ w ∧ w < 2 * evN h n w := by
  unfold evN
  rw [Int.fdiv_eq_ediv_of_nonneg _ (by decide)]
  split
  · omega
  · omega
theorem evN_last {h n : Int} (h1 : 1 ≤ n) (h2 : n ≤ h) (h3 : h < 2 * n) : evN h n h = n := by
  unfold evN
  rw [Int.fdiv_eq_ediv_of_nonneg _ (by omega)]
  split
  · omega
  · omega
def evNs (h n : Int) (i : Nat) : List Nat := (List.range i).map fun j : Nat => (evN h n (1 + (j : Int))).toNat
theorem evNs_eq {h n : Int} (h1 : 1 ≤ n) (h2 : n ≤ h) (h3 : h < 2 * n) (i : Nat) : evVs h n i = (evNs h n i).map fun x : Nat => V.int (x : Int) := by
  unfold evVs evNs
  rw [List.map_map]
  refine List.map_congr_left fun j _ => ?_
  have z := (evN_bounds h1 h2 h3 (w := 1 + (j : Int)) (by omega)).1
  show V.int _ = V.int _
  rw [Int.toNat_of_nonneg z]
theorem evNs_ok {h n : Int} (h1 : 1 ≤ n) (h2 : n ≤ h) (h3 : h < 2 * n) (h5 : h ≤ 5) : votesOk (evNs h n h.toNat) := by
  refine ⟨?_, ?_, fun i v e => ?_⟩
  · unfold evNs
    rw [List.length_map, List.length_range]
    omega
  · unfold evNs
    rw [List.length_map, List.length_range]
    omega
  · unfold evNs at e
    rw [List.getElem?_map] at e
    obtain ⟨j, e1, e2⟩ := Option.map_eq_some_iff.mp e
    obtain ⟨hl, e1⟩ := List.getElem?_eq_some_iff.mp e1
    rw [List.getElem_range] at e1
    subst e1
    subst e2
    obtain ⟨b1, b2, b3⟩ := evN_bounds h1 h2 h3 (w := 1 + (i : Int)) (by omega)
    omega
theorem evs_shaped (h n : Int) (i : Nat) : SeqAt.shaped (.tuple (evDs h n i)) = true := shaped_tuple 0 (by decide) (lays_map _ _ (fun u => ⟨rfl, Nat.le_refl 0⟩) _)
theorem evs_shapedL (h n : Int) (i : Nat) : SeqAt.shaped (.list (evDs h n i)) = true := by
  have e : evDs h n i = ((List.range i).map fun j : Nat => evN h n (1 + (j : Int))).map PyData.int := by
    unfold evDs
    rw [List.map_map]
    rfl
  rw [e]
  exact shaped_ints _
section
variable {P : Program} {w : World} {K : PySem.W.Frag} {mg : Str → Option Value} {base : Heap}
/-- the 15 votes -/
theorem st_evens {f : Addr} {cdv : Value} {A : Around} {outer : List Env} {s : Shared} {H0 : Hp} {E : XK} {CH CV : Addr} (hr : Room 12 (A.deeper (envOfC "law" (defScope sLaw) s.heap.objs.size f cdv))) (T : Bt mg)
    (D1 : DfE P w K mg base 3 "even_votes" ["hues", "need"] ["need", "hues"] (spEven K CH CV)) (D2 : Df P w K mg base 3 "is_votes" ["value"] (spIsVotes K)) :
    ∃ t, PS (cxOf CX0 P w K mg base N44 "law" (defScope sLaw) f cdv A outer s H0 E).nox (stL 2) t ∧
      ∀ (H : Hp) (D : Ends) (x0 x1 x2 x3 x4 x5 x6 x7 x8 x9 x10 x11 x12 : Option V), (∀ y4 y5 y6 y9 y12 H', Same H H' → D.nx [x0, x1, x2, x3, y4, y5, y6, x7, x8, y9, x10, x11, y12] H') →
        t D [x0, x1, x2, x3, x4, x5, x6, x7, x8, x9, x10, x11, x12] H := by
  obtain ⟨f1, fd1, G1, g1, k1, b1, kb1⟩ := D1
  obtain ⟨f2, fd2, G2, g2, k2, b2⟩ := D2
  have nd := scLaw.nd
  refine ⟨_, ps_for PassesOwn.never rfl (pi_range2 (by rfl) T.range (pa_cons pe_int (pa_cons pe_int pa_nil))) (pg_name (i := 9) nd rfl (.inr rfl))
      (pss_one (ps_for PassesOwn.never rfl (pi_range2 (by rfl) T.range (pa_cons (pe_op op_add (pe_op op_fdivN (pv 9) pe_int) pe_int) (pa_cons (pe_op op_add (pv 9) pe_int) pa_nil))) (pg_name (i := 4) nd rfl (.inr rfl))
        (pss_cons (ps_set (i := 5) nd rfl (.inl rfl) (pe_call G1 (hr.mono (by decide)) rfl g1 k1 b1 .nil passL (pa_cons (pv 9) (pa_cons (pv 4) pa_nil))))
          (pss_cons (ps_if (PW.pt (pw_or (pt_cmpR op_notBl (pe_call G2 (hr.mono (by decide)) rfl g2 k2 b2 .nil pass0 (pa_cons (pv 5) pa_nil)) pe_bl (nomark _)) (pw_or (pt_cmpR op_ne (pe_callB call_len_seq (by rfl) T.len PySem.boot_len (pa_cons (pv 5) pa_nil)) (pv 9) (nomark _)) (pw_or1 (pt_cmpR op_ne (pe_ix ix_tup (pv 5) (pe_op op_sub (pv 9) pe_int) (fun _ _ => rfl)) (pv 4) (nomark _))))))
          (pss_one (ps_ret pe_bl))
          pss_nil)
          (pss_cons (ps_if (pt_cmpR (op_neD hr.units) (pe_callK0 G1 (hr.mono (by decide)) rfl g1 k1 kb1 passL (pk_cons (pv 4) (pk_cons (pv 9) pk_nil))) (pv 5) (nomark _))
          (pss_one (ps_ret pe_bl))
          pss_nil)
          (pss_cons (ps_setLc (i := 6) (own := [("width", 12)]) (g := gName 12) (by rfl) nd rfl rfl (sw_true rfl rfl rfl (by decide +kernel)) (pi_range2 (by rfl) T.range (pa_cons pe_int (pa_cons (pe_op op_add (pv 9) pe_int) pa_nil))) (blkOk_by (own := [("width", 12)]) (N := ["script", "state", "told", "whole", "need", "votes", "due", "task", "bad", "hues", "low", "odd", "width"]) (sc := defScope sLaw) (by decide +kernel)) (fun _ _ _ _ _ => pg_name (i := 12) nd rfl (Or.inl rfl))
          (fun _ _ _ _ _ => pts_nil)
          (fun _ _ _ _ _ => pe_callB (call_max2 rfl) (by rfl) T.max (by decide +kernel) (pa_cons (pe_op op_add (pe_op op_fdivN (pv 12) pe_int) pe_int) (pa_cons (pe_op op_sub (pv 12) (pe_op op_sub (pv 9) (pv 4))) pa_nil))))
          (pss_one (ps_if (pt_cmpR (op_neD hr.units) (pe_callTy call_list_of (by rfl) T.list (by decide +kernel) (pa_cons (pv 5) pa_nil)) (pv 6) (nomark _))
          (pss_one (ps_ret pe_bl))
          pss_nil)))))))), fun H D x0 x1 x2 x3 x4 x5 x6 x7 x8 x9 x10 x11 x12 q => ?_⟩
  refine ⟨1, 6, rfl, by omega, for_range (lo := 1) (n := 5) (fun i σ H' => (∃ y4 y5 y6 y9 y12, σ = [x0, x1, x2, x3, y4, y5, y6, x7, x8, y9, x10, x11, y12]) ∧ Same H H') ⟨⟨_, _, _, _, _, rfl⟩, fun _ _ e => e⟩ (fun i σ H' hi hh => ?_) (fun σ H' hh => ?_)⟩
  · obtain ⟨⟨y4, y5, y6, y9, y12, rfl⟩, sm⟩ := hh
    have hb : (1 : Int) ≤ 1 + (i : Int) ∧ 1 + (i : Int) ≤ 5 := by omega
    generalize (1 + (i : Int)) = h at hb ⊢
    have fd2 : h.fdiv 2 = h / 2 := Int.fdiv_eq_ediv_of_nonneg _ (by decide)
    refine ⟨_, rfl, _, _, rfl, rfl, ⟨by decide, by decide⟩, _, _, rfl, rfl, _, rfl, _, _, rfl, rfl, _, _, rfl, by rw [fd2]; omega, ?_⟩
    rw [fd2]
    generalize hL : h / 2 + 1 = L
    refine for_range (lo := L) (n := (h + 1 - L).toNat) (fun j σ H' => (∃ y4 y5 y6 y12, σ = [x0, x1, x2, x3, y4, y5, y6, x7, x8, some (.int h), x10, x11, y12]) ∧ Same H H') ⟨⟨_, _, _, _, rfl⟩, sm⟩ (fun j σ H' hj hh => ?_) (fun σ H' hh => ?_)
    · obtain ⟨⟨y4, y5, y6, y12, rfl⟩, sm⟩ := hh
      have nb : 1 ≤ L + (j : Int) ∧ L + (j : Int) ≤ h ∧ h < 2 * (L + (j : Int)) := by omega
      generalize L + (j : Int) = n at nb ⊢
      obtain ⟨n1, n2, n3⟩ := nb
      have hin : inV (.int h) 1 5 = true := decide_eq_true hb
      have nin : inV (.int n) 1 h = true := decide_eq_true ⟨n1, n2⟩
      have call1 : ∀ (H1 : Hp) (Q : VK) (E : XK), (∀ p H2, Same H1 H2 → H1 p = none → H2 p = some (.tup (evVs h n h.toNat)) → Q (.ref p) H2) → spEven K CH CV [.int h, .int n] H1 Q E := fun H1 Q E k => by
        refine ⟨_, _, rfl, .int _, .int _, (fun z => by rw [hin] at z; cases z), fun h' e1 _ _ => ?_⟩
        cases e1
        refine ⟨fun z => ?_, fun n' e2 _ _ _ p H2 s2 hp e => ?_⟩
        · rcases z with z | ⟨n', e2, z⟩
          · rw [nin] at z
            cases z
          · cases e2
            omega
        · cases e2
          exact k p H2 s2 hp e
      refine ⟨_, rfl, _, rfl, ?_⟩
      dsimp only [tNil, tCons, tVar, tCall, tCallK, sw2]
      refine call1 _ _ _ fun p Ha s1 hp0 hp => ?_
      have eqN := evNs_eq n1 n2 n3 h.toNat
      have hS : ∀ {H2 : Hp}, Same Ha H2 → SqT K H2 p (evVs h n h.toNat) := fun s => .inl (.inl (s _ _ hp))
      refine ⟨_, rfl, p, evNs h n h.toNat, rfl, by rw [← eqN]; exact hS fun _ _ e => e, evNs_ok n1 n2 n3 (by omega), fun Hb s2 => ?_⟩
      refine ⟨true, true, rfl, rfl, false, rfl, iteF ?_⟩
      have eh : ((h.toNat : Nat) : Int) = h := Int.toNat_of_nonneg (by omega)
      have last : atI (evVs h n h.toNat) (h - 1) = some (.int n) := by
        have l1 : (evVs h n h.toNat).length = h.toNat := evs_len ..
        have ix : ixN (evVs h n h.toNat).length (h - 1) = some (h - 1).toNat := by
          unfold ixN
          rw [l1, if_pos (by omega), if_pos (by omega)]
        unfold atI
        rw [ix]
        show (evVs h n h.toNat)[(h - 1).toNat]? = _
        unfold evVs
        rw [List.getElem?_map, List.getElem?_range (by omega)]
        show some (V.int (evN h n (1 + (((h - 1).toNat : Nat) : Int)))) = _
        rw [show (1 + (((h - 1).toNat : Nat) : Int)) = h by omega, evN_last n1 n2 n3]
      refine ⟨_, rfl, p, _, rfl, .inr (hS s2), _, rfl, rfl, false, congrArg V.bl (by rw [evs_len, eh, decide_eq_true rfl]; rfl), iteF ?_⟩
      refine ⟨_, rfl, _, rfl, _, _, rfl, rfl, p, _, _, _, rfl, rfl, hS s2, last, _, rfl, rfl, false, congrArg V.bl (by rw [decide_eq_true rfl]; rfl), iteF ?_⟩
      -- by keywords, again
      refine ⟨_, rfl, _, rfl, ?_⟩
      dsimp only [tNil, tCons, tVar, tCall, tCallK, sw2]
      have dpS : ∀ {H2 : Hp} {a : Addr}, H2 a = some (.tup (evVs h n h.toNat)) → Dp K H2 (.ref a) (.tuple (evDs h n h.toNat)) := fun e => .tup (.inl (.inl e)) (evs_dp h n _)
      refine call1 _ _ _ fun p2 Hc s3 hp20 hp2 => ⟨_, rfl, _, _, dpS hp2, dpS (s3 _ _ (s2 _ _ hp)), evs_shaped h n _, evs_shaped h n _, ?_⟩
      rw [eqv_same (evs_shaped h n h.toNat)]
      refine ⟨false, rfl, iteF ?_⟩
      have rg : (h + 1 - 1).toNat = h.toNat := by omega
      have kpc : Same Ha Hc := fun b o e => s3 b o (s2 b o e)
      refine ⟨_, rfl, _, _, rfl, rfl, 1, h + 1, rfl, by omega, fun D2 hD => ?_⟩
      rw [rg]
      refine lc_range (lo := 1) (n := h.toNat) (fun i H' => H' D2 = some (.lst (evVs h n i)) ∧ ∀ b o, b ≠ D2 → Hc b = some o → H' b = some o) ⟨upd_same, fun b o hb e => by rw [upd_ne hb]; exact e⟩ (fun i H' hi hh => ?_) (fun H' hh => ?_)
      · obtain ⟨h3, h4⟩ := hh
        refine ⟨rfl, ?_⟩
        refine ⟨_, rfl, _, _, rfl, rfl, ⟨by decide, by decide⟩, _, _, rfl, rfl, _, rfl, _, rfl, _, rfl, _, _, rfl, rfl, _, _, rfl, rfl, _, _, rfl, _, h3, ?_, ?_, fun b o hb e => by rw [upd_ne hb]; exact h4 b o hb e⟩
        · show (evVs h n i).length < sizeLine
          rw [evs_len]
          exact Nat.lt_of_lt_of_le (show i < 100 by omega) (by decide)
        · rw [upd_same]
          unfold evVs
          rw [List.range_succ, List.map_append]
          rfl
      · obtain ⟨h3, h4⟩ := hh
        have nD : p ≠ D2 := ne_of_none (kpc _ _ hp) hD
        have sD : Same Hc H' := fun b o e => h4 b o (ne_of_none e hD) e
        have hpH : H' p = some (.tup (evVs h n h.toNat)) := sD _ _ (kpc _ _ hp)
        refine ⟨_, rfl, p, _, rfl, .inr (.inl (.inl hpH)), fun l hl => ?_⟩
        have nl : D2 ≠ l := ne_of_none h3 hl
        refine ⟨_, rfl, _, _, .lst (.inl (.inl upd_same)) (evs_dp h n _), .lst (.inl (.inl (by rw [upd_ne nl]; exact h3))) (evs_dp h n _), evs_shapedL h n _, evs_shapedL h n _, ?_⟩
        rw [eqv_same (evs_shapedL h n h.toNat)]
        refine ⟨false, rfl, iteF ?_⟩
        exact ⟨⟨_, _, _, _, rfl⟩, (((sm.trans s1).trans kpc).trans sD).trans (same_new hl)⟩
    · obtain ⟨⟨y4, y5, y6, y12, rfl⟩, sm⟩ := hh
      exact ⟨⟨_, _, _, _, _, rfl⟩, sm⟩
  · obtain ⟨⟨y4, y5, y6, y9, y12, rfl⟩, sm⟩ := hh
    exact q _ _ _ _ _ _ sm
end
end Hue
namespace Hue
open PySem PySem.Spec PyProof.Rows L2 LamX
theorem StAt.extN {H H' : Hp} {st g c : Addr} {t : Nat} (S : StAt H st g c t) (e : ExtN H H') : StAt H' st g c t := by
  obtain ⟨n, gs, cs, r, h1, h2, h3⟩ := S
  exact ⟨n, gs, cs, r, e _ _ h1 (fun _ z => nomatch z), e _ _ h2 (fun _ z => nomatch z), e _ _ h3 (fun _ z => nomatch z)⟩
theorem PlV.extN {K : PySem.W.Frag} {H H' : Hp} {v : V} (p : PlV K H v) (e : ExtN H H') : PlV K H' v := by
  cases p with
  | int n => exact .int n
  | bl b => exact .bl b
  | non => exact .non
  | str x => exact .str x
  | tup h => exact .tup (e _ _ h fun _ z => nomatch z)
  | lst h => exact .lst (e _ _ h fun _ z => nomatch z)
theorem extN_same {H H' : Hp} (s : Same H H') : ExtN H H' := fun b o e _ => s b o e
theorem Tabs.kp {T : List (Addr × Str)} {H H' : Hp} {st g c : Addr} {t : Nat} (S : StAt H st g c t) (k : Kp st g H H') (tb : Tabs T H) (one : ∀ p ∈ T, ∀ q ∈ T, p = q) : Tabs T H' := fun p hp => by
  obtain ⟨ps, h1, h2, h3⟩ := tb p hp
  obtain ⟨_, e1⟩ := S.st
  obtain ⟨_, e2⟩ := S.g
  have ne : ∀ {b o}, H b = some o → (∀ kvs, o ≠ .dK kvs) → (∀ xs, o ≠ .lst xs) → H' b = some o := fun {b o} e n1 n2 => by
    refine k b o (fun z => ?_) (fun z => ?_) e
    · rw [z, e1] at e
      exact n1 _ (Option.some.inj e).symm
    · rw [z, e2] at e
      exact n2 _ (Option.some.inj e).symm
  refine ⟨ps, ne h1 (fun _ z => nomatch z) (fun _ z => nomatch z), h2, fun pos cv hc => ?_⟩
  obtain ⟨c0, e, hco⟩ := h3 pos cv hc
  exact ⟨c0, e, ne hco (fun _ z => nomatch z) (fun _ z => nomatch z)⟩
theorem extN_lamO {H H' : Hp} {q : Str} {ar : Arguments} {ex : Expr} {sp : Scope} {cl : List (Str × Addr)} {c f : Addr} (e : ExtN H H') (h : H f = some (LamO q ar ex sp cl c f)) : H' f = some (LamO q ar ex sp cl c f) := e _ _ h fun _ z => nomatch z
theorem extN_codeO {H H' : Hp} {q : Str} {c : Addr} (e : ExtN H H') (h : H c = some (CodeO c q)) : H' c = some (CodeO c q) := e _ _ h fun _ z => nomatch z
def spLaw (K : PySem.W.Frag) (Pt : Addr) : Sp := fun vs H Q _ => ∃ (a : Addr) (ns : List Int), vs = [.ref a] ∧ SqL K H a (ns.map V.int) ∧ ns.length ≤ 63 ∧ H Pt = some (.tbl #[]) ∧ ∀ H', Q (.bl true) H'
section
variable {P : Program} {w : World} {K : PySem.W.Frag} {mg : Str → Option Value} {base : Heap}
/-- the law's context -/
abbrev cxL (P : Program) (w : World) (K : PySem.W.Frag) (mg : Str → Option Value) (base : Heap) (f c : Addr) (A : Around) (outer : List Env) (s : Shared) (H0 : Hp) (E : XK) : Cx := (cxOf CX0 P w K mg base N44 "law" (defScope sLaw) f (.ref c) A outer s H0 E).nox
/-- a lambda's call of plan, of even_votes -/
theorem lam_call {X : Cx} {A : Around} {outer : List Env} {s : Shared} {H : Hp} {E : XK} {sp : Scope} {f c' fp : Addr} {x : Str} {fd : FuncData} {ps : List Str} {spx : Sp} {k : Nat} {e : Expr} {es : List Expr} {t : TA} {p pos : Pos}
    (G : FnOk X.prog X.w X.K X.mg X.base (L2.CX X.prog X.w) k fp fd ps spx) (hr : Room k (A.deeper (lamEnv X sp s.heap.objs.size f c'))) (hg : Gl (lamCx X A outer s H E sp f c') x) (hm : X.mg x = some (.ref fp)) (hk : PySem.W.keepIn X.K (.ref fp) = true) (hb : L2.Binds X.K fd ps [])
    (ha : PA (lamCx X A outer s H E sp f c') (e :: es) t) (hdb : (x == ("__debug__" : Str)) = false) (he : starEach (e :: es) (lamCx X A outer s H E sp f c').env = (false, eval e (lamCx X A outer s H E sp f c').env) :: starEach es (lamCx X A outer s H E sp f c').env) (hpl : (backTo pos (starEach es (lamCx X A outer s H E sp f c').env)).any (·.1) = false) :
    PE (lamCx X A outer s H E sp f c') (.Call (.Name x p) (e :: es) [] pos) (tCall spx [] E t) :=
  pe_call (X := lamCx X A outer s H E sp f c') (CX := L2.CX X.prog X.w) G hr hg hm hk hb .nil (passes_call (takes_of rfl rfl rfl rfl) fun _ _ _ _ z => z) ha hdb he hpl
/-- what low may be -/
def LowOk (h : Int) (u : V) : Prop := (∀ (K : PySem.W.Frag) (H : Hp), PlV K H u) ∧ (inV u 1 h = false ∨ ∃ n, u = .int n ∧ 2 * n ≤ h)
theorem st_end {f c Pt CS CH CV : Addr} {A : Around} {outer : List Env} {s : Shared} {H0 : Hp} {E : XK} {q : Str} (hr : Room 12 (A.deeper (envOfC "law" (defScope sLaw) s.heap.objs.size f (.ref c)))) (hq : (cxL P w K mg base f c A outer s H0 E).env.qual ++ "<lambda>" = q)
    (TB : TabB base mg c Pt) (T : Bt mg) (hE : mg "HueError" = some (.ref CS)) (EH : ErrC K mg "BadHues" CH CS) (EV : ErrC K mg "BadVotes" CV CS)
    (DE : DfE P w K mg base 3 "even_votes" ["hues", "need"] ["need", "hues"] (spEven K CH CV)) (TX : Tx K mg "_law_caught" sCaught ["action"]) :
    ∃ t, PSs (cxL P w K mg base f c A outer s H0 E) (bLaw.drop 9) t ∧
      ∀ (H : Hp) (D : Ends) (x0 x1 x2 x3 x4 x5 x6 x7 x8 x12 : Option V) (od lw : V) (h : Int), Tabs [(Pt, q)] H → (∀ H, PlV K H od) → inV od 1 5 = false → 1 ≤ h → h ≤ 5 → LowOk h lw → (∀ H', D.rt (.bl true) H') →
        t D [x0, x1, x2, x3, x4, x5, x6, x7, x8, some (.int h), some lw, some od, x12] H := by
  subst hq
  obtain ⟨fE, fdE, GE, gE, kE, bE, kbE⟩ := DE
  have nd := scLaw.nd
  let qn := (cxL P w K mg base f c A outer s H0 E).env.qual ++ "<lambda>"
  have inT : (Pt, qn) ∈ [(Pt, qn)] := List.mem_singleton.mpr rfl
  have onT : ∀ p ∈ [(Pt, qn)], p.1 = Pt → p.2 = qn := fun p hp _ => by
    rw [List.mem_singleton.mp hp]
  have lam : ∀ {ar : Arguments} {ex : Expr} {sp : Scope} {pos : Pos}, LamS (defScope sLaw) sp → defaultsOf ar (cxL P w K mg base f c A outer s H0 E).env = ([], []) → PE (cxL P w K mg base f c A outer s H0 E) (.Lambda ar ex sp pos) (tLamV (cxL P w K mg base f c A outer s H0 E) [(Pt, qn)] ar ex sp) :=
    fun L hd => pe_lam TB rfl inT onT L hd
  refine ⟨_, pss_cons (ps_if (pt_not (pt_val (pe_callB call_isCau (by rfl) T.isinstance (by decide +kernel) (pa_cons (pe_caught (k := 4) TX hE (hr.mono (by decide)) rfl (lam (lamS_by (by decide +kernel)) rfl)) (pa_cons (pe_glob (v := .ref CH) rfl EH.g rfl) pa_nil)))))
          (pss_one (ps_ret pe_bl)) pss_nil)
        (pss_one (ps_ret (pe_callB call_isCau (by rfl) T.isinstance (by decide +kernel) (pa_cons (pe_caught (k := 4) TX hE (hr.mono (by decide)) rfl (lam (lamS_by (by decide +kernel)) rfl)) (pa_cons (pe_glob (v := .ref CV) rfl EV.g rfl) pa_nil))))), fun H D x0 x1 x2 x3 x4 x5 x6 x7 x8 x12 od lw h tab pod nod h1 h5 low fin => ?_⟩
  obtain ⟨plo, bad⟩ := low
  have hin : inV (.int h) 1 5 = true := decide_eq_true ⟨h1, h5⟩
  refine ⟨tab, fun f1 c1 H1 x1 t1 nf1 hf1 hc1 => ?_⟩
  refine ⟨⟨_, _, _, fun E => tCall (spEven K CH CV) [] E (tCons (tVar 11) (tCons (tVar 10) tNil)), (show LamS (defScope sLaw) _ from lamS_by (by decide +kernel)), by exact fun _ _ _ => rfl, by exact fun A outer s H E f c' hr => lam_call GE (hr.mono (by decide)) rfl gE kE bE (pa_cons (pv 11) (pa_cons (pv 10) pa_nil)) (by decide) rfl rfl⟩, f1, c1, rfl, ⟨hf1, hc1⟩, ?_⟩
  refine ⟨od, rfl, lw, rfl, od, lw, rfl, pod _, plo _ _, fun _ => ⟨EH.hu, rfl, fun a1 na => ?_⟩, fun h' e _ _ => ?_⟩
  · refine ⟨a1, CH, CH, true, rfl, upd_same, EH.ce, kit_self, true, rfl, iteF ?_⟩
    refine ⟨t1.ext (same_new na), fun f2 c2 H2 x2 t2 nf2 hf2 hc2 => ?_⟩
    refine ⟨⟨_, _, _, fun E => tCall (spEven K CH CV) [] E (tCons (tVar 9) (tCons (tVar 10) tNil)), (show LamS (defScope sLaw) _ from lamS_by (by decide +kernel)), by exact fun _ _ _ => rfl, by exact fun A outer s H E f c' hr => lam_call GE (hr.mono (by decide)) rfl gE kE bE (pa_cons (pv 9) (pa_cons (pv 10) pa_nil)) (by decide) rfl rfl⟩, f2, c2, rfl, ⟨hf2, hc2⟩, ?_⟩
    refine ⟨.int h, rfl, lw, rfl, .int h, lw, rfl, .int _, plo _ _, (fun z => by rw [hin] at z; cases z), fun h' e _ _ => ?_⟩
    cases e
    refine ⟨fun _ => ⟨EV.hu, rfl, fun a2 na2 => ?_⟩, fun n e1 n1 n2 n3 => ?_⟩
    · exact ⟨a2, CV, CV, true, rfl, upd_same, EV.ce, kit_self, fin _⟩
    · subst e1
      rcases bad with z | ⟨n', e2, z⟩
      · have z2 : inV (.int n) 1 h = true := decide_eq_true ⟨n1, n2⟩
        rw [z2] at z
        cases z
      · cases e2
        omega
  · subst e
    have z2 : inV (.int h') 1 5 = true := decide_eq_true ⟨by assumption, by assumption⟩
    rw [z2] at nod
    cases nod
end
end Hue
namespace Hue
open PySem PySem.Spec PyProof.Rows L2 LamX
section
variable {P : Program} {w : World} {K : PySem.W.Frag} {mg : Str → Option Value} {base : Heap}
theorem ok_law {f c Pt CS CW CH CV : Addr} {oc : Value} {od an : Option Addr} {osl : Array (Option Value)} {kV doc pm ct : Value}
    (lk : K.lookup f = some ⟨oc, od, .func (PySem.W.fnOf "law" "law" (defArgs sLaw) (defBody sLaw) (defScope sLaw) .none kV doc pm an (.ref c) ct), osl⟩) (hcd : PySem.W.codeIn K (.ref c) "law" = true)
    (TB : TabB base mg c Pt) (T : Bt mg) (hE : mg "HueError" = some (.ref CS)) (EW : ErrC K mg "BadWish" CW CS) (EH : ErrC K mg "BadHues" CH CS) (EV : ErrC K mg "BadVotes" CV CS)
    (D0 : Df P w K mg base 1 "_law_begun" ["script"] (spBegun K)) (D2 : Df P w K mg base 2 "_law_draw" ["state", "room"] spDraw) (D3 : Df P w K mg base 3 "_law_pick" ["state", "some"] (spPick K))
    (DP : DfE P w K mg base 3 "plan" ["told", "whole"] ["whole", "told"] (spPlan K CW)) (DE : DfE P w K mg base 3 "even_votes" ["hues", "need"] ["need", "hues"] (spEven K CH CV))
    (DL : Df P w K mg base 1 "_law_least_plan" ["told", "whole"] spLeast) (DV : Df P w K mg base 3 "is_votes" ["value"] (spIsVotes K)) (TX : Tx K mg "_law_caught" sCaught ["action"]) :
    FnOk P w K mg base CX0 13 f (PySem.W.fnOf "law" "law" (defArgs sLaw) (defBody sLaw) (defScope sLaw) .none kV doc pm an (.ref c) ct) ["script"] (spLaw K Pt) := by
  obtain ⟨f0, fd0, G0, g0, k0, b0⟩ := D0
  obtain ⟨f2, fd2, G2, g2, k2, b2⟩ := D2
  obtain ⟨f3, fd3, G3, g3, k3, b3⟩ := D3
  have DP' := DP
  have DE' := DE
  obtain ⟨fP, fdP, GP, gP, kP, bP, kbP⟩ := DP'
  obtain ⟨fE, fdE, GE, gE, kE, bE, kbE⟩ := DE'
  refine fn_of lk hcd scLaw (fun vs H Q E h => ?_) (fun A outer s H vs Q E hr h => ?_)
  · obtain ⟨a, ns, rfl, _⟩ := h
    rfl
  · obtain ⟨a, ns, rfl, hS, hl, hP, q⟩ := h
    have nd := scLaw.nd
    obtain ⟨tp, hp, qp⟩ := st_plans (f := f) (cdv := .ref c) (A := A) (outer := outer) (s := s) (H0 := H) (E := E) hr T DP DL
    obtain ⟨te, he, qe⟩ := st_evens (f := f) (cdv := .ref c) (A := A) (outer := outer) (s := s) (H0 := H) (E := E) hr T DE DV
    obtain ⟨tn, hend, qend⟩ := st_end (Pt := Pt) (f := f) (A := A) (outer := outer) (s := s) (H0 := H) (E := E) hr rfl TB T hE EH EV DE TX
    have key : ∃ t, PSs (cxL P w K mg base f c A outer s H E) (defBody sLaw) t ∧ t { nx := fun _ H' => Q .non H', rt := Q } (L2.start N44 [.ref a]) H := by
      let qn := (cxL P w K mg base f c A outer s H E).env.qual ++ "<lambda>"
      have inT : (Pt, qn) ∈ [(Pt, qn)] := List.mem_singleton.mpr rfl
      have onT : ∀ p ∈ [(Pt, qn)], p.1 = Pt → p.2 = qn := fun p hp _ => by
        rw [List.mem_singleton.mp hp]
      have lam : ∀ {ar : Arguments} {ex : Expr} {sp : Scope} {pos : Pos}, LamS (defScope sLaw) sp → defaultsOf ar (cxL P w K mg base f c A outer s H E).env = ([], []) → PE (cxL P w K mg base f c A outer s H E) (.Lambda ar ex sp pos) (tLamV (cxL P w K mg base f c A outer s H E) [(Pt, qn)] ar ex sp) :=
        fun L hd => pe_lam TB rfl inT onT L hd
      refine ⟨_, pss_cons (ps_set (i := 1) nd rfl (.inl rfl) (pe_call G0 (hr.mono (by decide)) rfl g0 k0 b0 .nil pass0 (pa_cons (pv 0) pa_nil)))
        (pss_cons hp (pss_cons he
        (pss_cons (ps_set (i := 8) nd rfl (.inr rfl) (pe_call G3 (hr.mono (by decide)) rfl g3 k3 b3 .nil pass0 (pa_cons (pv 1) (pa_cons (pe_lst (pa_cons (pe_un un_neg pe_int) (pa_cons pe_int (pa_cons pe_bl (pa_cons pe_non (pa_cons pe_str (pa_cons (pe_tup (pa_cons pe_int pa_nil)) (pa_cons (pe_lst (pa_cons pe_int pa_nil)) (pa_cons (pe_op op_pow pe_int pe_int) pa_nil))))))))) pa_nil))))
        (pss_cons (ps_for PassesOwn.never rfl (pi_list (pe_lst (pa_cons (lam (lamS_by (by decide +kernel)) rfl) (pa_cons (lam (lamS_by (by decide +kernel)) rfl) (pa_cons (lam (lamS_by (by decide +kernel)) rfl) pa_nil))))) (pg_name (i := 7) nd rfl (.inl rfl))
          (pss_one (ps_if (pt_not (pt_val (pe_callB call_isCau (by rfl) T.isinstance (by decide +kernel) (pa_cons (pe_caught (k := 4) TX hE (hr.mono (by decide)) rfl (pv 7)) (pa_cons (pe_glob (v := .ref CW) rfl EW.g rfl) pa_nil)))))
            (pss_one (ps_ret pe_bl)) pss_nil)))
        (pss_cons (ps_set (i := 11) nd rfl (.inr rfl) (pe_call G3 (hr.mono (by decide)) rfl g3 k3 b3 .nil pass0 (pa_cons (pv 1) (pa_cons (pe_lst (pa_cons pe_int (pa_cons pe_int (pa_cons pe_bl (pa_cons pe_non (pa_cons pe_str (pa_cons (pe_un un_neg pe_int) pa_nil))))))) pa_nil))))
        (pss_cons (ps_set (i := 9) nd rfl (.inr rfl) (pe_op op_add pe_int (pe_call G2 (hr.mono (by decide)) rfl g2 k2 b2 .nil pass0 (pa_cons (pv 1) (pa_cons pe_int pa_nil)))))
        (pss_cons (ps_set (i := 10) nd rfl (.inr rfl) (pe_call G3 (hr.mono (by decide)) rfl g3 k3 b3 .nil pass0 (pa_cons (pv 1) (pa_cons (pe_lst (pa_cons (pe_op op_fdivN (pv 9) pe_int) (pa_cons (pe_op op_add (pv 9) pe_int) (pa_cons pe_non (pa_cons pe_bl (pa_cons pe_int (pa_cons (pe_un un_neg pe_int) pa_nil))))))) pa_nil))))
        (pss_cons (ps_if (PW.pt (pw_and (pt_cmpR op_isTrue (pv 10) pe_bl (nomark _)) (pw_and1 (pt_cmpR op_eq (pv 9) pe_int (nomark _)))))
          (pss_one (ps_set (i := 10) nd rfl (.inr rfl) pe_int)) pss_nil)
        hend)))))))), ?_⟩
      have PtK : ∀ {H1 H2 : Hp}, Same H1 H2 → Tabs [(Pt, qn)] H1 → Tabs [(Pt, qn)] H2 := fun s t => t.ext s
      refine ⟨_, rfl, a, ns, rfl, hS, hl, fun st g cc H1 sm S1 nst ng => ?_⟩
      refine qp _ _ _ _ _ _ _ _ _ _ _ _ _ _ _ (fun y2 y3 H2 s2 => ?_)
      refine qe _ _ _ _ _ _ _ _ _ _ _ _ _ _ _ (fun y4 y5 y6 y9 y12 H3 s3 => ?_)
      have tab3 : Tabs [(Pt, qn)] H3 := fun p hp => by
        rw [List.mem_singleton.mp hp]
        exact TabS.nil (s3 _ _ (s2 _ _ (sm _ _ hP)))
      have S3 : StAt H3 st g cc 0 := (S1.same s2).same s3
      -- bad
      refine ⟨_, rfl, _, rfl, show 1 ≤ sizeLine by decide, fun p1 hp1 => ⟨show 1 ≤ sizeLine by decide, fun p2 hp2 => ⟨_, _, rfl, rfl, ⟨by decide, by decide, by decide⟩, show 8 ≤ sizeLine by decide, fun L hL => ?_⟩⟩⟩
      dsimp only [tNil]
      have sL : Same H3 (upd (upd (upd H3 p1 (.tup [.int 1])) p2 (.lst [.int 2])) L (.lst [.int (-1), .int 5, .bl true, .non, .str "1", .ref p1, .ref p2, .int (10 ^ (30 : Int).toNat)])) := ((same_new hp1).trans (same_new hp2)).trans (same_new hL)
      have SL := S3.same sL
      obtain ⟨nL1, nL2⟩ := ((S3.same (same_new hp1)).same (same_new hp2)).new hL
      refine ⟨st, g, cc, L, 0, _, rfl, SL, by decide, .inl (.inl upd_same), nL1, nL2, show 0 < 8 by decide, show 8 < 2 ^ 20 by decide, fun i0 v t4 H4 hv ht4 S4 k4 => ?_⟩
      have n12 : p1 ≠ p2 := fun z => by
        rw [← z, upd_same] at hp2
        cases hp2
      have n1L : p1 ≠ L := ne_of_none (by rw [upd_ne n12]; exact upd_same) hL
      have n2L : p2 ≠ L := ne_of_none upd_same hL
      obtain ⟨m11, m12⟩ := S3.new hp1
      obtain ⟨m21, m22⟩ := (S3.same (same_new hp1)).new hp2
      have e1 : H4 p1 = some (.tup [.int 1]) := k4 _ _ m11 m12 (by rw [upd_ne n1L, upd_ne n12]; exact upd_same)
      have e2 : H4 p2 = some (.lst [.int 2]) := k4 _ _ m21 m22 (by rw [upd_ne n2L]; exact upd_same)
      have hbad : PlV K H4 v ∧ inV v 0 4 = false := by
        have hm := List.mem_of_getElem? hv
        simp only [List.mem_cons, List.not_mem_nil, or_false] at hm
        rcases hm with rfl | rfl | rfl | rfl | rfl | rfl | rfl | rfl
        · exact ⟨.int _, rfl⟩
        · exact ⟨.int _, rfl⟩
        · exact ⟨.bl _, rfl⟩
        · exact ⟨.non, rfl⟩
        · exact ⟨.str _, rfl⟩
        · exact ⟨.tup e1, rfl⟩
        · exact ⟨.lst e2, rfl⟩
        · exact ⟨.int _, by decide⟩
      have tab4 : Tabs [(Pt, qn)] H4 := Tabs.kp SL k4 (PtK sL tab3) fun p hp q hq => by rw [List.mem_singleton.mp hp, List.mem_singleton.mp hq]
      -- the three tasks
      refine ⟨tab4, fun f1 c1 H5 x5 t5 nf1 hf1 hc1 => ⟨t5, fun f2 c2 H6 x6 t6 nf2 hf2 hc2 => ⟨t6, fun f3 c3 H7 x7 t7 nf3 hf3 hc3 => ⟨show 3 ≤ sizeLine by decide, fun L2 hL2 => ?_⟩⟩⟩⟩
      have x48 : ExtN H4 (upd H7 L2 (.lst [.ref f1, .ref f2, .ref f3])) := ((x5.trans x6).trans x7).trans (extN_same (same_new hL2))
      have hf1' : (upd H7 L2 (.lst [.ref f1, .ref f2, .ref f3])) f1 = _ := extN_lamO ((x6.trans x7).trans (extN_same (same_new hL2))) hf1
      have hc1' := extN_codeO ((x6.trans x7).trans (extN_same (same_new (o := .lst [.ref f1, .ref f2, .ref f3]) hL2))) hc1
      have hf2' : (upd H7 L2 (.lst [.ref f1, .ref f2, .ref f3])) f2 = _ := extN_lamO (x7.trans (extN_same (same_new hL2))) hf2
      have hc2' := extN_codeO (x7.trans (extN_same (same_new (o := .lst [.ref f1, .ref f2, .ref f3]) hL2))) hc2
      have hf3' : (upd H7 L2 (.lst [.ref f1, .ref f2, .ref f3])) f3 = _ := extN_lamO (extN_same (same_new hL2)) hf3
      have hc3' := extN_codeO (extN_same (same_new (o := .lst [.ref f1, .ref f2, .ref f3]) hL2)) hc3
      have S8 := S4.extN x48
      have t8 : Tabs [(Pt, qn)] (upd H7 L2 (.lst [.ref f1, .ref f2, .ref f3])) := PtK (same_new hL2) t7
      have b8 : PlV K (upd H7 L2 (.lst [.ref f1, .ref f2, .ref f3])) v := hbad.1.extN x48
      have hL8 : (upd H7 L2 (.lst [.ref f1, .ref f2, .ref f3])) L2 = some (.lst [.ref f1, .ref f2, .ref f3]) := upd_same
      generalize upd H7 L2 (.lst [.ref f1, .ref f2, .ref f3]) = H8 at hf1' hc1' hf2' hc2' hf3' hc3' S8 t8 b8 hL8 ⊢
      refine ⟨L2, rfl, ⟨_, .inl (.inl hL8)⟩, ?_⟩
      refine for_list (K := K) (xs := [.ref f1, .ref f2, .ref f3]) (fun i σ H' => (∃ y7, σ = [some (.ref a), some (.ref st), y2, y3, y4, y5, y6, y7, some v, y9, none, none, y12]) ∧ Same H8 H') ⟨⟨_, rfl⟩, fun _ _ e => e⟩ (fun i σ H' _ hh => .inl (.inl (hh.2 _ _ hL8))) (fun i x σ H' hx hh => ?_) (fun σ H' hh => ?_)
      · obtain ⟨⟨y7, rfl⟩, sm8⟩ := hh
        refine ⟨_, rfl, ?_⟩
        have bad9 : PlV K H' v := b8.extN (extN_same sm8)
        have noP : ∀ {a1 : Int}, v = .int a1 → 0 ≤ a1 → a1 ≤ 4 → False := fun e h1 h2 => by
          have z := hbad.2
          rw [e] at z
          have z2 : inV (.int _) 0 4 = true := decide_eq_true ⟨h1, h2⟩
          rw [z2] at z
          cases z
        have nBad : ∀ u, ¬ (inV v 0 4 = true ∧ inV u 0 4 = true) := fun u z => by
          rw [hbad.2] at z
          cases z.1
        match i, hx with
        | 0, hx =>
          cases hx
          refine ⟨⟨_, _, _, fun E => tCall (spPlan K CW) [] E (tCons (tVar 8) (tCons (tC (.int 0)) tNil)), (show LamS (defScope sLaw) _ from lamS_by (by decide +kernel)), by exact fun _ _ _ => rfl, by exact fun A outer s H E f c' hr => lam_call GP (hr.mono (by decide)) rfl gP kP bP (pa_cons (pv 8) (pa_cons pe_int pa_nil)) (by decide) rfl rfl⟩, f1, c1, rfl, ⟨sm8 _ _ hf1', sm8 _ _ hc1'⟩, ?_⟩
          refine ⟨v, rfl, v, .int 0, rfl, bad9, .int _, fun _ => ⟨EW.hu, rfl, fun a1 na => ?_⟩, fun a1 _ e _ h1 h2 => (noP e h1 h2).elim⟩
          refine ⟨a1, CW, CW, true, rfl, upd_same, EW.ce, kit_self, true, rfl, ?_⟩
          exact iteF ⟨⟨_, rfl⟩, sm8.trans (same_new na)⟩
        | 1, hx =>
          cases hx
          refine ⟨⟨_, _, _, fun E => tCall (spPlan K CW) [] E (tCons (tC (.int 0)) (tCons (tVar 8) tNil)), (show LamS (defScope sLaw) _ from lamS_by (by decide +kernel)), by exact fun _ _ _ => rfl, by exact fun A outer s H E f c' hr => lam_call GP (hr.mono (by decide)) rfl gP kP bP (pa_cons pe_int (pa_cons (pv 8) pa_nil)) (by decide) rfl rfl⟩, f2, c2, rfl, ⟨sm8 _ _ hf2', sm8 _ _ hc2'⟩, ?_⟩
          refine ⟨v, rfl, .int 0, v, rfl, .int _, bad9, fun _ => ⟨EW.hu, rfl, fun a1 na => ?_⟩, fun _ b1 _ e _ _ h1 h2 => (noP e h1 h2).elim⟩
          refine ⟨a1, CW, CW, true, rfl, upd_same, EW.ce, kit_self, true, rfl, ?_⟩
          exact iteF ⟨⟨_, rfl⟩, sm8.trans (same_new na)⟩
        | 2, hx =>
          cases hx
          refine ⟨⟨_, _, _, fun E => tCall (spPlan K CW) [] E (tCons (tVar 8) (tCons (tC .non) tNil)), (show LamS (defScope sLaw) _ from lamS_by (by decide +kernel)), by exact fun _ _ _ => rfl, by exact fun A outer s H E f c' hr => lam_call GP (hr.mono (by decide)) rfl gP kP bP (pa_cons (pv 8) (pa_cons pe_non pa_nil)) (by decide) rfl rfl⟩, f3, c3, rfl, ⟨sm8 _ _ hf3', sm8 _ _ hc3'⟩, ?_⟩
          refine ⟨v, rfl, v, .non, rfl, bad9, .non, fun _ => ⟨EW.hu, rfl, fun a1 na => ?_⟩, fun a1 _ e _ h1 h2 => (noP e h1 h2).elim⟩
          refine ⟨a1, CW, CW, true, rfl, upd_same, EW.ce, kit_self, true, rfl, ?_⟩
          exact iteF ⟨⟨_, rfl⟩, sm8.trans (same_new na)⟩
      · obtain ⟨⟨y7, rfl⟩, sm8⟩ := hh
        have S9 := S8.same sm8
        have t9 := PtK sm8 t8
        -- odd
        refine ⟨_, rfl, _, rfl, show 6 ≤ sizeLine by decide, fun L3 hL3 => ?_⟩
        dsimp only [tNil]
        obtain ⟨nM1, nM2⟩ := S9.new hL3
        refine ⟨st, g, cc, L3, _, _, rfl, S9.same (same_new hL3), by omega, .inl (.inl upd_same), nM1, nM2, show 0 < 6 by decide, show 6 < 2 ^ 20 by decide, fun i1 od t10 H10 hod ht10 S10 k10 => ?_⟩
        have hodd : (∀ H, PlV K H od) ∧ inV od 1 5 = false := by
          have hm := List.mem_of_getElem? hod
          simp only [List.mem_cons, List.not_mem_nil, or_false] at hm
          rcases hm with rfl | rfl | rfl | rfl | rfl | rfl
          · exact ⟨fun _ => .int _, rfl⟩
          · exact ⟨fun _ => .int _, rfl⟩
          · exact ⟨fun _ => .bl _, rfl⟩
          · exact ⟨fun _ => .non, rfl⟩
          · exact ⟨fun _ => .str _, rfl⟩
          · exact ⟨fun _ => .int _, rfl⟩
        have t10 : Tabs [(Pt, qn)] H10 := Tabs.kp (S9.same (same_new hL3)) k10 (PtK (same_new hL3) t9) fun p hp q hq => by rw [List.mem_singleton.mp hp, List.mem_singleton.mp hq]
        -- hues
        refine ⟨_, rfl, ?_⟩
        dsimp only [tNil]
        refine ⟨st, g, cc, _, 5, rfl, S10, by omega, by decide, by decide, fun n t11 H11 n0 n5 ht11 S11 k11 => ⟨_, _, rfl, rfl, ?_⟩⟩
        have t11' : Tabs [(Pt, qn)] H11 := Tabs.kp S10 k11 t10 fun p hp q hq => by rw [List.mem_singleton.mp hp, List.mem_singleton.mp hq]
        have hb : (1 : Int) ≤ 1 + n ∧ 1 + n ≤ 5 := by omega
        -- low
        refine ⟨_, rfl, _, rfl, _, _, rfl, rfl, ⟨by decide, by decide⟩, _, rfl, _, _, rfl, rfl, _, rfl, show 6 ≤ sizeLine by decide, fun L4 hL4 => ?_⟩
        dsimp only [tNil]
        obtain ⟨nN1, nN2⟩ := S11.new hL4
        refine ⟨st, g, cc, L4, _, _, rfl, S11.same (same_new hL4), by omega, .inl (.inl upd_same), nN1, nN2, show 0 < 6 by decide, show 6 < 2 ^ 20 by decide, fun i2 lw t12 H12 hlw ht12 S12 k12 => ?_⟩
        have hlow : LowOk (1 + n) lw := by
          have hm := List.mem_of_getElem? hlw
          simp only [List.mem_cons, List.not_mem_nil, or_false] at hm
          have big : inV (.int (1 + n + 1)) 1 (1 + n) = false := decide_eq_false fun z => by omega
          have fd2 : (1 + n).fdiv 2 = (1 + n) / 2 := Int.fdiv_eq_ediv_of_nonneg _ (by decide)
          rcases hm with rfl | rfl | rfl | rfl | rfl | rfl
          · exact ⟨fun _ _ => .int _, .inr ⟨_, rfl, by rw [fd2]; omega⟩⟩
          · exact ⟨fun _ _ => .int _, .inl big⟩
          · exact ⟨fun _ _ => .non, .inl rfl⟩
          · exact ⟨fun _ _ => .bl _, .inl rfl⟩
          · exact ⟨fun _ _ => .int _, .inl rfl⟩
          · exact ⟨fun _ _ => .int _, .inl rfl⟩
        have pB : plB lw = true := by
          have hm := List.mem_of_getElem? hlw
          simp only [List.mem_cons, List.not_mem_nil, or_false] at hm
          rcases hm with rfl | rfl | rfl | rfl | rfl | rfl <;> rfl
        have zero : LowOk (1 + n) (.int 0) := ⟨fun _ _ => .int _, .inl rfl⟩
        have t12' : Tabs [(Pt, qn)] H12 := Tabs.kp (S11.same (same_new hL4)) k12 (PtK (same_new hL4) t11') fun p hp q hq => by rw [List.mem_singleton.mp hp, List.mem_singleton.mp hq]
        refine ⟨_, rfl, pB, rfl, _, rfl, ?_⟩
        cases isT lw with
        | true =>
          refine iteT ⟨_, rfl, rfl, _, rfl, ite2 (fun _ => ?_) (fun _ => ?_)⟩
          · exact qend _ _ _ _ _ _ _ _ _ _ _ _ _ _ _ t12' hodd.1 hodd.2 hb.1 hb.2 zero q
          · exact qend _ _ _ _ _ _ _ _ _ _ _ _ _ _ _ t12' hodd.1 hodd.2 hb.1 hb.2 hlow q
        | false => exact iteF (qend _ _ _ _ _ _ _ _ _ _ _ _ _ _ _ t12' hodd.1 hodd.2 hb.1 hb.2 hlow q)
    obtain ⟨t, ht1, ht2⟩ := key
    exact ⟨t, ht1.nox, ht2⟩
end
end Hue
namespace Hue
open PySem PySem.Spec PyProof.Rows L2 LamX
section
variable {K : PySem.W.Frag} {h : Heap} {mg : Str → Option Value}
theorem IntG.of (X : K.In h) (G : h.Ns mainGlobals mg) {x : Str} {n : Int} {t : Nat} (e : PySem.W.nsIn K mainGlobals x = some (some (.int n t))) : IntG mg x n := ⟨t, PySem.W.mg_of X G e⟩
theorem Tx.of (X : K.In h) (G : h.Ns mainGlobals mg) {x : Str} {st : Stmt} {ps : List Str} {f : Addr} {od an : Option Addr} {oc kV dc pm cd ct : Value} {sl : Array (Option Value)}
    (b : ∀ (kV dc pm : Value) (an : Option Addr) (cd ct : Value) (us : List Value), us.length = ps.length → bindArgs (PySem.W.fnOf x x (defArgs st) (defBody st) (defScope st) .none kV dc pm an cd ct) ⟨us, []⟩ = pure (ps.zip us))
    (a : PySem.W.nsIn K mainGlobals x = some (some (.ref f))) (l : K.lookup f = some ⟨oc, od, .func (PySem.W.fnOf x x (defArgs st) (defBody st) (defScope st) .none kV dc pm an cd ct), sl⟩) (c : PySem.W.codeIn K cd x = true) (k : PySem.W.keepIn K (.ref f) = true) : Tx K mg x st ps := by
  have F := fun_mk (st := st) l c k
  exact ⟨f, _, F, PySem.W.mg_of X G a, F.binds (ps := ps) b⟩
theorem ErrC.of (X : K.In h) (G : h.Ns mainGlobals mg) {x : Str} {C CS : Addr} (e : PySem.W.nsIn K mainGlobals x = some (some (.ref C))) (ex : PySem.W.excIn K C veMro "ValueError.__new__" = true) (kp : PySem.W.keepIn K (.ref C) = true) (sb : PySem.W.subIn K (.ref C) (.type "BaseException") = some true)
    (ty : PySem.W.typeIn K (.ref C) = some (.type "type")) (hg : PySem.W.findIn K (.ref C) "__getattribute__" = some (some (.builtin "BaseException.__getattribute__"))) (hk : PySem.W.findIn K (.ref C) "__getattr__" = some none) (hd : PySem.W.hasDictIn K C = true)
    (ha : PySem.W.findIn K (.ref C) "__class__" = some (some (.builtin "object.__class__"))) (hn : PySem.W.specialIn K (.builtin "object.__class__") "__get__" = some (some (.builtin "getset_descriptor.__get__"))) (ht : PySem.W.takesIn K (.builtin "object.__class__") = some true)
    (hm : PySem.W.mroIn K C (.type "object") = some true) (s1 : PySem.W.subIn K (.ref CS) (.type "BaseException") = some true) (s2 : PySem.W.hasDictIn K CS = true) (s3 : PySem.W.typeIn K (.ref CS) = some (.type "type")) (s4 : PySem.W.subIn K (.ref C) (.ref CS) = some true) : ErrC K mg x C CS :=
  ⟨PySem.W.mg_of X G e, ex, kp, sb, ty, ⟨hg, hk, sb, hd, ha, hn, ht, hm⟩, PySem.W.exm_ref s1 s2 s3 s4⟩
end
structure Txs (K : PySem.W.Frag) (mg : Str → Option Value) : Prop where
  from_ : Tx K mg "is_from" sIsFrom ["value", "low"]
  within : Tx K mg "is_within" sIsWithin ["value", "low", "high"]
  votes : Tx K mg "is_votes" sIsVotes ["value"]
  plan : Tx K mg "plan" sPlan ["told", "whole"]
  even : Tx K mg "even_votes" sEven ["hues", "need"]
  begun : Tx K mg "_law_begun" sBegun ["script"]
  mixed : Tx K mg "_law_mixed" sMixed ["state"]
  draw : Tx K mg "_law_draw" sDraw ["state", "room"]
  pick : Tx K mg "_law_pick" sPick ["state", "some"]
  caught : Tx K mg "_law_caught" sCaught ["action"]
  least : Tx K mg "_law_least_plan" sLeast ["told", "whole"]
theorem fin {l : PySem.W.OpenLaw} {w : World} {K : PySem.W.Frag} {h : Heap} {mg : Str → Option Value} {fa fL c Pt CS CW CH CV : Addr} {odL anL : Option Addr} {slL : Array (Option Value)} {ocL kVL dcL pmL ctL : Value} (X : K.In h) (G : h.Ns mainGlobals mg) (hfa : mg "law" = some (.ref fa)) (T : Bt mg)
    (n5 : IntG mg "MOST_HUES" 5) (n4 : IntG mg "GREATEST_WISH" 4) (XT : Txs K mg)
    (gS : PySem.W.nsIn K mainGlobals "HueError" = some (some (.ref CS)))
    (EW : ErrC K mg "BadWish" CW CS) (EH : ErrC K mg "BadHues" CH CS) (EV : ErrC K mg "BadVotes" CV CS)
    (aLaw : PySem.W.nsIn K mainGlobals "law" = some (some (.ref fL)))
    (lLaw : K.lookup fL = some ⟨ocL, odL, .func (PySem.W.fnOf "law" "law" (defArgs sLaw) (defBody sLaw) (defScope sLaw) .none kVL dcL pmL anL (.ref c) ctL), slL⟩)
    (cLaw : PySem.W.codeIn K (.ref c) "law" = true)
    (hd : PySem.W.codeHdIn K c Pt = true) (nT : K.lookup Pt = none) (hT : h.get? Pt = some { cls := .none, data := .fields #[] }) :
    LawAtS l w K CX0 13 63 "script" mg fa h := by
  have e := hfa.symm.trans (PySem.W.mg_of X G aLaw)
  cases e
  have one : ∀ {p : Addr × Addr}, p ∈ [(c, Pt)] → p = (c, Pt) := fun hp => List.mem_singleton.mp hp
  refine ⟨PySem.W.fnOf "law" "law" (defArgs sLaw) (defBody sLaw) (defScope sLaw) .none kVL dcL pmL anL (.ref c) ctL, [(c, Pt)], spLaw K Pt, fun p hp => ?_, fun p hp => ?_, fun p hp => ?_, fun s v => .of_eq rfl, fun H a ns hl _ hH hS => ?_, fun base _ _ hTB => ?_⟩
  · rw [one hp]
    exact hT
  · rw [one hp]
    exact nT
  · rw [one hp]
    exact PySem.W.codeHd_of_K X hd
  · exact ⟨a, ns, rfl, hS, hl, hH _ (List.mem_singleton.mpr rfl), fun _ => rfl⟩
  · have TB := hTB _ (List.mem_singleton.mpr rfl)
    have dF : Df l.prog w K mg base 1 "is_from" ["value", "low"] (spFrom K) := df_from XT.from_ T
    have dW := df_within XT.within dF
    have d1 : Df l.prog w K mg base 1 "_law_mixed" ["state"] spMixed := df_mixed XT.mixed T
    have d2 := df_draw XT.draw d1 T
    have d3 : Df l.prog w K mg base 3 "_law_pick" ["state", "some"] (spPick K) := df_pick XT.pick d2 T
    exact ok_law lLaw cLaw TB T (PySem.W.mg_of X G gS) EW EH EV (df_begun XT.begun T) d2 d3 (df_plan XT.plan T EW n5 n4 dW) (df_even XT.even T EH EV n5 dW) (df_least XT.least T) (XT.votes.df fun f fd F => ok_isVotes F T n5 dW) XT.caught
end Hue
open PySem.W PyProof.Rows PySem
set_option maxRecDepth 100000 in
set_option maxHeartbeats 0 in
theorem PySem.Challenge.cw_hueward_k44_plans_are_the_least_holds : PySem.Challenge.rw_hueward_k44_plans_are_the_least.Holds := by
  w_on; o_law; k_head; (case hw => w_witness2)
  k_fill
  refine LamX.walk_ofTs (n := 63) (k := 13) (x := "script") (CX := fun _ => L2.CX0) rfl (by decide) rfl ⟨rfl, by decide, by decide⟩ (fun w h Y => km_in_of Y) ?F (fun _ _ _ _ _ z => z)
  case F =>
    intro w mg fa h Y KX G hmg
    have tabs := km_tabs_of Y
    refine' Hue.fin KX G hmg ?qT ?q5 ?q4 ?qX ?gS ?eW ?eH ?eV ?aL ?lL ?cL ?hd ?nT ?hT
    (case qT =>
      refine' ⟨?b0, ?b1, ?b2, ?b3, ?b4, ?b5, ?b6, ?b7, ?b8, ?b9, ?b10, ?b11, ?b12, ?b13, ?b14, ?b15, ?b16, ?b17, ?b18, ?b19⟩
      (case b0 => exact PySem.W.mg_none_of KX G (by k_is))
      (case b1 => exact PySem.W.mg_none_of KX G (by k_is))
      (case b2 => exact PySem.W.mg_none_of KX G (by k_is))
      (case b3 => exact PySem.W.mg_none_of KX G (by k_is))
      (case b4 => exact PySem.W.mg_none_of KX G (by k_is))
      (case b5 => exact PySem.W.mg_none_of KX G (by k_is))
      (case b6 => exact PySem.W.mg_none_of KX G (by k_is))
      (case b7 => exact PySem.W.mg_none_of KX G (by k_is))
      (case b8 => exact PySem.W.mg_none_of KX G (by k_is))
      (case b9 => exact PySem.W.mg_none_of KX G (by k_is))
      (case b10 => exact PySem.W.mg_none_of KX G (by k_is))
      (case b11 => exact PySem.W.mg_none_of KX G (by k_is))
      (case b12 => exact PySem.W.mg_none_of KX G (by k_is))
      (case b13 => exact PySem.W.mg_none_of KX G (by k_is))
      (case b14 => exact PySem.W.mg_none_of KX G (by k_is))
      (case b15 => exact PySem.W.mg_none_of KX G (by k_is))
      (case b16 => exact PySem.W.mg_none_of KX G (by k_is))
      (case b17 => exact PySem.W.mg_none_of KX G (by k_is))
      (case b18 => exact PySem.W.mg_none_of KX G (by k_is))
      (case b19 => exact PySem.W.mg_none_of KX G (by k_is)))
    (case q5 =>
      refine' Hue.IntG.of KX G ?z
      (case z => k_is))
    (case q4 =>
      refine' Hue.IntG.of KX G ?z
      (case z => k_is))
    (case qX =>
      refine' ⟨?x0, ?x1, ?x2, ?x3, ?x4, ?x5, ?x6, ?x7, ?x8, ?x9, ?x10⟩
      (case x0 =>
        refine' Hue.Tx.of KX G (fun _ _ _ _ _ _ us hl => match us, hl with | [_, _], _ => rfl) ?a ?l ?c ?k
        (case a => k_is)
        (case l => k_is)
        (case c => k_is)
        (case k => k_is))
      (case x1 =>
        refine' Hue.Tx.of KX G (fun _ _ _ _ _ _ us hl => match us, hl with | [_, _, _], _ => rfl) ?a ?l ?c ?k
        (case a => k_is)
        (case l => k_is)
        (case c => k_is)
        (case k => k_is))
      (case x2 =>
        refine' Hue.Tx.of KX G (fun _ _ _ _ _ _ us hl => match us, hl with | [_], _ => rfl) ?a ?l ?c ?k
        (case a => k_is)
        (case l => k_is)
        (case c => k_is)
        (case k => k_is))
      (case x3 =>
        refine' Hue.Tx.of KX G (fun _ _ _ _ _ _ us hl => match us, hl with | [_, _], _ => rfl) ?a ?l ?c ?k
        (case a => k_is)
        (case l => k_is)
        (case c => k_is)
        (case k => k_is))
      (case x4 =>
        refine' Hue.Tx.of KX G (fun _ _ _ _ _ _ us hl => match us, hl with | [_, _], _ => rfl) ?a ?l ?c ?k
        (case a => k_is)
        (case l => k_is)
        (case c => k_is)
        (case k => k_is))
      (case x5 =>
        refine' Hue.Tx.of KX G (fun _ _ _ _ _ _ us hl => match us, hl with | [_], _ => rfl) ?a ?l ?c ?k
        (case a => k_is)
        (case l => k_is)
        (case c => k_is)
        (case k => k_is))
      (case x6 =>
        refine' Hue.Tx.of KX G (fun _ _ _ _ _ _ us hl => match us, hl with | [_], _ => rfl) ?a ?l ?c ?k
        (case a => k_is)
        (case l => k_is)
        (case c => k_is)
        (case k => k_is))
      (case x7 =>
        refine' Hue.Tx.of KX G (fun _ _ _ _ _ _ us hl => match us, hl with | [_, _], _ => rfl) ?a ?l ?c ?k
        (case a => k_is)
        (case l => k_is)
        (case c => k_is)
        (case k => k_is))
      (case x8 =>
        refine' Hue.Tx.of KX G (fun _ _ _ _ _ _ us hl => match us, hl with | [_, _], _ => rfl) ?a ?l ?c ?k
        (case a => k_is)
        (case l => k_is)
        (case c => k_is)
        (case k => k_is))
      (case x9 =>
        refine' Hue.Tx.of KX G (fun _ _ _ _ _ _ us hl => match us, hl with | [_], _ => rfl) ?a ?l ?c ?k
        (case a => k_is)
        (case l => k_is)
        (case c => k_is)
        (case k => k_is))
      (case x10 =>
        refine' Hue.Tx.of KX G (fun _ _ _ _ _ _ us hl => match us, hl with | [_, _], _ => rfl) ?a ?l ?c ?k
        (case a => k_is)
        (case l => k_is)
        (case c => k_is)
        (case k => k_is)))
    (case gS => k_is)
    (case eW =>
      refine' Hue.ErrC.of KX G ?a ?b ?c ?d ?e ?f ?g ?h ?i ?j ?k ?l ?m ?n ?o ?pp
      (case a => k_is)
      (case b => k_exc)
      (case c => k_is)
      (case d => k_is)
      (case e => k_is)
      (case f => k_is)
      (case g => k_is)
      (case h => k_is)
      (case i => k_is)
      (case j => k_is)
      (case k => k_is)
      (case l => k_is)
      (case m => k_is)
      (case n => k_is)
      (case o => k_is)
      (case pp => k_is))
    (case eH =>
      refine' Hue.ErrC.of KX G ?a ?b ?c ?d ?e ?f ?g ?h ?i ?j ?k ?l ?m ?n ?o ?pp
      (case a => k_is)
      (case b => k_exc)
      (case c => k_is)
      (case d => k_is)
      (case e => k_is)
      (case f => k_is)
      (case g => k_is)
      (case h => k_is)
      (case i => k_is)
      (case j => k_is)
      (case k => k_is)
      (case l => k_is)
      (case m => k_is)
      (case n => k_is)
      (case o => k_is)
      (case pp => k_is))
    (case eV =>
      refine' Hue.ErrC.of KX G ?a ?b ?c ?d ?e ?f ?g ?h ?i ?j ?k ?l ?m ?n ?o ?pp
      (case a => k_is)
      (case b => k_exc)
      (case c => k_is)
      (case d => k_is)
      (case e => k_is)
      (case f => k_is)
      (case g => k_is)
      (case h => k_is)
      (case i => k_is)
      (case j => k_is)
      (case k => k_is)
      (case l => k_is)
      (case m => k_is)
      (case n => k_is)
      (case o => k_is)
      (case pp => k_is))
    (case aL => k_is)
    (case lL => k_is)
    (case cL => k_is)
    (case hT => exact tabs _ List.mem_cons_self)
    (case hd => kernel_rfl)
    (case nT => kernel_rfl)
