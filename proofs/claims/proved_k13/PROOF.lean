import PyProof.Rows.All
import PySem.Challenge.RW_hueward_k13_votes_of_pointers
import Wide.All
import OpenK.AllK
import Wide.FinOn
import HandS.ForMost
import HandS.Style
import HandS.Flow
import HandS.IsInst
import HandS.Property
import HandS.TupAny
import HandS.Defaults
import HandS.More
import HandS.Zip
import HandS.CallLocal
import KE.GoesMore
import KE.GoesEnum
import HandS.Iter
import HandS.Deep
import HandS.Sort
import HandS.TupMul
import HandS.RaiseMore
set_option Elab.async false
set_option linter.all false
set_option maxRecDepth 100000
set_option maxHeartbeats 4000000
namespace Hue
open L2 PySem.Spec PySem PyProof.Rows
def topS (i : Nat) : Stmt := PySem.Challenge.pw_hueward_k13_votes_of_pointers.main.body.getD i (.Pass ⟨0, 0, 0, 0⟩)
abbrev sIsFrom : Stmt := topS 15
abbrev sIsWithin : Stmt := topS 16
abbrev sCheckInputs : Stmt := topS 17
abbrev sCheckSteps : Stmt := topS 18
abbrev sBoundsOf : Stmt := topS 34
abbrev sIsSettle : Stmt := topS 35
abbrev sFitsIns : Stmt := topS 36
abbrev sFitsCell : Stmt := topS 37
abbrev sFitItems : Stmt := topS 38
abbrev sFitsKind : Stmt := topS 39
abbrev sIsVotes : Stmt := topS 43
abbrev sIsBank : Stmt := topS 44
abbrev sIsCode : Stmt := topS 45
abbrev sCheckCode : Stmt := topS 46
abbrev sCheckHue : Stmt := topS 47
abbrev sHasIns : Stmt := topS 48
abbrev sIsPlace : Stmt := topS 49
abbrev sFitsPlace : Stmt := topS 50
abbrev sIsStrike : Stmt := topS 52
abbrev sMayBe : Stmt := topS 53
abbrev sWrong : Stmt := topS 54
abbrev sCheckStrikes : Stmt := topS 55
abbrev sAgreedOf : Stmt := topS 58
abbrev sFetched : Stmt := topS 59
abbrev sStateOf : Stmt := topS 60
abbrev sOwnOf : Stmt := topS 61
abbrev sDoSet : Stmt := topS 64
abbrev sWorth : Stmt := topS 24
abbrev sDoWord : Stmt := topS 65
abbrev sDoGet : Stmt := topS 66
abbrev sDoPut : Stmt := topS 67
abbrev sDoOffer : Stmt := topS 68
abbrev sEmptySlots : Stmt := topS 69
abbrev sPointAll : Stmt := topS 70
abbrev sSettled : Stmt := topS 71
abbrev sDoShow : Stmt := topS 72
abbrev sDoTurn : Stmt := topS 73
abbrev sDoTake : Stmt := topS 74
abbrev sDoGoto : Stmt := topS 75
abbrev sDoStop : Stmt := topS 76
abbrev sDoMark : Stmt := topS 77
abbrev sDoCell : Stmt := topS 80
abbrev sDoStep : Stmt := topS 81
abbrev sDoStrike : Stmt := topS 82
abbrev sDoComing : Stmt := topS 83
abbrev sGoOn : Stmt := topS 84
abbrev sBegun : Stmt := topS 88
abbrev sMixed : Stmt := topS 89
abbrev sDraw : Stmt := topS 90
abbrev sPick : Stmt := topS 91
abbrev sVotes : Stmt := topS 92
abbrev sAgreed : Stmt := topS 93
abbrev sRight : Stmt := topS 94
abbrev sLaw : Stmt := topS 95
abbrev sCheckStrike : Stmt := topS 51
abbrev sLeftOf : Stmt := topS 62
abbrev sMomentOf : Stmt := topS 63
abbrev sBounds : Stmt := inClass (topS 33) 0
abbrev sWorks : Stmt := inClass (topS 57) 0
abbrev sMInit : Stmt := inClass (topS 86) 0
abbrev sMRow : Stmt := inClass (topS 86) 1
abbrev sMSteps : Stmt := inClass (topS 86) 2
abbrev sMState : Stmt := inClass (topS 86) 3
abbrev sMLeft : Stmt := inClass (topS 86) 4
abbrev sMPointers : Stmt := inClass (topS 86) 5
abbrev sMSlots : Stmt := inClass (topS 86) 6
abbrev sMRegisters : Stmt := inClass (topS 86) 7
abbrev sMCells : Stmt := inClass (topS 86) 8
abbrev sMOwn : Stmt := inClass (topS 86) 9
abbrev sMGo : Stmt := inClass (topS 86) 10
abbrev sMStrike : Stmt := inClass (topS 86) 11
abbrev sMCopy : Stmt := inClass (topS 86) 12
abbrev sMMoment : Stmt := inClass (topS 86) 13
abbrev sMLook : Stmt := inClass (topS 86) 14
end Hue
namespace Hue
open L2 PySem.Spec PySem PyProof.Rows
/-! ### the state of the draws -/
abbrev ks (x : Str) : Key := Sum.inr x
theorem ks_ne {x y : Str} (h : ¬ x = y) : ¬ ks x = ks y := fun e => h (Sum.inr.inj e)
def stK (g c : Addr) (r t : Int) : List (Key × V) := [(ks "great", .ref g), (ks "cells", .ref c), (ks "rest", .int r), (ks "turn", .int t)]
theorem n_gc : ¬ ("great" : Str) = "cells" := by decide +kernel
theorem n_gr : ¬ ("great" : Str) = "rest" := by decide +kernel
theorem n_gt : ¬ ("great" : Str) = "turn" := by decide +kernel
theorem n_cr : ¬ ("cells" : Str) = "rest" := by decide +kernel
theorem n_ct : ¬ ("cells" : Str) = "turn" := by decide +kernel
theorem n_rt : ¬ ("rest" : Str) = "turn" := by decide +kernel
theorem n_tr : ¬ ("turn" : Str) = "rest" := by decide +kernel
theorem st_great (g c : Addr) (r t : Int) : valV (stK g c r t) (ks "great") = some (.ref g) := valV_pos rfl
theorem st_cells (g c : Addr) (r t : Int) : valV (stK g c r t) (ks "cells") = some (.ref c) := (valV_neg (ks_ne n_gc)).trans (valV_pos rfl)
theorem st_rest (g c : Addr) (r t : Int) : valV (stK g c r t) (ks "rest") = some (.int r) := (valV_neg (ks_ne n_gr)).trans ((valV_neg (ks_ne n_cr)).trans (valV_pos rfl))
theorem st_turn (g c : Addr) (r t : Int) : valV (stK g c r t) (ks "turn") = some (.int t) := (valV_neg (ks_ne n_gt)).trans ((valV_neg (ks_ne n_ct)).trans ((valV_neg (ks_ne n_rt)).trans (valV_pos rfl)))
theorem st_put_rest (g c : Addr) (r t q : Int) : putK (stK g c r t) (ks "rest") (.int q) = stK g c q t := by
  simp [putK, stK, ks, n_gr, n_cr, n_tr]
theorem st_put_turn (g c : Addr) (r t q : Int) : putK (stK g c r t) (ks "turn") (.int q) = stK g c r q := by
  simp [putK, stK, ks, n_gt, n_ct, n_rt]
theorem st_len (g c : Addr) (r t : Int) : (stK g c r t).length < sizeLine := by
  show 4 < sizeLine
  decide
theorem dg_great {H : Hp} {st g c : Addr} {r t : Int} (h : H st = some (.dK (stK g c r t))) : DGet H st (.str "great") (some (.ref g)) := by
  have q := DGet.k (k := ks "great") h
  rw [st_great] at q
  exact q
theorem dg_cells {H : Hp} {st g c : Addr} {r t : Int} (h : H st = some (.dK (stK g c r t))) : DGet H st (.str "cells") (some (.ref c)) := by
  have q := DGet.k (k := ks "cells") h
  rw [st_cells] at q
  exact q
theorem dg_rest {H : Hp} {st g c : Addr} {r t : Int} (h : H st = some (.dK (stK g c r t))) : DGet H st (.str "rest") (some (.int r)) := by
  have q := DGet.k (k := ks "rest") h
  rw [st_rest] at q
  exact q
theorem dg_turn {H : Hp} {st g c : Addr} {r t : Int} (h : H st = some (.dK (stK g c r t))) : DGet H st (.str "turn") (some (.int t)) := by
  have q := DGet.k (k := ks "turn") h
  rw [st_turn] at q
  exact q
theorem dp_turn {H : Hp} {st g c : Addr} {r t q : Int} (h : H st = some (.dK (stK g c r t))) : DPut H st (.str "turn") (.int q) (upd H st (.dK (stK g c r q))) := by
  have z := DPut.k (k := ks "turn") (v := .int q) h (st_len g c r t)
  rw [st_put_turn] at z
  exact z
theorem dp_rest {H : Hp} {st g c : Addr} {r t q : Int} (h : H st = some (.dK (stK g c r t))) : DPut H st (.str "rest") (.int q) (upd H st (.dK (stK g c q t))) := by
  have z := DPut.k (k := ks "rest") (v := .int q) h (st_len g c r t)
  rw [st_put_rest] at z
  exact z
/-- the state of the draws stands at st, its lists at g and c, its turn is t -/
def StAt (H : Hp) (st g c : Addr) (t : Nat) : Prop := g ≠ c ∧ ∃ (gs cs : List Int) (r : Int), H st = some (.dK (stK g c r (t : Int))) ∧ H g = some (.lst (gs.map V.int)) ∧ H c = some (.lst (cs.map V.int))
/-- all but the state's dict and its list of great ones is as it was -/
def Kp (st g : Addr) (H H' : Hp) : Prop := ∀ b o, b ≠ st → b ≠ g → H b = some o → H' b = some o
theorem Kp.refl (st g : Addr) (H : Hp) : Kp st g H H := fun _ _ _ _ h => h
theorem Kp.trans {st g : Addr} {H H1 H2 : Hp} (a : Kp st g H H1) (b : Kp st g H1 H2) : Kp st g H H2 := fun x o n1 n2 h => b x o n1 n2 (a x o n1 n2 h)
theorem Kp.of {st g : Addr} {H H' : Hp} (a : Same H H') : Kp st g H H' := fun x o _ _ h => a x o h
theorem Kp.seq {K : PySem.W.Frag} {st g : Addr} {H H' : Hp} {a : Addr} {xs : List V} (e : Kp st g H H') (n1 : a ≠ st) (n2 : a ≠ g) (h : SqL K H a xs) : SqL K H' a xs := by
  rcases h with (h | ⟨o, h⟩) | h
  · exact .inl (.inl (e _ _ n1 n2 h))
  · exact .inl (.inr ⟨o, e _ _ n1 n2 h⟩)
  · exact .inr h
/-! ### the promises -/
def spMixed : Sp := fun vs H Q _ => ∃ (st g c : Addr) (cs : List Int) (r : Int) (t : Nat), vs = [.ref st] ∧ H st = some (.dK (stK g c r (t : Int))) ∧ H c = some (.lst (cs.map V.int)) ∧ t < 2 ^ 40 ∧
  ∀ (v : Int) (H' : Hp), H' st = some (.dK (stK g c r ((t : Int) + 1))) → (∀ b o, b ≠ st → H b = some o → H' b = some o) → Q (.int v) H'
def spDraw : Sp := fun vs H Q _ => ∃ (st g c : Addr) (t : Nat) (room : Int), vs = [.ref st, .int room] ∧ StAt H st g c t ∧ t < 2 ^ 40 ∧ 0 < room ∧ room < 2 ^ 30 ∧
  ∀ (v : Int) (t' : Nat) (H' : Hp), 0 ≤ v → v < room → t' ≤ t + 1 → StAt H' st g c t' → Kp st g H H' → Q (.int v) H'
/-- some[draw]: of a list of at most a thousand things -/
def spPick (K : PySem.W.Frag) : Sp := fun vs H Q _ => ∃ (st g c a : Addr) (t : Nat) (xs : List V), vs = [.ref st, .ref a] ∧ StAt H st g c t ∧ t < 2 ^ 40 ∧ SqL K H a xs ∧ a ≠ st ∧ a ≠ g ∧ 0 < xs.length ∧ xs.length < 2 ^ 20 ∧
  ∀ (i : Nat) (v : V) (t' : Nat) (H' : Hp), xs[i]? = some v → t' ≤ t + 1 → StAt H' st g c t' → Kp st g H H' → Q v H'
/-! ### data: lists of ints -/
theorem lay_ints : ∀ ns : List Int, PyData.canLayAll0 (ns.map PyData.int) = true ∧ PyData.depthAll (ns.map PyData.int) = 0
  | [] => ⟨rfl, rfl⟩
  | n :: r => by
    obtain ⟨h1, h2⟩ := lay_ints r
    refine ⟨?_, ?_⟩
    · show (PyData.canLay0 (.int n) && PyData.canLayAll0 (r.map PyData.int)) = true
      rw [h1]
      all_goals rfl
    · show max (PyData.depth (.int n)) (PyData.depthAll (r.map PyData.int)) = 0
      rw [h2]
      all_goals rfl
theorem shaped_ints (ns : List Int) : SeqAt.shaped (.list (ns.map PyData.int)) = true := by
  obtain ⟨h1, h2⟩ := lay_ints ns
  unfold SeqAt.shaped
  show (PyData.canLayAll0 (ns.map PyData.int) && decide (PyData.depthAll (ns.map PyData.int) + 1 ≤ 64)) = true
  rw [h1, h2]
  all_goals rfl
theorem dp_ints {K : PySem.W.Frag} {H : Hp} : ∀ ns : List Int, DpAll K H (ns.map V.int) (ns.map PyData.int)
  | [] => .nil
  | n :: r => .cons (.int n) (dp_ints r)
section
variable {P : Program} {w : World} {K : PySem.W.Frag} {mg : Str → Option Value} {base : Heap}
theorem scMixed : FnScope ["state", "turn", "found", "prime", "blend", "cell"] ["state"] (defScope sMixed) := ⟨rfl, rfl, rfl, by decide +kernel, rfl, by decide +kernel, by decide +kernel⟩
theorem fmod_lt {a p : Int} (h : 0 < p) : 0 ≤ a.fmod p ∧ a.fmod p < p := by
  rw [Int.fmod_eq_emod_of_nonneg _ (Int.le_of_lt h)]
  exact ⟨Int.emod_nonneg _ (by omega), Int.emod_lt_of_pos _ h⟩
theorem ok_mixed {f : Addr} {fd : FuncData} (F : Fun K "_law_mixed" "_law_mixed" sMixed f fd) (mint : mg "int" = none) : FnOk P w K mg base CX0 1 f fd ["state"] spMixed := by
  refine F.ok scMixed (fun vs H Q E h => ?_) (fun cdv A outer s H vs Q E hr h => ?_)
  · obtain ⟨st, g, c, cs, r, t, rfl, _⟩ := h
    rfl
  · obtain ⟨st, g, c, cs, r, t, rfl, hst, hc, ht, q⟩ := h
    have hu := hu_of hr
    have nd := scMixed.nd
    refine ⟨_, pss_cons (ps_par (i := 1) (j := 2) (by rfl) nd rfl rfl (by decide) rfl rfl (pa_cons (pe_op op_add (pe_dget hu (pv 0) pe_str (fun _ _ => rfl)) pe_int) (pa_cons pe_int pa_nil)) (by rfl))
      (pss_cons (ps_dput hu (pv 0) pe_str (pv 1) rfl)
      (pss_cons (ps_for PassesOwn.never rfl (pi_list (pe_lst (pa_cons pe_int (pa_cons pe_int (pa_cons pe_int (pa_cons pe_int pa_nil)))))) (pg_name (i := 3) nd rfl (.inl rfl))
        (pss_cons (ps_set (i := 4) nd rfl (.inl rfl) (pe_op op_add (pe_op op_mul pe_int (pv 1)) (pe_op op_fdivN (pv 3) pe_int)))
        (pss_cons (ps_for PassesOwn.never rfl (pi_list (pe_dget hu (pv 0) pe_str (fun _ _ => rfl))) (pg_name (i := 5) nd rfl (.inl rfl))
          (pss_one (ps_set (i := 4) nd rfl (.inl rfl) (pe_op op_modN (pe_callTy call_int1 (by rfl) mint (by decide +kernel) (pa_cons (pe_op op_add (pe_op op_add (pe_op op_mul (pv 4) pe_int) (pv 5)) (pv 1)) pa_nil)) (pv 3)))))
        (pss_one (ps_set (i := 2) nd rfl (.inl rfl) (pe_op op_add (pe_op op_mul (pv 2) pe_int) (pe_op op_modN (pe_callTy call_int1 (by rfl) mint (by decide +kernel) (pa_cons (pe_op op_pow (pv 4) pe_int) pa_nil)) (pv 3))))))))
      (pss_one (ps_ret (pv 2))))), ?_⟩
    -- turn, found = state['turn'] + 1, 0; state['turn'] = turn
    refine ⟨_, rfl, st, .int (t : Int), rfl, dg_turn hst, _, _, rfl, rfl, _, _, rfl, ?_⟩
    refine ⟨_, rfl, _, rfl, st, _, rfl, dp_turn hst, ?_⟩
    -- for prime in [..]
    refine ⟨by show 4 ≤ sizeLine; decide, fun p hp => ?_⟩
    have hne : ∀ b o, upd H st (.dK (stK g c r ((t : Int) + 1))) b = some o → upd (upd H st (.dK (stK g c r ((t : Int) + 1)))) p (.lst [.int 2147483629, .int 2147483647, .int 2147483563, .int 2147483587]) b = some o := fun b o e => by
      rw [upd_ne (ne_of_none e hp)]
      exact e
    have npc : c ≠ st := fun e => by
      rw [e, hst] at hc
      cases hc
    have hst2 := hne st _ upd_same
    have hc2 := hne c _ (by rw [upd_ne npc]; exact hc)
    refine ⟨p, rfl, ⟨_, .inl (.inl upd_same)⟩, ?_⟩
    generalize hH2 : upd (upd H st (.dK (stK g c r ((t : Int) + 1)))) p (.lst [.int 2147483629, .int 2147483647, .int 2147483563, .int 2147483587]) = H2 at *
    refine for_list (xs := [.int 2147483629, .int 2147483647, .int 2147483563, .int 2147483587]) (fun i σ H' => ∃ (fo : Int) (x3 x4 x5 : Option V), σ = [some (.ref st), some (.int ((t : Int) + 1)), some (.int fo), x3, x4, x5] ∧ H2 = H') ⟨0, none, none, none, rfl, rfl⟩ (fun i σ H' _ h => ?_) (fun i x σ H' hx h => ?_) (fun σ H' h => ?_)
    · obtain ⟨fo, x3, x4, x5, rfl, rfl⟩ := h
      exact .inl (.inl (by rw [← hH2]; exact upd_same))
    · obtain ⟨fo, x3, x4, x5, rfl, rfl⟩ := h
      obtain ⟨pr, rfl, h0, h1⟩ : ∃ pr : Int, x = .int pr ∧ 0 < pr ∧ pr < 2 ^ 31 := by
        have hm := List.mem_of_getElem? hx
        simp only [List.mem_cons, List.not_mem_nil, or_false] at hm
        rcases hm with rfl | rfl | rfl | rfl
        · exact ⟨_, rfl, by decide, by decide⟩
        · exact ⟨_, rfl, by decide, by decide⟩
        · exact ⟨_, rfl, by decide, by decide⟩
        · exact ⟨_, rfl, by decide, by decide⟩
      -- blend = 69621 * turn + prime // 41
      refine ⟨_, rfl, _, _, rfl, rfl, .inl ⟨by decide, by decide⟩, _, rfl, _, _, rfl, rfl, ⟨by decide, by decide⟩, _, _, rfl, rfl, ?_⟩
      -- for cell in state['cells']
      refine ⟨_, rfl, st, _, rfl, dg_cells hst2, c, rfl, ⟨_, .inl (.inl hc2)⟩, ?_⟩
      have hb0 : (69621 * ((t : Int) + 1) + pr.fdiv 41).natAbs < 2 ^ 64 := by
        rw [Int.fdiv_eq_ediv_of_nonneg _ (by decide)]
        have z : pr / 41 ≤ pr := Int.ediv_le_self _ (by omega)
        have z0 : 0 ≤ pr / 41 := Int.ediv_nonneg (by omega) (by decide)
        omega
      refine for_list (xs := cs.map V.int) (fun i σ H' => ∃ (b : Int) (x5 : Option V), σ = [some (.ref st), some (.int ((t : Int) + 1)), some (.int fo), some (.int pr), some (.int b), x5] ∧ H2 = H' ∧ b.natAbs < 2 ^ 64) ⟨_, _, rfl, rfl, hb0⟩ (fun i σ H' _ h => ?_) (fun i x σ H' hx h => ?_) (fun σ H' h => ?_)
      · obtain ⟨b, x5, rfl, rfl, hb⟩ := h
        exact .inl (.inl hc2)
      · obtain ⟨b, x5, rfl, rfl, hb⟩ := h
        obtain ⟨z, rfl⟩ : ∃ z : Int, x = .int z := by
          rw [List.getElem?_map] at hx
          obtain ⟨z, _, e⟩ := Option.map_eq_some_iff.mp hx
          exact ⟨z, e.symm⟩
        have hbp := fmod_lt (a := b * 48271 + z + ((t : Int) + 1)) h0
        refine ⟨_, rfl, _, _, rfl, rfl, .inr ⟨by decide, by decide⟩, _, rfl, _, _, rfl, rfl, _, rfl, _, _, rfl, rfl, .inl ⟨_, rfl, _, rfl, _, _, rfl, rfl, by omega, ?_⟩⟩
        exact ⟨_, _, rfl, rfl, by omega⟩
      · obtain ⟨b, x5, rfl, rfl, hb⟩ := h
        refine ⟨_, rfl, _, _, rfl, rfl, .inr ⟨by decide, by decide⟩, _, rfl, _, _, rfl, rfl, ⟨by decide, by decide, hb⟩, .inl ⟨_, rfl, _, rfl, _, _, rfl, rfl, by omega, _, _, rfl, rfl, ?_⟩⟩
        exact ⟨_, _, _, _, rfl, rfl⟩
    · obtain ⟨fo, x3, x4, x5, rfl, rfl⟩ := h
      refine ⟨_, rfl, ?_⟩
      exact q fo _ hst2 fun b o nb e => by
        show H2 b = some o
        exact hne b o (by rw [upd_ne nb]; exact e)
theorem scDraw : FnScope ["state", "room", "found"] ["state", "room"] (defScope sDraw) := ⟨rfl, rfl, rfl, by decide +kernel, rfl, by decide +kernel, by decide +kernel⟩
theorem ok_draw {f fM : Addr} {fd fdM : FuncData} (F : Fun K "_law_draw" "_law_draw" sDraw f fd) (GM : FnOk P w K mg base CX0 1 fM fdM ["state"] spMixed) (gM : mg "_law_mixed" = some (.ref fM)) (kM : PySem.W.keepIn K (.ref fM) = true) (bM : Binds K fdM ["state"] []) (mint : mg "int" = none) : FnOk P w K mg base CX0 2 f fd ["state", "room"] spDraw := by
  refine F.ok scDraw (fun vs H Q E h => ?_) (fun cdv A outer s H vs Q E hr h => ?_)
  · obtain ⟨st, g, c, t, room, rfl, _⟩ := h
    rfl
  · obtain ⟨st, g, c, t, room, rfl, S, ht, hr0, hr1, q⟩ := h
    have hu := hu_of hr
    have nd := scDraw.nd
    refine ⟨_, pss_cons (ps_if (pt_cmpR op_eq (pe_dget hu (pv 0) pe_str (fun _ _ => rfl)) pe_int (nomark _))
        (pss_one (ps_dput hu (pv 0) pe_str (pe_ifExp (pt_cmpR (op_neD hr.units) (pe_dget hu (pv 0) pe_str (fun _ _ => rfl)) (pe_lst pa_nil) (nomark _))
          (pe_bm PySem.F.plainAttrs_list PySem.F.slot_list_pop PySem.F.type_list_pop mt_popAt (pe_dget hu (pv 0) pe_str (fun _ _ => rfl)) (pa_cons pe_int pa_nil))
          (pe_call GM hr rfl gM kM bM .nil pass0 (pa_cons (pv 0) pa_nil))) rfl)) pss_nil)
      (pss_cons (ps_set (i := 2) nd rfl (.inl rfl) (pe_op op_modN (pe_callTy call_int1 (by rfl) mint (by decide +kernel) (pa_cons (pe_dget hu (pv 0) pe_str (fun _ _ => rfl)) pa_nil)) (pv 1)))
      (pss_cons (ps_dput hu (pv 0) pe_str (pe_op op_fdivN (pe_dget hu (pv 0) pe_str (fun _ _ => rfl)) (pv 1)) rfl)
      (pss_one (ps_ret (pv 2))))), ?_⟩
    obtain ⟨ngc, gs, cs, r, hst, hg, hc⟩ := S
    refine ⟨_, rfl, st, _, rfl, dg_rest hst, rfl, _, rfl, ?_⟩
    -- what stands behind the test
    have fin : ∀ (H1 : Hp) (gs1 : List Int) (r1 : Int) (t1 : Nat), H1 st = some (.dK (stK g c r1 (t1 : Int))) → H1 g = some (.lst (gs1.map V.int)) → H1 c = some (.lst (cs.map V.int)) → t1 ≤ t + 1 → Kp st g H H1 →
        tSeq (tAsg (tOp (rI (fun x j => j ≠ 0) fun i j => V.int (i.fmod j)) (tCB (fun xs H Q => (∃ i, xs = [V.int i] ∧ Q (V.int i) H) ∨ ∃ k, xs = [V.bl k] ∧ Q (V.int (if k = true then 1 else 0)) H) (tCons (tDGet (tVar 0) (tC (V.str (Str.ofString "rest")))) tNil)) (tVar 1)) (gName 2))
          (tSeq (sDPut (tVar 0) (tC (V.str (Str.ofString "rest"))) (tOp (rI CDivN fun i j => V.int (i.fdiv j)) (tDGet (tVar 0) (tC (V.str (Str.ofString "rest")))) (tVar 1))) (tRet (tVar 2))) { nx := fun _ H' => Q .non H', rt := Q } (L2.start ["state", "room", "found"] [.ref st, .int room]) H1 := by
      intro H1 gs1 r1 t1 h1 h2 h3 h4 h5
      have nsg : g ≠ st := fun e => by
        rw [e, h1] at h2
        cases h2
      have nsc : c ≠ st := fun e => by
        rw [e, h1] at h3
        cases h3
      refine ⟨_, rfl, st, _, rfl, dg_rest h1, .inl ⟨_, rfl, _, rfl, _, _, rfl, rfl, by omega, ?_⟩⟩
      refine ⟨_, rfl, st, _, rfl, dg_rest h1, _, rfl, _, _, rfl, rfl, ⟨by omega, by omega⟩, _, rfl, st, _, rfl, dp_rest h1, ?_⟩
      have hb := fmod_lt (a := r1) hr0
      refine ⟨_, rfl, q _ t1 _ hb.1 hb.2 h4 ⟨ngc, gs1, cs, _, upd_same, by rw [upd_ne nsg]; exact h2, by rw [upd_ne nsc]; exact h3⟩ fun b o n1 n2 e => ?_⟩
      rw [upd_ne n1]
      exact h5 b o n1 n2 e
    refine ite2 (fun e => ?_) (fun e => ?_)
    · -- state['great'] != []
      refine ⟨_, rfl, st, _, rfl, dg_great hst, Nat.zero_le _, fun p hp => ?_⟩
      have nsg : g ≠ st := fun e => by
        rw [e, hst] at hg
        cases hg
      have nsc : c ≠ st := fun e => by
        rw [e, hst] at hc
        cases hc
      have sm : Same H (upd H p (.lst [])) := fun b o e => by
        rw [upd_ne (ne_of_none e hp)]
        exact e
      refine ⟨_, _, .lst (.inl (.inl (sm _ _ hg))) (dp_ints gs), .lst (.inl (.inl upd_same)) .nil, shaped_ints gs, by decide, _, rfl, ?_⟩
      cases gs with
      | nil =>
        refine iteF ?_
        refine ⟨_, rfl, st, g, c, cs, r, t, rfl, sm _ _ hst, sm _ _ hc, ht, fun v H1 h1 h2 => ?_⟩
        refine ⟨_, rfl, st, _, rfl, dp_rest h1, ?_⟩
        exact fin _ [] v (t + 1) upd_same (by rw [upd_ne nsg]; exact h2 _ _ nsg (sm _ _ hg)) (by rw [upd_ne nsc]; exact h2 _ _ nsc (sm _ _ hc)) (Nat.le_refl _) fun b o n1 n2 e => by
          rw [upd_ne n1]
          exact h2 _ _ n1 (sm _ _ e)
      | cons n gs =>
        refine iteT ?_
        refine ⟨_, rfl, st, _, rfl, dg_great (sm _ _ hst), .inl ⟨rfl, _, .inl (.inl (sm _ _ hg))⟩, g, _, 0, 0, .int n, rfl, rfl, sm _ _ hg, by decide, by decide, by simp [seqIndex?], rfl, ?_⟩
        have nge : st ≠ g := fun e => nsg e.symm
        refine ⟨_, rfl, st, _, rfl, dp_rest (by rw [upd_ne nge]; exact sm _ _ hst), ?_⟩
        exact fin _ gs n t upd_same (by rw [upd_ne nsg, upd_same]; rfl) (by rw [upd_ne nsc, upd_ne ngc.symm]; exact sm _ _ hc) (Nat.le_succ _) fun b o n1 n2 e => by
          rw [upd_ne n1, upd_ne n2]
          exact sm _ _ e
    · exact fin H gs r t hst hg hc (Nat.le_succ _) (Kp.refl _ _ _)
theorem scPick : FnScope ["state", "some"] ["state", "some"] (defScope sPick) := ⟨rfl, rfl, rfl, by decide +kernel, rfl, by decide +kernel, by decide +kernel⟩
theorem ok_pick {f fD : Addr} {fd fdD : FuncData} (F : Fun K "_law_pick" "_law_pick" sPick f fd) (GD : FnOk P w K mg base CX0 2 fD fdD ["state", "room"] spDraw) (gD : mg "_law_draw" = some (.ref fD)) (kD : PySem.W.keepIn K (.ref fD) = true) (bD : Binds K fdD ["state", "room"] []) (ml : mg "len" = none) : FnOk P w K mg base CX0 3 f fd ["state", "some"] (spPick K) := by
  refine F.ok scPick (fun vs H Q E h => ?_) (fun cdv A outer s H vs Q E hr h => ?_)
  · obtain ⟨st, g, c, a, t, xs, rfl, _⟩ := h
    rfl
  · obtain ⟨st, g, c, a, t, xs, rfl, S, ht, hS, n1, n2, hl0, hl1, q⟩ := h
    refine ⟨_, pss_one (ps_ret (pe_ix ix_list (pv 1) (pe_call GD hr rfl gD kD bD .nil pass0 (pa_cons (pv 0) (pa_cons (pe_callB call_len_seq (by rfl) ml PySem.boot_len (pa_cons (pv 1) pa_nil)) pa_nil))) (fun _ _ => rfl))), ?_⟩
    refine ⟨_, rfl, _, rfl, _, rfl, a, xs, rfl, .inl hS, st, g, c, t, _, rfl, S, ht, by omega, by omega, fun v t' H' h0 h1 h2 S' kp => ?_⟩
    have hi : v.toNat < xs.length := by omega
    refine ⟨a, xs, v, xs[v.toNat], rfl, rfl, kp.seq n1 n2 hS, at_of (j := v.toNat) (by omega) (List.getElem?_eq_getElem hi), ?_⟩
    exact q v.toNat _ t' H' (List.getElem?_eq_getElem hi) h2 S' kp
/-! ### the beginning: great ones and cells -/
def absI (i : Int) : Int := if i < 0 then -i else i
def spBegun (K : PySem.W.Frag) : Sp := fun vs H Q _ => ∃ (a : Addr) (ns : List Int), vs = [.ref a] ∧ SqL K H a (ns.map V.int) ∧ ns.length ≤ 63 ∧
  ∀ (st g c : Addr) (H' : Hp), Same H H' → StAt H' st g c 0 → H st = none → H g = none → Q (.ref st) H'
theorem scBegun : FnScope ["script", "great", "cell"] ["script"] (defScope sBegun) := ⟨rfl, rfl, rfl, by decide +kernel, rfl, by decide +kernel, by decide +kernel⟩
theorem ok_begun {f : Addr} {fd : FuncData} (F : Fun K "_law_begun" "_law_begun" sBegun f fd) (mabs : mg "abs" = none) : FnOk P w K mg base CX0 1 f fd ["script"] (spBegun K) := by
  refine F.ok scBegun (fun vs H Q E h => ?_) (fun cdv A outer s H vs Q E hr h => ?_)
  · obtain ⟨a, ns, rfl, _⟩ := h
    rfl
  · obtain ⟨a, ns, rfl, hS, hl, q⟩ := h
    have hu := hu_of hr
    have nd := scBegun.nd
    refine ⟨_, pss_cons (ps_setLc (i := 1) (own := [("cell", 2)]) (g := gName 2) (by rfl) nd rfl rfl (sw_true rfl rfl rfl (by decide +kernel)) (pi_list (pv 0)) (blkOk_by (own := [("cell", 2)]) (N := ["script", "great", "cell"]) (sc := defScope sBegun) (by decide +kernel)) (fun _ _ _ _ _ => pg_name (i := 2) nd rfl (Or.inl rfl))
          (fun _ _ _ _ _ => pts_one (pt_cmpR op_ge (pe_callB call_abs (by rfl) mabs (by decide +kernel) (pa_cons (pv 2) pa_nil)) (pe_op op_pow pe_int pe_int) (nomark _)))
          (fun _ _ _ _ _ => pe_op op_sub (pe_callB call_abs (by rfl) mabs (by decide +kernel) (pa_cons (pv 2) pa_nil)) (pe_op op_pow pe_int pe_int)))
      (pss_one (ps_ret (pe_disp (pps_cons pe_str (pv 1) (pps_cons pe_str
          (pe_lc (own := [("cell", 2)]) (g := gName 2) (by rfl) nd (pi_list (pv 0)) (blkOk_by (own := [("cell", 2)]) (N := ["script", "great", "cell"]) (sc := defScope sBegun) (by decide +kernel)) (fun _ _ _ _ _ => pg_name (i := 2) nd rfl (Or.inl rfl)) (fun _ _ _ _ _ => pts_nil)
            (fun _ _ _ _ _ => pe_callB call_abs (by rfl) mabs (by decide +kernel) (pa_cons (pv 2) pa_nil)))
          (pps_cons pe_str pe_int (pps_cons pe_str pe_int pps_nil)))) (by rfl) (by rfl) (fun z => by cases z) (by decide)))), ?_⟩
    refine ⟨_, rfl, a, rfl, ⟨_, hS⟩, fun D hD => ?_⟩
    refine lc_list (K := K) (a := a) (xs := ns.map V.int) (fun i H' => ∃ acc : List Int, H' D = some (.lst (acc.map V.int)) ∧ acc.length ≤ i ∧ Same H H') ⟨[], upd_same, Nat.le_refl _, fun b o e => by rw [upd_ne (ne_of_none e hD)]; exact e⟩ (fun i H' _ h => ?_) (fun i x H' hx h => ?_) (fun H' h => ?_)
    · obtain ⟨acc, _, _, sm⟩ := h
      exact sm.seq hS
    · obtain ⟨acc, h1, h2, sm⟩ := h
      obtain ⟨z, rfl⟩ : ∃ z : Int, x = .int z := by
        rw [List.getElem?_map] at hx
        obtain ⟨z, _, e⟩ := Option.map_eq_some_iff.mp hx
        exact ⟨z, e.symm⟩
      have hi : i < ns.length := by
        have := (List.getElem?_eq_some_iff.mp hx).1
        rw [List.length_map] at this
        exact this
      refine ⟨by rfl, _, rfl, _, rfl, _, _, rfl, rfl, ⟨by decide, by decide, by decide⟩, _, _, rfl, rfl, _, rfl, ?_⟩
      refine ite2 (fun e => ?_) (fun e => ?_)
      · refine ⟨_, rfl, _, rfl, _, _, rfl, rfl, ⟨by decide, by decide, by decide⟩, _, _, rfl, rfl, _, h1, ?_, acc ++ [(if z < 0 then -z else z) - 10 ^ Int.toNat 18], ?_, ?_, fun b o eb => ?_⟩
        · rw [List.length_map]
          exact small1000 (by omega)
        · rw [upd_same, List.map_append]
          rfl
        · rw [List.length_append]
          show acc.length + 1 ≤ i + 1
          omega
        · rw [upd_ne (ne_of_none eb hD)]
          exact sm _ _ eb
      · exact ⟨acc, h1, by omega, sm⟩
    · obtain ⟨gs, hg, _, sm⟩ := h
      -- the dict
      refine fun p hp => ?_
      have sm2 : Same H (upd H' p (.dK [])) := fun b o e => by
        rw [upd_ne (ne_of_none (sm _ _ e) hp)]
        exact sm _ _ e
      refine ⟨_, rfl, _, rfl, a, rfl, ⟨_, sm2.seq hS⟩, fun D2 hD2 => ?_⟩
      have nDp : D2 ≠ p := fun e => by
        rw [e, upd_same] at hD2
        cases hD2
      have hgp : (upd H' p (.dK [])) D = some (.lst (gs.map V.int)) := by
        rw [upd_ne (ne_of_none hg hp)]
        exact hg
      have nDD : D ≠ D2 := ne_of_none hgp hD2
      have npD : p ≠ D := fun e => by
        rw [e] at hp
        rw [hp] at hg
        cases hg
      refine lc_list (K := K) (a := a) (xs := ns.map V.int) (fun i H4 => ∃ acc : List Int, H4 D2 = some (.lst (acc.map V.int)) ∧ acc.length ≤ i ∧ ∀ b o, b ≠ D2 → upd H' p (.dK []) b = some o → H4 b = some o) ⟨[], upd_same, Nat.le_refl _, fun b o n e => by rw [upd_ne n]; exact e⟩ (fun i H4 _ h => ?_) (fun i x H4 hx h => ?_) (fun H4 h => ?_)
      · obtain ⟨acc, _, _, k4⟩ := h
        exact (show Same H H4 from fun b o e => k4 b o (ne_of_none (sm2 _ _ e) hD2) (sm2 _ _ e)).seq hS
      · obtain ⟨acc, h1, h2, k4⟩ := h
        obtain ⟨z, rfl⟩ : ∃ z : Int, x = .int z := by
          rw [List.getElem?_map] at hx
          obtain ⟨z, _, e⟩ := Option.map_eq_some_iff.mp hx
          exact ⟨z, e.symm⟩
        have hi : i < ns.length := by
          have := (List.getElem?_eq_some_iff.mp hx).1
          rw [List.length_map] at this
          exact this
        refine ⟨by rfl, _, rfl, _, rfl, _, h1, ?_, acc ++ [if z < 0 then -z else z], ?_, ?_, fun b o n eb => ?_⟩
        · rw [List.length_map]
          exact small1000 (by omega)
        · rw [upd_same, List.map_append]
          rfl
        · rw [List.length_append]
          show acc.length + 1 ≤ i + 1
          omega
        · rw [upd_ne n]
          exact k4 _ _ n eb
      · obtain ⟨cs, hc, _, k4⟩ := h
        refine ⟨k4 _ _ nDp.symm upd_same, stK D D2 0 0, rfl, by show 4 ≤ 15; decide, ?_⟩
        have em : mergeK [] (stK D D2 0 0) = stK D D2 0 0 := by
          simp [mergeK, putK, stK, ks, n_gc, n_gr, n_gt, n_cr, n_ct, n_rt]
        rw [em]
        have npn : H p = none := sm.free hp
        refine q p D D2 _ (fun b o e => ?_) ⟨nDD, gs, cs, 0, upd_same, ?_, ?_⟩ npn hD
        · rw [upd_ne (ne_of_none e npn)]
          exact k4 _ _ (ne_of_none (sm2 _ _ e) hD2) (sm2 _ _ e)
        · rw [upd_ne npD.symm]
          exact k4 _ _ nDD hgp
        · rw [upd_ne nDp]
          exact hc
end
end Hue
namespace Hue
open L2 PySem.Spec PySem PyProof.Rows
/-- the built-in names that stand as they are -/
structure Bt (mg : Str → Option Value) : Prop where
  len : mg "len" = none
  range : mg "range" = none
  tuple : mg "tuple" = none
  list : mg "list" = none
  int : mg "int" = none
  bool : mg "bool" = none
  str : mg "str" = none
  dict : mg "dict" = none
  abs : mg "abs" = none
  enumerate : mg "enumerate" = none
  isinstance : mg "isinstance" = none
  max : mg "max" = none
  min : mg "min" = none
  sum : mg "sum" = none
  sorted : mg "sorted" = none
  zip : mg "zip" = none
  repr : mg "repr" = none
  all : mg "all" = none
  any : mg "any" = none
  set : mg "set" = none
section
variable {P : Program} {w : World} {K : PySem.W.Frag} {mg : Str → Option Value} {base : Heap}
/-- a def of the text that keeps a promise -/
def Df (P : Program) (w : World) (K : PySem.W.Frag) (mg : Str → Option Value) (base : Heap) (k : Nat) (x : Str) (ps : List Str) (sp : Sp) : Prop :=
  ∃ (f : Addr) (fd : FuncData), FnOk P w K mg base CX0 k f fd ps sp ∧ mg x = some (.ref f) ∧ PySem.W.keepIn K (.ref f) = true ∧ L2.Binds K fd ps []
/-- a def of the text, as the top leaves it -/
def Tx (K : PySem.W.Frag) (mg : Str → Option Value) (x : Str) (st : Stmt) (ps : List Str) : Prop :=
  ∃ (f : Addr) (fd : FuncData), Fun K x x st f fd ∧ mg x = some (.ref f) ∧ L2.Binds K fd ps []
theorem Df.mono {j k : Nat} {x : Str} {ps : List Str} {sp : Sp} (D : Df P w K mg base j x ps sp) (h : j ≤ k) : Df P w K mg base k x ps sp := by
  obtain ⟨f, fd, G, g, kp, b⟩ := D
  exact ⟨f, fd, G.mono h, g, kp, b⟩
theorem Tx.df {k : Nat} {x : Str} {st : Stmt} {ps : List Str} {sp : Sp} (X : Tx K mg x st ps) (h : ∀ f fd, Fun K x x st f fd → FnOk P w K mg base CX0 k f fd ps sp) : Df P w K mg base k x ps sp := by
  obtain ⟨f, fd, F, g, b⟩ := X
  exact ⟨f, fd, h f fd F, g, F.kp, b⟩
theorem df_mixed (X : Tx K mg "_law_mixed" sMixed ["state"]) (T : Bt mg) : Df P w K mg base 1 "_law_mixed" ["state"] spMixed := X.df fun f fd F => ok_mixed F T.int
theorem df_draw (X : Tx K mg "_law_draw" sDraw ["state", "room"]) (M : Df P w K mg base 1 "_law_mixed" ["state"] spMixed) (T : Bt mg) : Df P w K mg base 2 "_law_draw" ["state", "room"] spDraw := by
  obtain ⟨fM, fdM, G, g, kp, b⟩ := M
  exact X.df fun f fd F => ok_draw F G g kp b T.int
theorem df_pick (X : Tx K mg "_law_pick" sPick ["state", "some"]) (M : Df P w K mg base 2 "_law_draw" ["state", "room"] spDraw) (T : Bt mg) : Df P w K mg base 3 "_law_pick" ["state", "some"] (spPick K) := by
  obtain ⟨fM, fdM, G, g, kp, b⟩ := M
  exact X.df fun f fd F => ok_pick F G g kp b T.len
theorem df_begun (X : Tx K mg "_law_begun" sBegun ["script"]) (T : Bt mg) : Df P w K mg base 1 "_law_begun" ["script"] (spBegun K) := X.df fun f fd F => ok_begun F T.abs
end
/-! ### helpers -/
theorem StAt.st {H : Hp} {st g c : Addr} {t : Nat} (S : StAt H st g c t) : ∃ kvs, H st = some (.dK kvs) := by
  obtain ⟨_, gs, cs, r, h, _⟩ := S
  exact ⟨_, h⟩
theorem StAt.g {H : Hp} {st g c : Addr} {t : Nat} (S : StAt H st g c t) : ∃ xs, H g = some (.lst xs) := by
  obtain ⟨_, gs, cs, r, _, h, _⟩ := S
  exact ⟨_, h⟩
theorem StAt.new {H : Hp} {st g c p : Addr} {t : Nat} (S : StAt H st g c t) (h : H p = none) : p ≠ st ∧ p ≠ g := by
  obtain ⟨_, h1⟩ := S.st
  obtain ⟨_, h2⟩ := S.g
  exact ⟨fun e => (by rw [e, h1] at h; cases h), fun e => (by rw [e, h2] at h; cases h)⟩
theorem StAt.newc {H : Hp} {st g c p : Addr} {t : Nat} (S : StAt H st g c t) (h : H p = none) : p ≠ c := by
  obtain ⟨_, gs, cs, r, _, _, h3⟩ := S
  exact fun e => (by rw [e, h3] at h; cases h)
theorem StAt.upd {H : Hp} {st g c p : Addr} {t : Nat} {o : HO} (S : StAt H st g c t) (n1 : p ≠ st) (n2 : p ≠ g) (n3 : p ≠ c) : StAt (upd H p o) st g c t := by
  obtain ⟨n, gs, cs, r, h1, h2, h3⟩ := S
  exact ⟨n, gs, cs, r, by rw [upd_ne n1.symm]; exact h1, by rw [upd_ne n2.symm]; exact h2, by rw [upd_ne n3.symm]; exact h3⟩
theorem StAt.same {H H' : Hp} {st g c : Addr} {t : Nat} (S : StAt H st g c t) (e : Same H H') : StAt H' st g c t := by
  obtain ⟨n, gs, cs, r, h1, h2, h3⟩ := S
  exact ⟨n, gs, cs, r, e _ _ h1, e _ _ h2, e _ _ h3⟩
theorem same_new {H : Hp} {p : Addr} {o : HO} (h : H p = none) : Same H (upd H p o) := fun b u e => by
  rw [upd_ne (ne_of_none e h)]
  exact e
/-- an object that H did not know changes -/
theorem Same.mut {H H' : Hp} {p : Addr} {o : HO} (e : Same H H') (h : H p = none) : Same H (upd H' p o) := fun a u ha => by
  rw [upd_ne (ne_of_none ha h)]
  exact e a u ha
theorem Kp.mut {st g : Addr} {H H' : Hp} {p : Addr} {o : HO} (e : Kp st g H H') (h : H p = none) : Kp st g H (upd H' p o) := fun a u n1 n2 ha => by
  rw [upd_ne (ne_of_none ha h)]
  exact e a u n1 n2 ha
theorem Kp.free {st g c : Addr} {t : Nat} {H H' : Hp} {p : Addr} (e : Kp st g H H') (S : StAt H' st g c t) (h : H' p = none) : H p = none := by
  obtain ⟨n1, n2⟩ := S.new h
  cases q : H p with
  | none => rfl
  | some o =>
    rw [e p o n1 n2 q] at h
    cases h
/-- an object that is neither a list nor a dict is none of the state's -/
theorem StAt.tup {H : Hp} {st g c p : Addr} {t : Nat} {xs : List V} (S : StAt H st g c t) (h : H p = some (.tup xs)) : p ≠ st ∧ p ≠ g := by
  obtain ⟨_, h1⟩ := S.st
  obtain ⟨_, h2⟩ := S.g
  exact ⟨fun e => (by rw [e, h1] at h; cases h), fun e => (by rw [e, h2] at h; cases h)⟩
theorem Kp.tup {st g c : Addr} {t : Nat} {H H' : Hp} {p : Addr} {xs : List V} (e : Kp st g H H') (S : StAt H st g c t) (h : H p = some (.tup xs)) : H' p = some (.tup xs) := by
  obtain ⟨n1, n2⟩ := S.tup h
  exact e _ _ n1 n2 h
end Hue
namespace Hue
open L2 PySem.Spec PySem PyProof.Rows
/-! ### tuples stay for ever -/
def isTup : HO → Prop
  | .tup _ => True
  | .frz _ (.tup _) => True
  | _ => False
def Tk (H H' : Hp) : Prop := ∀ b o, isTup o → H b = some o → H' b = some o
theorem Tk.refl (H : Hp) : Tk H H := fun _ _ _ h => h
theorem Tk.trans {H H1 H2 : Hp} (a : Tk H H1) (b : Tk H1 H2) : Tk H H2 := fun x o i h => b x o i (a x o i h)
theorem Tk.same {H H' : Hp} (e : Same H H') : Tk H H' := fun x o _ h => e x o h
theorem Tk.new {H : Hp} {p : Addr} {o : HO} (h : H p = none) : Tk H (upd H p o) := Tk.same (same_new h)
/-- a list is changed -/
theorem Tk.lst {H : Hp} {p : Addr} {xs : List V} {o : HO} (h : H p = some (.lst xs)) : Tk H (upd H p o) := fun b u i e => by
  rw [upd_ne fun z => ?_]
  · exact e
  · rw [z, h] at e
    cases e
    exact i.elim
theorem Tk.kp {st g c : Addr} {t : Nat} {H H' : Hp} (S : StAt H st g c t) (k : Kp st g H H') : Tk H H' := fun b o i e => by
  obtain ⟨_, h1⟩ := S.st
  obtain ⟨_, h2⟩ := S.g
  refine k b o (fun z => ?_) (fun z => ?_) e
  · rw [z, h1] at e
    cases e
    exact i.elim
  · rw [z, h2] at e
    cases e
    exact i.elim
theorem Tk.tup {H H' : Hp} (k : Tk H H') {a : Addr} {xs : List V} (h : H a = some (.tup xs)) : H' a = some (.tup xs) := k a _ True.intro h
theorem Tk.seq {K : PySem.W.Frag} {H H' : Hp} (k : Tk H H') {a : Addr} {xs : List V} (h : SqT K H a xs) : SqT K H' a xs := by
  rcases h with (h | ⟨o, h⟩) | h
  · exact .inl (.inl (k _ _ True.intro h))
  · exact .inl (.inr ⟨o, k _ _ True.intro h⟩)
  · exact .inr h
/-! ### data without lists -/
mutual
def noL : PyData → Bool
  | .list _ => false
  | .dict _ => false
  | .tuple xs => noLs xs
  | _ => true
def noLs : List PyData → Bool
  | [] => true
  | x :: xs => noL x && noLs xs
end
mutual
theorem dp_tk {K : PySem.W.Frag} {H H' : Hp} (k : Tk H H') : ∀ (d : PyData) (v : V), noL d = true → Dp K H v d → Dp K H' v d
  | .none, _, _, h => by cases h; exact .non
  | .bool b, _, _, h => by cases h; exact .bl b
  | .int i, _, _, h => by cases h; exact .int i
  | .str x, _, _, h => by cases h; exact .str x
  | .list _, _, z, _ => by simp [noL] at z
  | .dict _, _, z, _ => by simp [noL] at z
  | .tuple ds, _, z, h => by
    cases h with
    | tup a b => exact .tup (k.seq a) (dps_tk k ds _ z b)
theorem dps_tk {K : PySem.W.Frag} {H H' : Hp} (k : Tk H H') : ∀ (ds : List PyData) (vs : List V), noLs ds = true → DpAll K H vs ds → DpAll K H' vs ds
  | [], _, _, h => by cases h; exact .nil
  | d :: ds, _, z, h => by
    cases h with
    | cons a b =>
      have z' := Bool.and_eq_true_iff.mp (show (noL d && noLs ds) = true from z)
      exact .cons (dp_tk k d _ z'.1 a) (dps_tk k ds _ z'.2 b)
end
mutual
theorem dp_same {K : PySem.W.Frag} {H H' : Hp} (k : Same H H') : ∀ (d : PyData) (v : V), Dp K H v d → Dp K H' v d
  | .none, _, h => by cases h; exact .non
  | .bool b, _, h => by cases h; exact .bl b
  | .int i, _, h => by cases h; exact .int i
  | .str x, _, h => by cases h; exact .str x
  | .list ds, _, h => by
    cases h with
    | lst a b => exact .lst (k.seq a) (dps_same k ds _ b)
  | .dict _, _, h => by cases h
  | .tuple ds, _, h => by
    cases h with
    | tup a b => exact .tup ((Tk.same k).seq a) (dps_same k ds _ b)
theorem dps_same {K : PySem.W.Frag} {H H' : Hp} (k : Same H H') : ∀ (ds : List PyData) (vs : List V), DpAll K H vs ds → DpAll K H' vs ds
  | [], _, h => by cases h; exact .nil
  | d :: ds, _, h => by
    cases h with
    | cons a b => exact .cons (dp_same k d _ a) (dps_same k ds _ b)
end
theorem noLs_map {α : Type} (f : α → PyData) (h : ∀ x, noL (f x) = true) : ∀ xs : List α, noLs (xs.map f) = true
  | [] => rfl
  | x :: r => by
    show (noL (f x) && noLs (r.map f)) = true
    rw [h x, noLs_map f h r]
    rfl
theorem dps_app {K : PySem.W.Frag} {H : Hp} : ∀ {vs : List V} {ds : List PyData} {ws : List V} {es : List PyData}, DpAll K H vs ds → DpAll K H ws es → DpAll K H (vs ++ ws) (ds ++ es)
  | _, _, _, _, .nil, h => h
  | _, _, _, _, .cons a b, h => .cons a (dps_app b h)
theorem dps_len {K : PySem.W.Frag} {H : Hp} : ∀ {vs : List V} {ds : List PyData}, DpAll K H vs ds → vs.length = ds.length
  | _, _, .nil => rfl
  | _, _, .cons _ b => congrArg (· + 1) (dps_len b)
theorem dps_get {K : PySem.W.Frag} {H : Hp} : ∀ {vs : List V} {ds : List PyData} {i : Nat} {v : V}, DpAll K H vs ds → vs[i]? = some v → ∃ d, ds[i]? = some d ∧ Dp K H v d
  | _, _, 0, _, .cons a _, h => by
    cases (Option.some.inj h)
    exact ⟨_, rfl, a⟩
  | _, _, i + 1, _, .cons _ b, h => dps_get (i := i) b h
  | _, _, _, _, .nil, h => by simp at h
theorem dps_map {K : PySem.W.Frag} {H : Hp} {α : Type} {f : α → V} {g : α → PyData} (h : ∀ x, Dp K H (f x) (g x)) : ∀ xs : List α, DpAll K H (xs.map f) (xs.map g)
  | [] => .nil
  | x :: r => .cons (h x) (dps_map h r)
/-! ### shapes -/
theorem lays_map {α : Type} (f : α → PyData) (n : Nat) (h : ∀ x, PyData.canLay0 (f x) = true ∧ PyData.depth (f x) ≤ n) : ∀ xs : List α, PyData.canLayAll0 (xs.map f) = true ∧ PyData.depthAll (xs.map f) ≤ n
  | [] => ⟨rfl, Nat.zero_le _⟩
  | x :: r => by
    obtain ⟨h1, h2⟩ := lays_map f n h r
    obtain ⟨h3, h4⟩ := h x
    refine ⟨?_, ?_⟩
    · show (PyData.canLay0 (f x) && PyData.canLayAll0 (r.map f)) = true
      rw [h1, h3]
      rfl
    · show max (PyData.depth (f x)) (PyData.depthAll (r.map f)) ≤ n
      omega
theorem shaped_list {ds : List PyData} (n : Nat) (hn : n ≤ 63) (h : PyData.canLayAll0 ds = true ∧ PyData.depthAll ds ≤ n) : SeqAt.shaped (.list ds) = true := by
  unfold SeqAt.shaped
  show (PyData.canLayAll0 ds && decide (PyData.depthAll ds + 1 ≤ 64)) = true
  rw [h.1, decide_eq_true (by have := h.2; omega)]
  rfl
theorem shaped_tuple {ds : List PyData} (n : Nat) (hn : n ≤ 63) (h : PyData.canLayAll0 ds = true ∧ PyData.depthAll ds ≤ n) : SeqAt.shaped (.tuple ds) = true := by
  unfold SeqAt.shaped
  show (PyData.canLayAll0 ds && decide (PyData.depthAll ds + 1 ≤ 64)) = true
  rw [h.1, decide_eq_true (by have := h.2; omega)]
  rfl
theorem eqv_same {d : PyData} (h : SeqAt.shaped d = true) : PyData.eqv d d = true := SeqAt.eqv_refl d (SeqAt.canLay_of_shaped h)
end Hue
/-! The machine of hues as plain functions: points [9], [26], [27] of the document. -/
namespace Hue
inductive Wd | plus | minus | times | rest | less | same
deriving DecidableEq
def Wd.val (m : Int) : Wd → Int → Int → Int
  | .plus, a, b => (a + b) % m
  | .minus, a, b => (a - b) % m
  | .times, a, b => (a * b) % m
  | .rest, a, b => if b = 0 then 0 else a % b
  | .less, a, b => if a < b then 1 else 0
  | .same, a, b => if a = b then 1 else 0
inductive Ins
  | set (b : Nat) (n : Int)
  | op (w : Wd) (b c d : Nat)
  | get (b c base len : Nat)
  | put (b c base len : Nat)
  | offer (b : Nat)
deriving DecidableEq
inductive Cel
  | ins (i : Nat) (k : Ins)
  | shw (p w : Nat)
  | trn (g w : Nat)
  | tak (b w : Nat)
  | gto (g : Nat)
  | stp
  | mrk
deriving DecidableEq
structure Code where
  votes : List Nat
  size : Nat
  cells : List Cel
  bank : List Int
inductive Item
  | tak (n : Int)
  | shw (p : Nat) (n : Int)
  | stp
deriving DecidableEq
inductive Sta | running | stopped | caught
deriving DecidableEq
structure Hu where
  regs : List Int
  bank : List Int
  ptr : Int
  slot : Option Int
  own : List (Option Ins)
deriving DecidableEq
inductive Plc
  | reg (k : Nat)
  | cel (a : Nat)
  | ptr
  | slot
  | code (a : Nat)
deriving DecidableEq
/-- what a place is set to -/
inductive Nw
  | num (n : Int)
  | non
  | ins (k : Ins)
deriving DecidableEq
structure Stk where
  step : Nat
  hue : Nat
  plc : Plc
  new : Nw
structure Mac where
  code : Code
  hues : List Hu
  row : List Item
  steps : Nat
  st : Sta
  left : List Int
  wait : List Stk
/-! ### one thing of one hue is set -/
def Hu.put (u : Hu) : Plc → Nw → Hu
  | .reg k, .num n => { u with regs := u.regs.set k n }
  | .cel a, .num n => { u with bank := u.bank.set a n }
  | .ptr, .num n => { u with ptr := n }
  | .slot, .num n => { u with slot := some n }
  | .slot, .non => { u with slot := none }
  | .code a, .ins k => { u with own := u.own.set a (some k) }
  | _, _ => u
def upHue (hs : List Hu) (i : Nat) (f : Hu → Hu) : List Hu :=
  match hs[i]? with
  | some u => hs.set i (f u)
  | none => hs
def Mac.strike (M : Mac) (i : Nat) (p : Plc) (n : Nw) : Mac := { M with hues := upHue M.hues i fun u => u.put p n }
def Mac.stk (M : Mac) (k : Stk) : Mac := M.strike k.hue k.plc k.new
/-! ### a step -/
/-- the value that so many have -/
def agreed {α : Type} [DecidableEq α] (xs : List α) (need : Nat) : Option α := xs.find? fun x => decide (need ≤ xs.count x)
/-- the register k, the bank cell k -/
def rg (u : Hu) (k : Nat) : Int := u.regs.getD k 0
def Hu.act (m : Int) (u : Hu) : Ins → Hu
  | .set b n => { u with regs := u.regs.set b n }
  | .op w b c d => { u with regs := u.regs.set b (w.val m (rg u c) (rg u d)) }
  | .get b c base len => { u with regs := u.regs.set b (u.bank.getD (base + (rg u c % (len : Int)).toNat) 0) }
  | .put b c base len => { u with bank := u.bank.set (base + (rg u c % (len : Int)).toNat) (rg u b) }
  | .offer b => { u with slot := some (rg u b) }
def Code.h (c : Code) : Nat := c.votes.length
def Code.need (c : Code) (w : Nat) : Nat := c.votes.getD (w - 1) 0
def Mac.at_ (M : Mac) : Option Nat :=
  match agreed (α := Int) (M.hues.map fun u => u.ptr) (M.code.need M.code.h) with
  | some p => if 0 ≤ p ∧ p < M.code.cells.length then some p.toNat else none
  | none => none
def Mac.allPtr (M : Mac) (p : Int) : Mac := { M with hues := M.hues.map fun u => { u with ptr := p } }
def Mac.noSlots (M : Mac) : Mac := { M with hues := M.hues.map fun u => { u with slot := none } }
def Mac.caught (M : Mac) : Mac := { M with st := .caught }
/-- the number that the slots below the width agree on -/
def Mac.agreedSlot (M : Mac) (w : Nat) : Option Int := agreed ((M.hues.take w).filterMap (·.slot)) (M.code.need w)
def Mac.agreedState (M : Mac) : Option (List Int × List Int) := agreed (M.hues.map fun u => (u.regs, u.bank)) (M.code.need M.code.h)
/-- the instructions of a hue in the code -/
def Code.own (c : Code) (i : Nat) : List (Option Ins) := c.cells.map fun z => match z with
  | .ins j k => if j = i then some k else none
  | _ => none
def Mac.doIns (M : Mac) (p i : Nat) (k : Ins) : Mac := { M with hues := upHue (M.hues.map fun u => { u with ptr := (p : Int) + 1 }) i fun u => u.act M.code.size k }
def Mac.ownAt (M : Mac) (p i : Nat) : Option Ins := (M.hues[i]?).bind fun u => u.own.getD p none
def Mac.cell (M : Mac) (p : Nat) : Cel → Mac
  | .ins i _ => match M.ownAt p i with
    | some k => M.doIns p i k
    | none => M.allPtr ((p : Int) + 1)
  | .shw q w => match M.agreedSlot w with
    | some n => let N := (M.allPtr ((p : Int) + 1)).noSlots; { N with row := N.row ++ [.shw q n] }
    | none => M.caught
  | .trn g w => match M.agreedSlot w with
    | some n => (M.allPtr (if n ≠ 0 then (g : Int) else (p : Int) + 1)).noSlots
    | none => M.caught
  | .tak b w =>
    let n : Int := M.left.headD 0 % (M.code.size : Int)
    let N := M.allPtr ((p : Int) + 1)
    { N with hues := (N.hues.zipIdx.map fun (u, i) => if i < w then { u with regs := u.regs.set b n } else u), row := N.row ++ [.tak n], left := N.left.drop 1 }
  | .gto g => M.allPtr (g : Int)
  | .stp => let N := M.allPtr ((p : Int) + 1); { N with row := N.row ++ [.stp], st := .stopped }
  | .mrk => match M.agreedState with
    | some (rs, bs) => { M with hues := M.hues.zipIdx.map fun (_, i) => { regs := rs, bank := bs, ptr := (p : Int) + 1, slot := none, own := M.code.own i } }
    | none => M.caught
/-- the strikes that are due ahead of this step -/
def Mac.due (M : Mac) : Mac :=
  let ks := M.wait.takeWhile fun k => decide (k.step = M.steps)
  let N := ks.foldl Mac.stk M
  { N with wait := M.wait.dropWhile fun k => decide (k.step = M.steps) }
def Mac.tick (M : Mac) : Mac := { M with steps := M.steps + 1 }
def Mac.exec (M : Mac) : Mac := match M.at_ with
  | some p => match M.code.cells[p]? with
    | some z => M.cell p z
    | none => M.caught
  | none => M.caught
def Mac.step (M : Mac) : Mac := if M.st = .running then M.due.exec.tick else M
def Mac.go : Nat → Mac → Mac
  | 0, M => M
  | n + 1, M => Mac.go n M.step
def Code.begun (c : Code) (inputs : List Int) (ks : List Stk) : Mac where
  code := c
  hues := (List.range c.h).map fun i => { regs := List.replicate 8 0, bank := c.bank, ptr := 0, slot := none, own := c.own i }
  row := []
  steps := 0
  st := .running
  left := inputs
  wait := ks
/-- the address of the property -/
def Mac.addr (M : Mac) : Option Nat := if M.st = .running then M.at_ else none
/-! ### what is a code -/
def votesOk (vs : List Nat) : Prop := 1 ≤ vs.length ∧ vs.length ≤ 5 ∧ ∀ i v, vs[i]? = some v → v ≤ i + 1 ∧ i + 1 < 2 * v
def insOk (m : Nat) (B : Nat) : Ins → Prop
  | .set b n => b < 8 ∧ 0 ≤ n ∧ n < m
  | .op _ b c d => b < 8 ∧ c < 8 ∧ d < 8
  | .get b c base len => b < 8 ∧ c < 8 ∧ 1 ≤ len ∧ base + len ≤ B
  | .put b c base len => b < 8 ∧ c < 8 ∧ 1 ≤ len ∧ base + len ≤ B
  | .offer b => b < 8
def celOk (c : Code) : Cel → Prop
  | .ins i k => i < c.h ∧ insOk c.size c.bank.length k
  | .shw p w => p ≤ 5 ∧ 1 ≤ w ∧ w ≤ c.h
  | .trn g w => g < c.cells.length ∧ 1 ≤ w ∧ w ≤ c.h
  | .tak b w => b < 8 ∧ 1 ≤ w ∧ w ≤ c.h
  | .gto g => g < c.cells.length
  | .stp => True
  | .mrk => True
structure Code.Ok (c : Code) : Prop where
  votes : votesOk c.votes
  size : 2 ≤ c.size ∧ c.size ≤ 10000
  many : 1 ≤ c.cells.length ∧ c.cells.length ≤ 4000
  cells : ∀ z ∈ c.cells, celOk c z
  bank : c.bank.length ≤ 600 ∧ ∀ n ∈ c.bank, 0 ≤ n ∧ n < c.size
end Hue
namespace Hue
open L2 PySem.Spec PySem PyProof.Rows
/-! ### what never runs; module's numbers; lists or tuples -/
theorem ps_never {X : Cx} {st : Stmt} : PS X st (fun _ _ _ => False) := ⟨fun _ _ _ _ _ _ h => h.elim⟩
theorem pe_never {X : Cx} {e : Expr} : PE X e (fun _ _ _ => False) := ⟨fun _ _ _ _ _ _ h => h.elim⟩
def IntG (mg : Str → Option Value) (x : Str) (n : Int) : Prop := ∃ t, mg x = some (.int n t)
theorem pe_gint {X : Cx} {x : Str} {n : Int} {pos : Pos} (h : IntG X.mg x n) (hg : Gl X x) (hd : (x == ("__debug__" : Str)) = false := by decide) : PE X (.Name x pos) (tC (.int n)) := by
  obtain ⟨t, e⟩ := h
  exact pe_glob hg e ⟨t, rfl⟩ hd
theorem pe_gref {X : Cx} {x : Str} {a : Addr} {pos : Pos} (h : X.mg x = some (.ref a)) (hg : Gl X x) (hd : (x == ("__debug__" : Str)) = false := by decide) : PE X (.Name x pos) (tC (.ref a)) := pe_glob hg h rfl hd
def iOr (a b : TI) : TI := fun σ H R => a σ H R ∨ b σ H R
theorem pi_or {X : Cx} {tg it : Expr} {a b : TI} (p : PI X tg it a) (q : PI X tg it b) : PI X tg it (iOr a b) :=
  ⟨fun pins s σ H R I h => h.elim (p.run pins s σ H R I) (q.run pins s σ H R I)⟩
/-- the module's numbers -/
structure Gn (mg : Str → Option Value) : Prop where
  MOST_INPUTS : IntG mg "MOST_INPUTS" 400
  GREATEST_INPUT : IntG mg "GREATEST_INPUT" 9999
  MOST_STEPS : IntG mg "MOST_STEPS" 1000000
  LEAST_SIZE : IntG mg "LEAST_SIZE" 2
  GREATEST_SIZE : IntG mg "GREATEST_SIZE" 10000
  GREATEST_PORT : IntG mg "GREATEST_PORT" 5
  MOST_HUES : IntG mg "MOST_HUES" 5
  MOST_CELLS : IntG mg "MOST_CELLS" 4000
  MOST_BANK : IntG mg "MOST_BANK" 600
  REGISTERS : IntG mg "REGISTERS" 8
  MOST_STRIKES : IntG mg "MOST_STRIKES" 400
/-- a written dict of the module with text keys, and the tuples of texts that stand in it -/
def KTexts (K : PySem.W.Frag) (d : Addr) (key : Str) (ks : List Str) : Prop := ∃ b : Addr, PySem.W.nsIn K d key = some (some (.ref b)) ∧ ∀ H, SqT K H b (ks.map V.str)
structure GD (K : PySem.W.Frag) (w : World) (mg : Str → Option Value) (aW aT aI aS : Addr) (eI : Array DictEntry) (nI : Nat) (eS : Array DictEntry) (nS : Nat) : Prop where
  gWORDS : mg "WORDS" = some (.ref aW)
  words : ∀ H, SqT K H aW [.str "plus", .str "minus", .str "times", .str "rest", .str "less", .str "same"]
  gTWO_OPERANDS : mg "TWO_OPERANDS" = some (.ref aT)
  two : ∀ H, SqT K H aT [.str "register", .str "register", .str "register"]
  gINSTRUCTIONS : mg "INSTRUCTIONS" = some (.ref aI)
  dI : KDict K w aI eI nI
  gSETTLES : mg "SETTLES" = some (.ref aS)
  dS : KDict K w aS eS nS
  iSet : KTexts K aI "set" ["register", "number"]
  iGet : KTexts K aI "get" ["register", "register", "base", "length"]
  iPut : KTexts K aI "put" ["register", "register", "base", "length"]
  iOffer : KTexts K aI "offer" ["register"]
  sShow : KTexts K aS "show" ["port", "width"]
  sTurn : KTexts K aS "turn" ["goal", "width"]
  sTake : KTexts K aS "take" ["register", "width"]
  sGoto : KTexts K aS "goto" ["goal"]
  sStop : KTexts K aS "stop" []
  sMark : KTexts K aS "mark" []
def spFrom : Sp := fun vs H Q _ => ∃ (n lo : Int), vs = [.int n, .int lo] ∧ Q (.bl (decide (lo ≤ n))) H
def spWithin : Sp := fun vs H Q _ => ∃ (n lo hi : Int), vs = [.int n, .int lo, .int hi] ∧ Q (.bl (decide (lo ≤ n ∧ n ≤ hi))) H
section
variable {P : Program} {w : World} {K : PySem.W.Frag} {mg : Str → Option Value} {base : Heap}
theorem scFrom : FnScope ["value", "low"] ["value", "low"] (defScope sIsFrom) := ⟨rfl, rfl, rfl, by decide +kernel, rfl, by decide +kernel, by decide +kernel⟩
theorem ok_from {f : Addr} {fd : FuncData} (F : Fun K "is_from" "is_from" sIsFrom f fd) (T : Bt mg) : FnOk P w K mg base CX0 1 f fd ["value", "low"] spFrom := by
  refine F.ok scFrom (fun vs H Q E h => ?_) (fun cdv A outer s H vs Q E hr h => ?_)
  · obtain ⟨n, lo, rfl, _⟩ := h
    rfl
  · have nd := scFrom.nd
    obtain ⟨n, lo, rfl, q⟩ := h
    refine ⟨_, pss_cons (ps_if (PW.pt (pw_or (pt_val (pe_callB call_isi (by rfl) T.isinstance (by decide +kernel) (pa_cons (pv 0) (pa_cons (pe_bltn (v := .ty "bool") (u := .type "bool") (by rfl) T.bool (by decide +kernel) rfl) pa_nil)))) (pw_or1 (pt_not (pt_val (pe_callB call_isi (by rfl) T.isinstance (by decide +kernel) (pa_cons (pv 0) (pa_cons (pe_bltn (v := .ty "int") (u := .type "int") (by rfl) T.int (by decide +kernel) rfl) pa_nil))))))))
      (pss_one (ps_ret pe_bl))
      pss_nil)
      (pss_one (ps_ret (pe_cmpR op_ge (pv 0) (pv 1) (nomark _)))), ?_⟩
    refine ⟨_, rfl, _, _, _, _, false, rfl, .ty _, .base (.int _), kit_ty (by decide +kernel), _, rfl, ?_⟩
    refine iteF ?_
    refine ⟨_, rfl, _, _, _, _, true, rfl, .ty _, .base (.int _), kit_ty (by decide +kernel), _, rfl, ?_⟩
    refine iteF ?_
    exact ⟨_, rfl, _, rfl, _, _, rfl, rfl, q⟩
theorem scWithin : FnScope ["value", "low", "high"] ["value", "low", "high"] (defScope sIsWithin) := ⟨rfl, rfl, rfl, by decide +kernel, rfl, by decide +kernel, by decide +kernel⟩
theorem ok_within {f : Addr} {fd : FuncData} (F : Fun K "is_within" "is_within" sIsWithin f fd) (D : Df P w K mg base 1 "is_from" ["value", "low"] spFrom) : FnOk P w K mg base CX0 2 f fd ["value", "low", "high"] spWithin := by
  obtain ⟨f1, fd1, Gis_from, gis_from, kis_from, bis_from⟩ := D
  refine F.ok scWithin (fun vs H Q E h => ?_) (fun cdv A outer s H vs Q E hr h => ?_)
  · obtain ⟨n, lo, hi, rfl, _⟩ := h
    rfl
  · have nd := scWithin.nd
    obtain ⟨n, lo, hi, rfl, q⟩ := h
    refine ⟨_, pss_one (ps_ret (pe_and (pe_call Gis_from hr rfl gis_from kis_from bis_from .nil pass0 (pa_cons (pv 0) (pa_cons (pv 1) pa_nil))) (pe_one (pe_cmpR op_le (pv 0) (pv 2) (nomark _))))), ?_⟩
    refine ⟨_, rfl, _, rfl, n, lo, rfl, ?_⟩
    refine ⟨_, rfl, ite2 (fun e => ?_) (fun e => ?_)⟩
    · have e := of_decide_eq_true e
      refine ⟨_, rfl, _, rfl, _, _, rfl, rfl, ?_⟩
      show Q (.bl (decide (n ≤ hi))) H
      rw [show decide (n ≤ hi) = decide (lo ≤ n ∧ n ≤ hi) by rw [decide_eq_decide]; exact ⟨fun z => ⟨e, z⟩, fun z => z.2⟩]
      exact q
    · have e : ¬ lo ≤ n := fun z => e (decide_eq_true z)
      show Q (.bl false) H
      rw [show false = decide (lo ≤ n ∧ n ≤ hi) from (decide_eq_false fun z => e z.1).symm]
      exact q
theorem df_within (X1 : Tx K mg "is_from" sIsFrom ["value", "low"]) (X2 : Tx K mg "is_within" sIsWithin ["value", "low", "high"]) (T : Bt mg) : Df P w K mg base 2 "is_within" ["value", "low", "high"] spWithin :=
  X2.df fun f fd F => ok_within F (X1.df fun f fd F => ok_from F T)
/-- a steps' check -/
def spChkSteps : Sp := fun vs H Q _ => ∃ n : Nat, vs = [.int (n : Int)] ∧ n ≤ 1000000 ∧ Q .non H
theorem scChkSteps : FnScope ["steps"] ["steps"] (defScope sCheckSteps) := ⟨rfl, rfl, rfl, by decide +kernel, rfl, by decide +kernel, by decide +kernel⟩
theorem ok_chkSteps {f : Addr} {fd : FuncData} (F : Fun K "check_steps" "check_steps" sCheckSteps f fd) (G : Gn mg) (D : Df P w K mg base 2 "is_within" ["value", "low", "high"] spWithin) : FnOk P w K mg base CX0 3 f fd ["steps"] spChkSteps := by
  obtain ⟨f1, fd1, Gis_within, gis_within, kis_within, bis_within⟩ := D
  refine F.ok scChkSteps (fun vs H Q E h => ?_) (fun cdv A outer s H vs Q E hr h => ?_)
  · obtain ⟨n, rfl, _⟩ := h
    rfl
  · have nd := scChkSteps.nd
    obtain ⟨n, rfl, hn, q⟩ := h
    refine ⟨_, pss_one (ps_if (pt_not (pt_val (pe_call Gis_within hr rfl gis_within kis_within bis_within .nil pass0 (pa_cons (pv 0) (pa_cons pe_int (pa_cons (pe_gint G.MOST_STEPS rfl) pa_nil))))))
      (pss_one (ps_never))
      pss_nil), ?_⟩
    refine ⟨_, rfl, _, _, _, rfl, _, rfl, ?_⟩
    rw [decide_eq_true (show (0 : Int) ≤ (n : Int) ∧ (n : Int) ≤ 1000000 by omega)]
    exact iteF q
theorem tyx_tup {K : PySem.W.Frag} {H : Hp} {a : Addr} {xs : List V} (h : SqT K H a xs) : TyX K H (.ref a) (.type "tuple") := by
  rcases h with (h | ⟨o, h⟩) | ⟨o, its, n, h, c, _⟩
  · exact .base (.tup h)
  · exact .fTuple h
  · exact .kTuple h c
theorem tyx_lst {K : PySem.W.Frag} {H : Hp} {a : Addr} {xs : List V} (h : SqL K H a xs) : TyX K H (.ref a) (.type "list") := by
  rcases h with (h | ⟨o, h⟩) | ⟨o, its, n, h, c, _⟩
  · exact .base (.lst h)
  · exact .base (.frz h)
  · exact .kList h c
/-- a list or a tuple -/
def SqA (K : PySem.W.Frag) (H : Hp) (a : Addr) (xs : List V) : Prop := SqL K H a xs ∨ SqT K H a xs
theorem SqA.same {K : PySem.W.Frag} {H H' : Hp} {a : Addr} {xs : List V} (h : SqA K H a xs) (e : Same H H') : SqA K H' a xs := h.imp e.seq (Tk.same e).seq
theorem SqA.kit {K : PySem.W.Frag} {H : Hp} {a : Addr} {xs : List V} (h : SqA K H a xs) : ∃ t : Value, TyX K H (.ref a) t ∧ PySem.W.kitAny K t [.type "list", .type "tuple"] = some true := by
  rcases h with h | h
  · exact ⟨_, tyx_lst h, kitAny_cons (kit_ty (b := "list") (r := true) (by decide +kernel)) (fun z => by cases z) fun _ => rfl⟩
  · exact ⟨_, tyx_tup h, kitAny_cons (kit_ty (b := "list") (r := false) (by decide +kernel)) (fun _ => kitAny_cons (kit_ty (b := "tuple") (r := true) (by decide +kernel)) (fun z => by cases z) fun _ => rfl) fun z => by cases z⟩
/-- inputs' check -/
def spChkInputs (K : PySem.W.Frag) : Sp := fun vs H Q _ => ∃ (a : Addr) (ns : List Int), vs = [.ref a] ∧ SqA K H a (ns.map .int) ∧ ns.length ≤ 400 ∧ (∀ n ∈ ns, 0 ≤ n ∧ n ≤ 9999) ∧ ∀ H', Same H H' → Q .non H'
theorem scChkInputs : FnScope ["inputs", "number"] ["inputs"] (defScope sCheckInputs) := ⟨rfl, rfl, rfl, by decide +kernel, rfl, by decide +kernel, by decide +kernel⟩
theorem ok_chkInputs {f : Addr} {fd : FuncData} (F : Fun K "check_inputs" "check_inputs" sCheckInputs f fd) (G : Gn mg) (T : Bt mg) (D : Df P w K mg base 2 "is_within" ["value", "low", "high"] spWithin) : FnOk P w K mg base CX0 3 f fd ["inputs"] (spChkInputs K) := by
  obtain ⟨f1, fd1, Gis_within, gis_within, kis_within, bis_within⟩ := D
  refine F.ok scChkInputs (fun vs H Q E h => ?_) (fun cdv A outer s H vs Q E hr h => ?_)
  · obtain ⟨a, ns, rfl, _⟩ := h
    rfl
  · have nd := scChkInputs.nd
    obtain ⟨a, ns, rfl, hH, hl, hb, q⟩ := h
    refine ⟨_, pss_cons (ps_if (pt_not (pt_val (pe_callB call_isiT (by rfl) T.isinstance (by decide +kernel) (pa_cons (pv 0) (pa_cons (pe_tup (pa_cons (pe_bltn (v := .ty "list") (u := .type "list") (by rfl) T.list (by decide +kernel) rfl) (pa_cons (pe_bltn (v := .ty "tuple") (u := .type "tuple") (by rfl) T.tuple (by decide +kernel) rfl) pa_nil))) pa_nil)))))
      (pss_one (ps_never))
      pss_nil)
      (pss_cons (ps_if (pt_cmpR op_gt (pe_callB call_len_seq (by rfl) T.len PySem.boot_len (pa_cons (pv 0) pa_nil)) (pe_gint G.MOST_INPUTS rfl) (nomark _))
      (pss_one (ps_never))
      pss_nil)
      (pss_one (ps_for PassesOwn.never rfl (pi_or (pi_list (pv 0)) (pi_tup (pv 0))) (pg_name (i := 1) nd rfl (.inl rfl))
      (pss_one (ps_if (pt_not (pt_val (pe_call Gis_within hr rfl gis_within kis_within bis_within .nil pass0 (pa_cons (pv 1) (pa_cons pe_int (pa_cons (pe_gint G.GREATEST_INPUT rfl) pa_nil))))))
        (pss_one (ps_never))
        pss_nil))))), ?_⟩
    refine ⟨_, rfl, (by show 2 ≤ sizeLine; decide), fun p hp => ?_⟩
    have s1 : Same H (upd H p (.tup [.ty "list", .ty "tuple"])) := same_new hp
    obtain ⟨t, ty, kt⟩ := (hH.same s1).kit
    refine ⟨_, p, _, t, _, true, rfl, upd_same, .cons (.ty _) (.cons (.ty _) .nil), ty, kt, _, rfl, ?_⟩
    refine iteF ?_
    refine ⟨_, rfl, a, _, rfl, hH.same s1, _, _, rfl, rfl, _, rfl, ?_⟩
    rw [List.length_map, decide_eq_false (show ¬ ((400 : Int) < (ns.length : Int)) by omega)]
    refine iteF ?_
    rcases hH with hH | hH
    · refine .inl ⟨_, rfl, a, rfl, ⟨_, s1.seq hH⟩, for_list (xs := ns.map .int) (fun i σ H' => (∃ y, σ = [some (.ref a), y]) ∧ Same H H') ⟨⟨_, rfl⟩, s1⟩ (fun i σ H' _ h => h.2.seq hH) (fun i x σ H' hx h => ?_) (fun σ H' h => q _ h.2)⟩
      obtain ⟨⟨y, rfl⟩, sm⟩ := h
      rw [List.getElem?_map] at hx
      obtain ⟨n, hn, rfl⟩ := Option.map_eq_some_iff.mp hx
      have b := hb n (List.mem_of_getElem? hn)
      refine ⟨_, rfl, _, _, _, rfl, _, rfl, ?_⟩
      rw [decide_eq_true b]
      exact iteF ⟨⟨_, rfl⟩, sm⟩
    · refine .inr ⟨_, rfl, a, rfl, ⟨_, (Tk.same s1).seq hH⟩, for_tup (xs := ns.map .int) (fun i σ H' => (∃ y, σ = [some (.ref a), y]) ∧ Same H H') ⟨⟨_, rfl⟩, s1⟩ (fun i σ H' _ h => (Tk.same h.2).seq hH) (fun i x σ H' hx h => ?_) (fun σ H' h => q _ h.2)⟩
      obtain ⟨⟨y, rfl⟩, sm⟩ := h
      rw [List.getElem?_map] at hx
      obtain ⟨n, hn, rfl⟩ := Option.map_eq_some_iff.mp hx
      have b := hb n (List.mem_of_getElem? hn)
      refine ⟨_, rfl, _, _, _, rfl, _, rfl, ?_⟩
      rw [decide_eq_true b]
      exact iteF ⟨⟨_, rfl⟩, sm⟩
end
end Hue
namespace Hue
open L2 PySem.Spec PySem PyProof.Rows
/-! ### bounds -/
structure Bd where
  hues : Nat
  size : Nat
  bank : Nat
  many : Nat
def bfs (B : Bd) : List (Str × V) := putF "many" (.int B.many) (putF "bank" (.int B.bank) (putF "size" (.int B.size) (putF "hues" (.int B.hues) [])))
theorem bf_hues (B : Bd) : (bfs B).lookup ("hues" : Str) = some (.int B.hues) := by
  unfold bfs
  rw [lookup_putF, if_neg (by decide +kernel), lookup_putF, if_neg (by decide +kernel), lookup_putF, if_neg (by decide +kernel), lookup_putF, if_pos rfl]
theorem bf_size (B : Bd) : (bfs B).lookup ("size" : Str) = some (.int B.size) := by
  unfold bfs
  rw [lookup_putF, if_neg (by decide +kernel), lookup_putF, if_neg (by decide +kernel), lookup_putF, if_pos rfl]
theorem bf_bank (B : Bd) : (bfs B).lookup ("bank" : Str) = some (.int B.bank) := by
  unfold bfs
  rw [lookup_putF, if_neg (by decide +kernel), lookup_putF, if_pos rfl]
theorem bf_many (B : Bd) : (bfs B).lookup ("many" : Str) = some (.int B.many) := by
  unfold bfs
  rw [lookup_putF, if_pos rfl]
theorem putF_le (f : Str) (v : V) : ∀ fs : List (Str × V), (putF f v fs).length ≤ fs.length + 1
  | [] => Nat.le_refl _
  | (g, u) :: r => by
    unfold putF
    split
    · exact Nat.le_succ _
    · exact Nat.succ_le_succ (putF_le f v r)
/-- the class of bounds -/
structure BC (K : PySem.W.Frag) (mg : Str → Option Value) (C f : Addr) : Prop where
  cls : Cls K C
  hues : NoAttr K C "hues"
  size : NoAttr K C "size"
  bank : NoAttr K C "bank"
  many : NoAttr K C "many"
  maker : Mk K C f
  g : mg "Bounds" = some (.ref C)
def BdAt (C : Addr) (H : Hp) (b : Addr) (B : Bd) : Prop := ∃ dx, H b = some (.ins C dx (bfs B))
theorem BdAt.same {C : Addr} {H H' : Hp} {b : Addr} {B : Bd} (h : BdAt C H b B) (e : Same H H') : BdAt C H' b B := by
  obtain ⟨dx, h⟩ := h
  exact ⟨dx, e _ _ h⟩
inductive KindOk (B : Bd) : Str → Int → Prop
  | reg (n : Int) : 0 ≤ n → n < 8 → KindOk B "register" n
  | num (n : Int) : 0 ≤ n → n < B.size → KindOk B "number" n
  | base (n : Int) : 0 ≤ n → n < B.bank → KindOk B "base" n
  | len (n : Int) : 1 ≤ n → n ≤ B.bank → KindOk B "length" n
  | wid (n : Int) : 1 ≤ n → n ≤ B.hues → KindOk B "width" n
  | goal (n : Int) : 0 ≤ n → n < B.many → KindOk B "goal" n
  | port (n : Int) : 0 ≤ n → n ≤ 5 → KindOk B "port" n
def spKind (C : Addr) : Sp := fun vs H Q _ => ∃ (b : Addr) (B : Bd) (k : Str) (n : Int), vs = [.ref b, .str k, .int n] ∧ BdAt C H b B ∧ KindOk B k n ∧ Q (.bl true) H
def spBInit (C : Addr) : Sp := fun vs H Q _ => ∃ (x dx : Addr) (B : Bd), vs = [.ref x, .int B.hues, .int B.size, .int B.bank, .int B.many] ∧ H x = some (.ins C dx []) ∧ ∀ H', H' x = some (.ins C dx (bfs B)) → (∀ b, b ≠ x → H' b = H b) → Q .non H'
section
variable {P : Program} {w : World} {K : PySem.W.Frag} {mg : Str → Option Value} {base : Heap}
theorem scBInit : FnScope ["self", "hues", "size", "bank", "many"] ["self", "hues", "size", "bank", "many"] (defScope sBounds) := ⟨rfl, rfl, rfl, by decide +kernel, rfl, by decide +kernel, by decide +kernel⟩
theorem ok_bInit {f C f0 : Addr} {fd : FuncData} (F : Fun K "__init__" "Bounds.__init__" sBounds f fd) (T : BC K mg C f0) : FnOk P w K mg base CX0 1 f fd ["self", "hues", "size", "bank", "many"] (spBInit C) := by
  refine F.ok scBInit (fun vs H Q E h => ?_) (fun cdv A outer s H vs Q E hr h => ?_)
  · obtain ⟨x, dx, B, rfl, _⟩ := h
    rfl
  · have nd := scBInit.nd
    obtain ⟨x, dx, B, rfl, hx, q⟩ := h
    refine ⟨_, pss_cons (ps_fld (pv 0) (pv 1) rfl)
      (pss_cons (ps_fld (pv 0) (pv 2) rfl)
      (pss_cons (ps_fld (pv 0) (pv 3) rfl)
      (pss_one (ps_fld (pv 0) (pv 4) rfl)))), ?_⟩
    refine ⟨_, rfl, _, rfl, x, C, dx, _, rfl, hx, T.cls, T.hues, (by decide), ?_⟩
    refine ⟨_, rfl, _, rfl, x, C, dx, _, rfl, upd_same, T.cls, T.size, (by have z1 := putF_le "hues" (.int B.hues) []; have e0 : ([] : List (Str × V)).length = 0 := rfl; omega), ?_⟩
    refine ⟨_, rfl, _, rfl, x, C, dx, _, rfl, upd_same, T.cls, T.bank, (by have z1 := putF_le "hues" (.int B.hues) []; have z2 := putF_le "size" (.int B.size) (putF "hues" (.int B.hues) []); have e0 : ([] : List (Str × V)).length = 0 := rfl; omega), ?_⟩
    refine ⟨_, rfl, _, rfl, x, C, dx, _, rfl, upd_same, T.cls, T.many, (by have z1 := putF_le "hues" (.int B.hues) []; have z2 := putF_le "size" (.int B.size) (putF "hues" (.int B.hues) []); have z3 := putF_le "bank" (.int B.bank) (putF "size" (.int B.size) (putF "hues" (.int B.hues) [])); have e0 : ([] : List (Str × V)).length = 0 := rfl; omega), ?_⟩
    exact q _ upd_same fun b n => by rw [upd_ne n, upd_ne n, upd_ne n, upd_ne n]
/-- bounds_of -/
def spBoundsOf (K : PySem.W.Frag) (C : Addr) : Sp := fun vs H Q _ => ∃ (a : Addr) (m : Int) (av ac ab : Addr) (xv xc xb : List V) (B : Bd), vs = [.ref a] ∧ SqT K H a [.ref av, .int m, .ref ac, .ref ab] ∧ SqT K H av xv ∧ SqT K H ac xc ∧ SqT K H ab xb ∧ B = ⟨xv.length, m.toNat, xb.length, xc.length⟩ ∧ 0 ≤ m ∧
  ∀ H' b, Same H H' → H b = none → BdAt C H' b B → Q (.ref b) H'
theorem scBoundsOf : FnScope ["code", "votes", "size", "inside", "bank"] ["code"] (defScope sBoundsOf) := ⟨rfl, rfl, rfl, by decide +kernel, rfl, by decide +kernel, by decide +kernel⟩
theorem ok_boundsOf {f C f0 : Addr} {fd fd0 : FuncData} (F : Fun K "bounds_of" "bounds_of" sBoundsOf f fd) (T : Bt mg) (Z : BC K mg C f0) (F0 : Fun K "__init__" "Bounds.__init__" sBounds f0 fd0) (b0 : L2.Binds K fd0 ["self", "hues", "size", "bank", "many"] []) : FnOk P w K mg base CX0 3 f fd ["code"] (spBoundsOf K C) := by
  have G0 := ok_bInit (P := P) (w := w) (base := base) F0 Z
  refine F.ok scBoundsOf (fun vs H Q E h => ?_) (fun cdv A outer s H vs Q E hr h => ?_)
  · obtain ⟨a, _, _, _, _, _, _, _, _, rfl, _⟩ := h
    rfl
  · have nd := scBoundsOf.nd
    obtain ⟨a, m, av, ac, ab, xv, xc, xb, B, rfl, h1, h2, h3, h4, rfl, hm, q⟩ := h
    refine ⟨_, pss_cons (ps_asg (pv 0) (pg_tup (by rfl) (pgs_cons (pg_name (i := 1) nd rfl (.inl rfl)) (pgs_cons (pg_name (i := 2) nd rfl (.inl rfl)) (pgs_cons (pg_name (i := 3) nd rfl (.inl rfl)) (pgs_cons (pg_name (i := 4) nd rfl (.inl rfl)) pgs_nil))))))
      (pss_one (ps_ret (pe_make Z.maker G0 (hr.mono (by decide)) (by rfl) Z.g b0 .nil pass0 (pa_cons (pe_callB call_len_seq (by rfl) T.len PySem.boot_len (pa_cons (pv 1) pa_nil)) (pa_cons (pv 2) (pa_cons (pe_callB call_len_seq (by rfl) T.len PySem.boot_len (pa_cons (pv 4) pa_nil)) (pa_cons (pe_callB call_len_seq (by rfl) T.len PySem.boot_len (pa_cons (pv 3) pa_nil)) pa_nil))))))), ?_⟩
    refine ⟨_, rfl, a, _, rfl, h1, rfl, _, _, rfl, _, _, rfl, _, _, rfl, _, _, rfl, rfl, ?_⟩
    refine ⟨_, rfl, av, _, rfl, .inr h2, _, rfl, _, rfl, ab, _, rfl, .inr h4, _, rfl, ac, _, rfl, .inr h3, ?_⟩
    intro x dx hx hdx ne
    refine ⟨x, dx, ⟨xv.length, m.toNat, xb.length, xc.length⟩, ?_, upd_same, fun H' e1 e2 => ⟨rfl, ?_⟩⟩
    · show [V.ref x, .int _, .int m, .int _, .int _] = _
      rw [Int.toNat_of_nonneg hm]
    · refine q H' x (fun b o e => ?_) hx ⟨dx, e1⟩
      have n1 : b ≠ x := ne_of_none e hx
      rw [e2 b n1, upd_ne n1, upd_ne (ne_of_none e hdx)]
      exact e
end
end Hue
namespace Hue
open L2 PySem.Spec PySem PyProof.Rows
section
variable {P : Program} {w : World} {K : PySem.W.Frag} {mg : Str → Option Value} {base : Heap}
theorem scKind : FnScope ["bounds", "kind", "item"] ["bounds", "kind", "item"] (defScope sFitsKind) := ⟨rfl, rfl, rfl, by decide +kernel, rfl, by decide +kernel, by decide +kernel⟩
theorem ok_kind {f C f0 : Addr} {fd : FuncData} (F : Fun K "fits_kind" "fits_kind" sFitsKind f fd) (N : Gn mg) (Z : BC K mg C f0) (D : Df P w K mg base 2 "is_within" ["value", "low", "high"] spWithin) : FnOk P w K mg base CX0 3 f fd ["bounds", "kind", "item"] (spKind C) := by
  obtain ⟨f1, fd1, Gis_within, gis_within, kis_within, bis_within⟩ := D
  refine F.ok scKind (fun vs H Q E h => ?_) (fun cdv A outer s H vs Q E hr h => ?_)
  · obtain ⟨b, B, k, n, rfl, _⟩ := h
    rfl
  · have nd := scKind.nd
    obtain ⟨b, B, k, n, rfl, ⟨dx, hb⟩, ok, q⟩ := h
    refine ⟨_, pss_cons (ps_if (pt_cmpR op_eq (pv 1) pe_str (nomark _))
      (pss_one (ps_ret (pe_call Gis_within hr rfl gis_within kis_within bis_within .nil pass0 (pa_cons (pv 2) (pa_cons pe_int (pa_cons (pe_op op_sub (pe_gint N.REGISTERS rfl) pe_int) pa_nil))))))
      pss_nil)
      (pss_cons (ps_if (pt_cmpR op_eq (pv 1) pe_str (nomark _))
      (pss_one (ps_ret (pe_call Gis_within hr rfl gis_within kis_within bis_within .nil pass0 (pa_cons (pv 2) (pa_cons pe_int (pa_cons (pe_op op_sub (pe_fld (pv 0) rfl) pe_int) pa_nil))))))
      pss_nil)
      (pss_cons (ps_if (pt_cmpR op_eq (pv 1) pe_str (nomark _))
      (pss_one (ps_ret (pe_call Gis_within hr rfl gis_within kis_within bis_within .nil pass0 (pa_cons (pv 2) (pa_cons pe_int (pa_cons (pe_op op_sub (pe_fld (pv 0) rfl) pe_int) pa_nil))))))
      pss_nil)
      (pss_cons (ps_if (PW.pt (pw_or (pt_cmpR op_eq (pv 1) pe_str (nomark _)) (pw_or1 (pt_cmpR op_eq (pv 1) pe_str (nomark _)))))
      (pss_one (ps_ret (pe_call Gis_within hr rfl gis_within kis_within bis_within .nil pass0 (pa_cons (pv 2) (pa_cons pe_int (pa_cons (pe_ifExp (pt_cmpR op_eq (pv 1) pe_str (nomark _)) (pe_fld (pv 0) rfl) (pe_fld (pv 0) rfl)) pa_nil))))))
      pss_nil)
      (pss_cons (ps_if (pt_cmpR op_eq (pv 1) pe_str (nomark _))
      (pss_one (ps_ret (pe_call Gis_within hr rfl gis_within kis_within bis_within .nil pass0 (pa_cons (pv 2) (pa_cons pe_int (pa_cons (pe_op op_sub (pe_fld (pv 0) rfl) pe_int) pa_nil))))))
      pss_nil)
      (pss_one (ps_ret (pe_call Gis_within hr rfl gis_within kis_within bis_within .nil pass0 (pa_cons (pv 2) (pa_cons pe_int (pa_cons (pe_gint N.GREATEST_PORT rfl) pa_nil)))))))))), ?_⟩
    cases ok with
    | reg _ h0 h1 =>
      refine ⟨_, rfl, rfl, _, rfl, iteT ?_⟩
      refine ⟨_, rfl, _, _, rfl, rfl, _, _, _, rfl, ?_⟩
      rw [decide_eq_true (show (0 : Int) ≤ n ∧ n ≤ 8 - 1 by omega)]
      exact q
    | num _ h0 h1 =>
      refine ⟨_, rfl, rfl, _, rfl, iteF ?_⟩
      refine ⟨_, rfl, rfl, _, rfl, iteT ?_⟩
      refine ⟨_, rfl, _, rfl, b, C, dx, _, _, rfl, hb, Z.cls, Z.size, bf_size B, _, _, rfl, rfl, _, _, _, rfl, ?_⟩
      rw [decide_eq_true (show (0 : Int) ≤ n ∧ n ≤ (B.size : Int) - 1 by omega)]
      exact q
    | base _ h0 h1 =>
      refine ⟨_, rfl, rfl, _, rfl, iteF ?_⟩
      refine ⟨_, rfl, rfl, _, rfl, iteF ?_⟩
      refine ⟨_, rfl, rfl, _, rfl, iteT ?_⟩
      refine ⟨_, rfl, _, rfl, b, C, dx, _, _, rfl, hb, Z.cls, Z.bank, bf_bank B, _, _, rfl, rfl, _, _, _, rfl, ?_⟩
      rw [decide_eq_true (show (0 : Int) ≤ n ∧ n ≤ (B.bank : Int) - 1 by omega)]
      exact q
    | len _ h0 h1 =>
      refine ⟨_, rfl, rfl, _, rfl, iteF ?_⟩
      refine ⟨_, rfl, rfl, _, rfl, iteF ?_⟩
      refine ⟨_, rfl, rfl, _, rfl, iteF ?_⟩
      refine ⟨_, rfl, rfl, _, rfl, iteT (iteT ?_)⟩
      refine ⟨_, rfl, _, rfl, rfl, _, rfl, iteT ?_⟩
      refine ⟨_, rfl, b, C, dx, _, _, rfl, hb, Z.cls, Z.bank, bf_bank B, _, _, _, rfl, ?_⟩
      rw [decide_eq_true (show (1 : Int) ≤ n ∧ n ≤ (B.bank : Int) by omega)]
      exact q
    | wid _ h0 h1 =>
      refine ⟨_, rfl, rfl, _, rfl, iteF ?_⟩
      refine ⟨_, rfl, rfl, _, rfl, iteF ?_⟩
      refine ⟨_, rfl, rfl, _, rfl, iteF ?_⟩
      refine ⟨_, rfl, rfl, _, rfl, iteF ?_⟩
      refine ⟨_, rfl, rfl, _, rfl, iteT ?_⟩
      refine ⟨_, rfl, _, rfl, rfl, _, rfl, iteF ?_⟩
      refine ⟨_, rfl, b, C, dx, _, _, rfl, hb, Z.cls, Z.hues, bf_hues B, _, _, _, rfl, ?_⟩
      rw [decide_eq_true (show (1 : Int) ≤ n ∧ n ≤ (B.hues : Int) by omega)]
      exact q
    | goal _ h0 h1 =>
      refine ⟨_, rfl, rfl, _, rfl, iteF ?_⟩
      refine ⟨_, rfl, rfl, _, rfl, iteF ?_⟩
      refine ⟨_, rfl, rfl, _, rfl, iteF ?_⟩
      refine ⟨_, rfl, rfl, _, rfl, iteF ?_⟩
      refine ⟨_, rfl, rfl, _, rfl, iteF ?_⟩
      refine ⟨_, rfl, rfl, _, rfl, iteT ?_⟩
      refine ⟨_, rfl, _, rfl, b, C, dx, _, _, rfl, hb, Z.cls, Z.many, bf_many B, _, _, rfl, rfl, _, _, _, rfl, ?_⟩
      rw [decide_eq_true (show (0 : Int) ≤ n ∧ n ≤ (B.many : Int) - 1 by omega)]
      exact q
    | port _ h0 h1 =>
      refine ⟨_, rfl, rfl, _, rfl, iteF ?_⟩
      refine ⟨_, rfl, rfl, _, rfl, iteF ?_⟩
      refine ⟨_, rfl, rfl, _, rfl, iteF ?_⟩
      refine ⟨_, rfl, rfl, _, rfl, iteF ?_⟩
      refine ⟨_, rfl, rfl, _, rfl, iteF ?_⟩
      refine ⟨_, rfl, rfl, _, rfl, iteF ?_⟩
      refine ⟨_, rfl, _, _, _, rfl, ?_⟩
      rw [decide_eq_true (show (0 : Int) ≤ n ∧ n ≤ 5 by omega)]
      exact q
def spItems (K : PySem.W.Frag) (C : Addr) : Sp := fun vs H Q _ => ∃ (b ak ai : Addr) (B : Bd) (ks : List Str) (ns : List Int), vs = [.ref b, .ref ak, .ref ai] ∧ BdAt C H b B ∧ SqT K H ak (ks.map V.str) ∧ SqT K H ai (ns.map V.int) ∧ ks.length = ns.length ∧
  (∀ (i : Nat) (k : Str) (n : Int), ks[i]? = some k → ns[i]? = some n → KindOk B k n) ∧ ∀ H', Same H H' → Q (.bl true) H'
theorem scItems : FnScope ["bounds", "kinds", "items", "kind", "item"] ["bounds", "kinds", "items"] (defScope sFitItems) := ⟨rfl, rfl, rfl, by decide +kernel, rfl, by decide +kernel, by decide +kernel⟩
theorem ok_items {f C : Addr} {fd : FuncData} (F : Fun K "fit_items" "fit_items" sFitItems f fd) (T : Bt mg) (D : Df P w K mg base 3 "fits_kind" ["bounds", "kind", "item"] (spKind C)) : FnOk P w K mg base CX0 4 f fd ["bounds", "kinds", "items"] (spItems K C) := by
  obtain ⟨f1, fd1, Gfits_kind, gfits_kind, kfits_kind, bfits_kind⟩ := D
  refine F.ok scItems (fun vs H Q E h => ?_) (fun cdv A outer s H vs Q E hr h => ?_)
  · obtain ⟨b, ak, ai, B, ks, ns, rfl, _⟩ := h
    rfl
  · have nd := scItems.nd
    obtain ⟨b, ak, ai, B, ks, ns, rfl, hb, hk, hi, hl, ok, q⟩ := h
    refine ⟨_, pss_cons (ps_if (pt_cmpR op_ne (pe_callB call_len_seq (by rfl) T.len PySem.boot_len (pa_cons (pv 2) pa_nil)) (pe_callB call_len_seq (by rfl) T.len PySem.boot_len (pa_cons (pv 1) pa_nil)) (nomark _))
      (pss_one (ps_ret pe_bl))
      pss_nil)
      (pss_cons (ps_for PassesOwn.never rfl (RZ.pi_zipA (by rfl) T.zip (pa_cons (pv 1) (pa_cons (pv 2) pa_nil))) (pg_tup (by rfl) (pgs_cons (pg_name (i := 3) nd rfl (.inl rfl)) (pgs_cons (pg_name (i := 4) nd rfl (.inl rfl)) pgs_nil)))
      (pss_one (ps_if (pt_not (pt_val (pe_call Gfits_kind hr rfl gfits_kind kfits_kind bfits_kind .nil pass0 (pa_cons (pv 0) (pa_cons (pv 3) (pa_cons (pv 4) pa_nil))))))
        (pss_one (ps_ret pe_bl))
        pss_nil)))
      (pss_one (ps_ret pe_bl))), ?_⟩
    refine ⟨_, rfl, ai, _, rfl, .inr hi, _, rfl, ak, _, rfl, .inr hk, rfl, _, rfl, ?_⟩
    rw [List.length_map, List.length_map, hl]
    refine iteNS rfl ?_
    refine ⟨_, rfl, _, rfl, ak, ai, _, _, rfl, .inr ⟨hk, hi, RZ.for_zipT (xs := ks.map V.str) (ys := ns.map V.int) (by rw [List.length_map, List.length_map, hl]) (fun i σ H' => (∃ y1 y2, σ = [some (.ref b), some (.ref ak), some (.ref ai), y1, y2]) ∧ Same H H') ⟨⟨_, _, rfl⟩, fun _ _ e => e⟩ (fun i σ H' h => ⟨(Tk.same h.2).seq hk, (Tk.same h.2).seq hi⟩) (fun i x y T σ H' hx hy h hT => ?_) (fun σ H' h => ?_)⟩⟩
    · obtain ⟨⟨y1, y2, rfl⟩, sm⟩ := h
      rw [List.getElem?_map] at hx hy
      obtain ⟨k, hk', rfl⟩ := Option.map_eq_some_iff.mp hx
      obtain ⟨n, hn', rfl⟩ := Option.map_eq_some_iff.mp hy
      have s1 := sm.trans (same_new (o := .tup [.str k, .int n]) hT)
      refine ⟨T, _, rfl, .inl (.inl upd_same), rfl, _, _, rfl, _, _, rfl, rfl, ?_⟩
      refine ⟨_, rfl, _, rfl, _, rfl, b, B, k, n, rfl, hb.same s1, ok i k n hk' hn', _, rfl, iteF ?_⟩
      exact ⟨⟨_, _, rfl⟩, s1⟩
    · exact q _ h.2
end
end Hue
namespace Hue
open L2 PySem.Spec PySem PyProof.Rows
def sixV : List V := [.str "plus", .str "minus", .str "times", .str "rest", .str "less", .str "same"]
inductive InsFits (K : PySem.W.Frag) (aI : Addr) (B : Bd) (i : Nat) : List V → Prop
  | word (s : Str) (ns : List Int) : inV (.str s) sixV = true → ns.length = 3 → (∀ n ∈ ns, 0 ≤ n ∧ n < 8) → InsFits K aI B i (.int i :: .str s :: ns.map V.int)
  | other (s : Str) (ks : List Str) (ns : List Int) (r : Bool) : inV (.str s) sixV = false → KTexts K aI s ks → ks.length = ns.length → (∀ (j : Nat) (k : Str) (n : Int), ks[j]? = some k → ns[j]? = some n → KindOk B k n) →
      decide (V.str s = V.str "set") = r → (r = false → decide (V.str s = V.str "offer") = true ∨ decide (V.str s = V.str "offer") = false ∧ ∃ x y a b, ns = [a, b, x, y] ∧ x + y ≤ B.bank) → InsFits K aI B i (.int i :: .str s :: ns.map V.int)
def spFitsIns (K : PySem.W.Frag) (C aI : Addr) : Sp := fun vs H Q _ => ∃ (b a : Addr) (B : Bd) (i : Nat) (xs : List V), vs = [.ref b, .int i, .ref a] ∧ BdAt C H b B ∧ SqT K H a xs ∧ InsFits K aI B i xs ∧ ∀ H', Same H H' → Q (.bl true) H'
theorem cut_tail (x : V) (xs : List V) : cutV (x :: xs) (some 1) none = xs := by
  have h := HT.sIx_nat (x :: xs).length 0 1
  unfold cutV
  rw [show (some (1 : Int)) = some ((1 : Nat) : Int) from rfl, h, HT.sIx_none]
  rw [Nat.min_eq_left (by rw [List.length_cons]; omega)]
  show xs.take ((x :: xs).length - 1) = xs
  rw [List.length_cons, Nat.add_sub_cancel, List.take_length]
theorem cut_tail2 (x y : V) (xs : List V) : cutV (x :: y :: xs) (some 2) none = xs := by
  have h := HT.sIx_nat (x :: y :: xs).length 0 2
  unfold cutV
  rw [show (some (2 : Int)) = some ((2 : Nat) : Int) from rfl, h, HT.sIx_none]
  rw [Nat.min_eq_left (by rw [List.length_cons, List.length_cons]; omega)]
  show xs.take ((x :: y :: xs).length - 2) = xs
  rw [List.length_cons, List.length_cons]
  exact List.take_length
theorem cut_not (x : V) (xs : List V) (n : Nat) (h : n = 1 ∨ n = 2 ∧ xs ≠ []) : ¬ (HT.sIx (x :: xs).length 0 (some (n : Int)) = 0 ∧ HT.sIx (x :: xs).length (x :: xs).length none = (x :: xs).length) := by
  rintro ⟨e, _⟩
  rw [HT.sIx_nat] at e
  rw [List.length_cons] at e
  rcases h with h | ⟨h, h'⟩
  · omega
  · cases xs with
    | nil => exact h' rfl
    | cons y r =>
      rw [List.length_cons] at e
      omega
section
variable {P : Program} {w : World} {K : PySem.W.Frag} {mg : Str → Option Value} {base : Heap}
theorem KTexts.dct {a : Addr} {es : Array DictEntry} {n : Nat} {s : Str} {ks : List Str} (D : KDict K w a es n) (h : KTexts K a s ks) : ∃ b : Addr, KDct K w a s (.ref b) ∧ ∀ H, SqT K H b (ks.map V.str) := by
  obtain ⟨b, e, h⟩ := h
  exact ⟨b, ⟨es, n, _, D.at_, D.lit, e, rfl⟩, h⟩
theorem scFitsIns : FnScope ["bounds", "hue", "value", "word"] ["bounds", "hue", "value"] (defScope sFitsIns) := ⟨rfl, rfl, rfl, by decide +kernel, rfl, by decide +kernel, by decide +kernel⟩
theorem ok_fitsIns {f C f0 aW aT aI aS : Addr} {eI eS : Array DictEntry} {nI nS : Nat} {fd : FuncData} (F : Fun K "fits_instruction" "fits_instruction" sFitsIns f fd) (T : Bt mg) (Z : BC K mg C f0) (G : GD K w mg aW aT aI aS eI nI eS nS) (D1 : Df P w K mg base 2 "is_within" ["value", "low", "high"] spWithin) (D2 : Df P w K mg base 4 "fit_items" ["bounds", "kinds", "items"] (spItems K C)) : FnOk P w K mg base CX0 5 f fd ["bounds", "hue", "value"] (spFitsIns K C aI) := by
  obtain ⟨f1, fd1, G1, gis_within, kis_within, bis_within⟩ := D1
  obtain ⟨f2, fd2, Gfit_items, gfit_items, kfit_items, bfit_items⟩ := D2
  refine F.ok scFitsIns (fun vs H Q E h => ?_) (fun cdv A outer s H vs Q E hr h => ?_)
  · obtain ⟨b, a, B, i, xs, rfl, _⟩ := h
    rfl
  · have nd := scFitsIns.nd
    have Gis_within := G1.mono (show 2 ≤ 4 by decide)
    obtain ⟨b, a, B, i, xs, rfl, hb, hS, ok, q⟩ := h
    refine ⟨_, pss_cons (ps_if (PW.pt (pw_or (pt_not (pt_val (pe_callB call_isi (by rfl) T.isinstance (by decide +kernel) (pa_cons (pv 2) (pa_cons (pe_bltn (v := .ty "tuple") (u := .type "tuple") (by rfl) T.tuple (by decide +kernel) rfl) pa_nil))))) (pw_or (pt_cmpR op_lt (pe_callB call_len_seq (by rfl) T.len PySem.boot_len (pa_cons (pv 2) pa_nil)) pe_int (nomark _)) (pw_or1 (pt_not (pt_val (pe_call Gis_within hr rfl gis_within kis_within bis_within .nil pass0 (pa_cons (pe_ix ix_tup (pv 2) pe_int (fun _ _ => rfl)) (pa_cons (pv 1) (pa_cons (pv 1) pa_nil))))))))))
      (pss_one (ps_ret pe_bl))
      pss_nil)
      (pss_cons (ps_set (i := 3) nd rfl (.inl rfl) (pe_ix ix_tup (pv 2) pe_int (fun _ _ => rfl)))
      (pss_cons (ps_if (pt_not (pt_val (pe_callB call_isi (by rfl) T.isinstance (by decide +kernel) (pa_cons (pv 3) (pa_cons (pe_bltn (v := .ty "str") (u := .type "str") (by rfl) T.str (by decide +kernel) rfl) pa_nil)))))
      (pss_one (ps_ret pe_bl))
      pss_nil)
      (pss_cons (ps_if (pt_cmpR op_in_seq (pv 3) (pe_gref G.gWORDS rfl) (by with_unfolding_all rfl))
      (pss_one (ps_ret (pe_call Gfit_items hr rfl gfit_items kfit_items bfit_items .nil pass0 (pa_cons (pv 0) (pa_cons (pe_gref G.gTWO_OPERANDS rfl) (pa_cons (pe_slice sl_tup (pv 2) (po_some pe_int) po_none) pa_nil))))))
      pss_nil)
      (pss_cons (ps_if (PW.pt (pw_or (pt_cmpR (op_notIn_kd G.dI) (pv 3) (pe_gref G.gINSTRUCTIONS rfl) (by with_unfolding_all rfl)) (pw_or1 (pt_not (pt_val (pe_call Gfit_items hr rfl gfit_items kfit_items bfit_items .nil pass0 (pa_cons (pv 0) (pa_cons (pe_ix ix_kdict (pe_gref G.gINSTRUCTIONS rfl) (pv 3) (fun _ _ => rfl)) (pa_cons (pe_slice sl_tup (pv 2) (po_some pe_int) po_none) pa_nil)))))))))
      (pss_one (ps_ret pe_bl))
      pss_nil)
      (pss_one (ps_ret (pe_or (pe_cmpR op_eq (pv 3) pe_str (nomark _)) (pe_or (pe_cmpR op_eq (pv 3) pe_str (nomark _)) (pe_one (pe_cmpR op_le (pe_op op_add (pe_ix ix_tup (pv 2) pe_int (fun _ _ => rfl)) (pe_ix ix_tup (pv 2) pe_int (fun _ _ => rfl))) (pe_fld (pv 0) rfl) (nomark _))))))))))), ?_⟩
    cases ok with
    | word s ns hin hl hn =>
      refine ⟨_, rfl, .ref a, _, _, _, true, rfl, .ty _, tyx_tup hS, kit_ty (by decide +kernel), _, rfl, iteF ?_⟩
      refine ⟨_, rfl, a, _, rfl, .inr hS, _, _, rfl, rfl, _, rfl, ?_⟩
      rw [show decide (((V.int (i : Int) :: V.str s :: ns.map V.int).length : Int) < 2) = false by rw [List.length_cons, List.length_cons]; exact decide_eq_false (by omega)]
      refine iteF ?_
      refine ⟨_, rfl, a, _, 0, _, rfl, rfl, hS, at_of (j := 0) rfl rfl, _, rfl, _, rfl, _, _, _, rfl, _, rfl, ?_⟩
      rw [decide_eq_true (show ((i : Int) ≤ (i : Int) ∧ (i : Int) ≤ (i : Int)) by omega)]
      refine iteF ?_
      refine ⟨_, rfl, a, _, 1, _, rfl, rfl, hS, at_of (j := 1) rfl rfl, ?_⟩
      refine ⟨_, rfl, .str s, _, _, _, true, rfl, .ty _, .base (.str _), kit_ty (by decide +kernel), _, rfl, iteF ?_⟩
      refine ⟨_, rfl, aW, _, rfl, .inr (G.words _), rfl, rfl, true, congrArg V.bl hin, iteT ?_⟩
      refine ⟨_, rfl, _, rfl, _, rfl, a, _, rfl, hS, cut_not _ _ 2 (.inr ⟨rfl, fun z => by cases z⟩), fun p hp => ?_⟩
      have s1 := same_new (o := .tup (cutV (.int i :: .str s :: ns.map V.int) (some 2) none)) hp
      refine ⟨b, aT, p, B, ["register", "register", "register"], ns, rfl, hb.same s1, G.two _, .inl (.inl ?_), ?_, fun j k n hk hj => ?_, fun H' e => q H' (s1.trans e)⟩
      · rw [upd_same, cut_tail2]
      · rw [hl]
        rfl
      · have hm := hn n (List.mem_of_getElem? hj)
        have hk' : k = "register" := by
          have z := List.mem_of_getElem? hk
          simp only [List.mem_cons, List.not_mem_nil, or_false, or_self] at z
          exact z
        subst hk'
        exact .reg n hm.1 hm.2
    | other s ks ns r hin hk hl hn hr1 hr2 =>
      refine ⟨_, rfl, .ref a, _, _, _, true, rfl, .ty _, tyx_tup hS, kit_ty (by decide +kernel), _, rfl, iteF ?_⟩
      refine ⟨_, rfl, a, _, rfl, .inr hS, _, _, rfl, rfl, _, rfl, ?_⟩
      rw [show decide (((V.int (i : Int) :: V.str s :: ns.map V.int).length : Int) < 2) = false by rw [List.length_cons, List.length_cons]; exact decide_eq_false (by omega)]
      refine iteF ?_
      refine ⟨_, rfl, a, _, 0, _, rfl, rfl, hS, at_of (j := 0) rfl rfl, _, rfl, _, rfl, _, _, _, rfl, _, rfl, ?_⟩
      rw [decide_eq_true (show ((i : Int) ≤ (i : Int) ∧ (i : Int) ≤ (i : Int)) by omega)]
      refine iteF ?_
      refine ⟨_, rfl, a, _, 1, _, rfl, rfl, hS, at_of (j := 1) rfl rfl, ?_⟩
      refine ⟨_, rfl, .str s, _, _, _, true, rfl, .ty _, .base (.str _), kit_ty (by decide +kernel), _, rfl, iteF ?_⟩
      refine ⟨_, rfl, aW, _, rfl, .inr (G.words _), rfl, rfl, false, congrArg V.bl hin, iteF ?_⟩
      obtain ⟨kb, hkd, hks⟩ := hk.dct G.dI
      obtain ⟨kb', hkn, _⟩ := hk
      refine ⟨_, rfl, s, _, rfl, rfl, hkn, _, rfl, iteF ?_⟩
      refine ⟨_, rfl, _, rfl, aI, s, _, rfl, rfl, hkd, _, rfl, _, rfl, a, _, rfl, hS, cut_not _ _ 2 (.inr ⟨rfl, fun z => by cases z⟩), fun p hp => ?_⟩
      have s1 := same_new (o := .tup (cutV (.int i :: .str s :: ns.map V.int) (some 2) none)) hp
      refine ⟨b, kb, p, B, ks, ns, rfl, hb.same s1, hks _, .inl (.inl ?_), hl, hn, fun H' e => ?_⟩
      · rw [upd_same, cut_tail2]
      refine ⟨_, rfl, iteF ?_⟩
      refine ⟨_, rfl, rfl, r, congrArg V.bl hr1, ite2 (fun _ => q _ (s1.trans e)) (fun er => ?_)⟩
      rcases hr2 (by cases r; rfl; exact absurd rfl er) with z | ⟨z, x, y, a0, b0, rfl, hxy⟩
      · exact ⟨_, rfl, rfl, true, congrArg V.bl z, iteT (q _ (s1.trans e))⟩
      · obtain ⟨dx, hb'⟩ := hb.same (s1.trans e)
        refine ⟨_, rfl, rfl, false, congrArg V.bl z, iteF ?_⟩
        have hS' := (Tk.same (s1.trans e)).seq hS
        refine ⟨_, rfl, a, _, 4, _, rfl, rfl, hS', at_of (j := 4) rfl rfl, _, rfl, a, _, 5, _, rfl, rfl, hS', at_of (j := 5) rfl rfl, _, _, rfl, rfl, _, rfl, b, C, dx, _, _, rfl, hb', Z.cls, Z.bank, bf_bank B, _, _, rfl, rfl, ?_⟩
        show Q (.bl (decide (x + y ≤ (B.bank : Int)))) H'
        rw [decide_eq_true hxy]
        exact q _ (s1.trans e)
/-! ### a cell -/
inductive CellFits (K : PySem.W.Frag) (aS aI : Addr) (B : Bd) : List V → Prop
  | settle (s : Str) (ks : List Str) (ns : List Int) : KTexts K aS s ks → ks.length = ns.length → (∀ (j : Nat) (k : Str) (n : Int), ks[j]? = some k → ns[j]? = some n → KindOk B k n) → CellFits K aS aI B (.str s :: ns.map V.int)
  | ins (i : Nat) (xs : List V) : i < B.hues → InsFits K aI B i xs → CellFits K aS aI B xs
def spFitsCell (K : PySem.W.Frag) (C aS aI : Addr) : Sp := fun vs H Q _ => ∃ (b a : Addr) (B : Bd) (xs : List V), vs = [.ref b, .ref a] ∧ BdAt C H b B ∧ SqT K H a xs ∧ CellFits K aS aI B xs ∧ ∀ H', Same H H' → Q (.bl true) H'
theorem scFitsCell : FnScope ["bounds", "value"] ["bounds", "value"] (defScope sFitsCell) := ⟨rfl, rfl, rfl, by decide +kernel, rfl, by decide +kernel, by decide +kernel⟩
theorem ok_fitsCell {f C f0 aW aT aI aS : Addr} {eI eS : Array DictEntry} {nI nS : Nat} {fd : FuncData} (F : Fun K "fits_cell" "fits_cell" sFitsCell f fd) (T : Bt mg) (Z : BC K mg C f0) (G : GD K w mg aW aT aI aS eI nI eS nS) (D1 : Df P w K mg base 2 "is_within" ["value", "low", "high"] spWithin) (D2 : Df P w K mg base 4 "fit_items" ["bounds", "kinds", "items"] (spItems K C)) (D3 : Df P w K mg base 5 "fits_instruction" ["bounds", "hue", "value"] (spFitsIns K C aI)) : FnOk P w K mg base CX0 6 f fd ["bounds", "value"] (spFitsCell K C aS aI) := by
  obtain ⟨f1, fd1, G1, gis_within, kis_within, bis_within⟩ := D1
  obtain ⟨f2, fd2, G2, gfit_items, kfit_items, bfit_items⟩ := D2
  obtain ⟨f3, fd3, Gfits_instruction, gfits_instruction, kfits_instruction, bfits_instruction⟩ := D3
  refine F.ok scFitsCell (fun vs H Q E h => ?_) (fun cdv A outer s H vs Q E hr h => ?_)
  · obtain ⟨b, a, B, xs, rfl, _⟩ := h
    rfl
  · have nd := scFitsCell.nd
    have Gis_within := G1.mono (show 2 ≤ 5 by decide)
    have Gfit_items := G2.mono (show 4 ≤ 5 by decide)
    obtain ⟨b, a, B, xs, rfl, hb, hS, ok, q⟩ := h
    refine ⟨_, pss_cons (ps_if (PW.pt (pw_or (pt_not (pt_val (pe_callB call_isi (by rfl) T.isinstance (by decide +kernel) (pa_cons (pv 1) (pa_cons (pe_bltn (v := .ty "tuple") (u := .type "tuple") (by rfl) T.tuple (by decide +kernel) rfl) pa_nil))))) (pw_or1 (pt_cmpR op_lt (pe_callB call_len_seq (by rfl) T.len PySem.boot_len (pa_cons (pv 1) pa_nil)) pe_int (nomark _)))))
      (pss_one (ps_ret pe_bl))
      pss_nil)
      (pss_cons (ps_if (pt_val (pe_callB call_isi (by rfl) T.isinstance (by decide +kernel) (pa_cons (pe_ix ix_tup (pv 1) pe_int (fun _ _ => rfl)) (pa_cons (pe_bltn (v := .ty "str") (u := .type "str") (by rfl) T.str (by decide +kernel) rfl) pa_nil))))
      (pss_one (ps_ret (pe_and (pe_cmpR (op_in_kd G.dS) (pe_ix ix_tup (pv 1) pe_int (fun _ _ => rfl)) (pe_gref G.gSETTLES rfl) (by with_unfolding_all rfl)) (pe_one (pe_call Gfit_items hr rfl gfit_items kfit_items bfit_items .nil pass0 (pa_cons (pv 0) (pa_cons (pe_ix ix_kdict (pe_gref G.gSETTLES rfl) (pe_ix ix_tup (pv 1) pe_int (fun _ _ => rfl)) (fun _ _ => rfl)) (pa_cons (pe_slice sl_tup (pv 1) (po_some pe_int) po_none) pa_nil))))))))
      pss_nil)
      (pss_one (ps_ret (pe_and (pe_call Gis_within hr rfl gis_within kis_within bis_within .nil pass0 (pa_cons (pe_ix ix_tup (pv 1) pe_int (fun _ _ => rfl)) (pa_cons pe_int (pa_cons (pe_op op_sub (pe_fld (pv 0) rfl) pe_int) pa_nil)))) (pe_one (pe_call Gfits_instruction hr rfl gfits_instruction kfits_instruction bfits_instruction .nil pass0 (pa_cons (pv 0) (pa_cons (pe_ix ix_tup (pv 1) pe_int (fun _ _ => rfl)) (pa_cons (pv 1) pa_nil))))))))), ?_⟩
    cases ok with
    | settle s ks ns hk hl hn =>
      refine ⟨_, rfl, .ref a, _, _, _, true, rfl, .ty _, tyx_tup hS, kit_ty (by decide +kernel), _, rfl, iteF ?_⟩
      refine ⟨_, rfl, a, _, rfl, .inr hS, _, _, rfl, rfl, false, congrArg V.bl (decide_eq_false (by rw [List.length_cons]; omega)), iteF ?_⟩
      refine ⟨_, rfl, a, _, 0, _, rfl, rfl, hS, at_of (j := 0) rfl rfl, .str s, _, _, _, true, rfl, .ty _, .base (.str _), kit_ty (by decide +kernel), _, rfl, iteT ?_⟩
      obtain ⟨kb, hkd, hks⟩ := hk.dct G.dS
      obtain ⟨kb', hkn, _⟩ := hk
      refine ⟨_, rfl, a, _, 0, _, rfl, rfl, hS, at_of (j := 0) rfl rfl, s, _, rfl, rfl, hkn, true, rfl, iteT ?_⟩
      refine ⟨_, rfl, _, rfl, a, _, 0, _, rfl, rfl, hS, at_of (j := 0) rfl rfl, aS, s, _, rfl, rfl, hkd, _, rfl, _, rfl, a, _, rfl, hS, cut_not _ _ 1 (.inl rfl), fun p hp => ?_⟩
      have s1 := same_new (o := .tup (cutV (.str s :: ns.map V.int) (some 1) none)) hp
      refine ⟨b, kb, p, B, ks, ns, rfl, hb.same s1, hks _, .inl (.inl ?_), hl, hn, fun H' e => q _ (s1.trans e)⟩
      rw [upd_same, cut_tail]
    | ins i _ hi ok =>
      have hx : ∃ r, xs = .int i :: r := by
        cases ok with
        | word s ns => exact ⟨_, rfl⟩
        | other s ks ns => exact ⟨_, rfl⟩
      obtain ⟨r, rfl⟩ := hx
      refine ⟨_, rfl, .ref a, _, _, _, true, rfl, .ty _, tyx_tup hS, kit_ty (by decide +kernel), _, rfl, iteF ?_⟩
      refine ⟨_, rfl, a, _, rfl, .inr hS, _, _, rfl, rfl, false, congrArg V.bl (decide_eq_false (by rw [List.length_cons]; omega)), iteF ?_⟩
      refine ⟨_, rfl, a, _, 0, _, rfl, rfl, hS, at_of (j := 0) rfl rfl, .int i, _, _, _, false, rfl, .ty _, .base (.int _), kit_ty (by decide +kernel), _, rfl, iteF ?_⟩
      obtain ⟨dx, hb'⟩ := id hb
      refine ⟨_, rfl, a, _, 0, _, rfl, rfl, hS, at_of (j := 0) rfl rfl, _, rfl, b, C, dx, _, _, rfl, hb', Z.cls, Z.hues, bf_hues B, _, _, rfl, rfl, _, _, _, rfl, true, congrArg V.bl (decide_eq_true (by omega)), iteT ?_⟩
      exact ⟨_, rfl, _, rfl, a, _, 0, _, rfl, rfl, hS, at_of (j := 0) rfl rfl, _, rfl, b, a, B, i, _, rfl, hb, hS, ok, q⟩
end
end Hue
namespace Hue
open L2 PySem.Spec PySem PyProof.Rows
/-! ### enumerate(tuple) -/
theorem meets_enumT1 {v : Value} {o : Obj} {Hs : Heap → Prop} (B : Begins v o Hs) :
    Meets (Builtin.«enumerate.__new__» ⟨[.type "enumerate", v], []⟩) (fun _ R s => Hs s.heap ∧ R (.ok (.ret (.ref (s.heap.push o).objs.size)))
      { s with heap := (s.heap.push o).push { cls := .type "enumerate", data := .fields #[.none, .bool false, .ref s.heap.objs.size, rawInt 0, .none, .none] } }) :=
  .of_wp fun prog w A R s hs => by
    obtain ⟨hp, gg, dd, tk, os⟩ := s
    obtain ⟨h1, h⟩ := hs
    have hsub := sub_enumerate
    have qi : ∀ {A' : Around} {E : Value → Shared → Prop} {Q : Value → Shared → Prop}, Q (.ref hp.objs.size) ⟨hp.push o, gg, dd, tk, os⟩ →
        wpAny (model prog w) A' (pyIter v) Q E ⟨hp, gg, dd, tk, os⟩ := fun z => B.iter prog w _ _ ⟨hp, gg, dd, tk, os⟩ _ h1 z
    wp_walk
    refine wpAny_stack_any fun st => wpAny_pure ?_
    split
    · rename_i cc _ _ _ _ _
      cases (cc == Value.type "enumerate") with
      | false =>
        wp_walk using qi
        exact ⟨_, rfl, h⟩
      | true =>
        wp_walk using qi
        exact ⟨_, rfl, h⟩
    · wp_walk using qi
      exact ⟨_, rfl, h⟩
def IteT (K : PySem.W.Frag) (a : Addr) : It where
  go := fun i H => ∃ (xs : List V) (x : V), SqT K H a xs ∧ xs[i]? = some x
  yld := fun i H v H' => ∃ (T : Addr) (x : V), v = .ref T ∧ H T = none ∧ H' = upd H T (.tup [.int (i : Int), x]) ∧ ∀ xs, SqT K H a xs → xs[i]? = some x
  stop := fun i H => ∃ xs : List V, SqT K H a xs ∧ xs.length = i
theorem turn_enumT {P : Program} {w : World} {K : PySem.W.Frag} {elts : List Expr} {kk : Nat} {tpos : Pos} (a e it : Addr) :
    Turn P w K (.Tuple elts kk tpos) (IteT K a) [e, it] e (fun i h => (∃ old, IsEnum h e it (i : Int) old) ∧ h.IsTupleIter it a i ∧ e ≠ it) where
  mem := List.mem_cons_self ..
  obj := by
    intro i h st b hb
    obtain ⟨⟨old, he⟩, ⟨o, ho, hc, hd⟩, _⟩ := st
    rcases List.mem_cons.mp hb with z | z
    · rw [z]
      exact ⟨_, he, fun v q => nomatch q⟩
    · rw [List.mem_singleton.mp z]
      exact ⟨o, ho, fun v q => by rw [hd] at q; cases q⟩
  keep := by
    intro i h h' st k
    obtain ⟨⟨old, he⟩, hi, hne⟩ := st
    exact ⟨⟨old, k e (by simp) _ he⟩, hi.at fun o q => k it (by simp) o q, hne⟩
  item := by
    intro X hP hw hK hc i pins s σ H E I hf st hg
    subst hP hw hK
    obtain ⟨⟨old, he⟩, hit, hne⟩ := st
    obtain ⟨xs, x, hq, hx⟩ := hg
    obtain ⟨its, rv, p, hz⟩ := I.tuple hq
    obtain ⟨u, hu, ru⟩ := rv.get hx
    have hel : e < s.heap.objs.size := Heap.lt_size he
    have hil : it < s.heap.objs.size := by
      obtain ⟨_, z, _⟩ := hit
      exact Heap.lt_size z
    have hai : a ≠ it := fun y => by
      obtain ⟨o1, z1, c1, _⟩ := hit
      obtain ⟨o2, z2, c2, _⟩ := p
      rw [y, z1] at z2
      cases z2
      rw [c1] at c2
      exact absurd (Value.type.inj c2) (by decide)
    have hH : X.A.in1.handled = none := I.ok.hd hc
    have hae : e ∉ [it, a] := fun y => by
      rcases List.mem_cons.mp y with z | z
      · exact hne z
      · obtain ⟨o2, z2, c2, _⟩ := p
        rw [← List.mem_singleton.mp z, he] at z2
        cases z2
        exact absurd (Value.type.inj c2) (by decide)
    have hlt : i < its.toArray.size := by
      have := (List.getElem?_eq_some_iff.mp hu).1
      rw [List.size_toArray]
      exact this
    refine wpAny_pyNext_enum_itemC (Draws.tuple hH it a hai its.toArray) he ⟨hit, p⟩ hlt hne hae fun y h' tk hy ho hst hT hsz hk => ?_
    have hyu : y = u := by
      rw [List.getElem?_toArray, hu] at hy
      exact (Option.some.inj hy).symm
    subst hyu
    obtain ⟨hit', hp'⟩ := hst
    refine ⟨_, rfl, wpAny_letOwnedTupleGo_enum (s := { s with heap := h', toks := tk + 1 }) ho fun h2 he2 sb => ?_⟩
    have hT2 := (sb.2 _ (Nat.ne_of_gt hel)).trans hT
    have new : ObjOk X.prog X.w (upd H s.heap.objs.size (.tup [.int (i : Int), x])) h2 s.heap.objs.size (.tup [.int (i : Int), x]) :=
      ⟨by show 2 ≤ sizeLine; decide, [.int i tk, y],
        .cons ⟨_, rfl⟩ (.cons ru .nil), ⟨_, hT2, rfl, _, rfl⟩⟩
    have hnc : ∀ b o, b ∉ [e, it] → s.heap.get? b = some o → h2.get? b = some o := fun b o hb z =>
      (sb.2 b (fun y2 => hb (by simp [y2]))).trans (hk b o (fun y2 => hb (by simp [y2])) (fun y2 => hb (by simp [y2])) z)
    have I1 : Inv X pins σ (upd H s.heap.objs.size (.tup [.int (i : Int), x])) { s with heap := h2, toks := tk + 1 } :=
      I.turnedNew (ch := [e, it]) hnc hf (Nat.le_refl _) new
    have fr := I.hok.fresh (Nat.le_refl _)
    refine ⟨.ref s.heap.objs.size, _, I1, rfl, ⟨_, x, rfl, fr, rfl, fun ys hys => ?_⟩, ⟨⟨y, ?_⟩, hit'.at fun o z => (sb.2 it (Ne.symm hne)).trans z, hne⟩, fun b hb => ?_⟩
    · rw [I.tuple_inj hys hq]
      exact hx
    · rw [show ((i + 1 : Nat) : Int) = (i : Int) + 1 by omega]
      exact he2
    · have hlt2 : b < s.heap.objs.size := by
        rcases List.mem_cons.mp hb with z | z
        · rw [z]
          exact hel
        · rw [List.mem_singleton.mp z]
          exact hil
      rw [upd_ne (Nat.ne_of_lt hlt2)]
      exact (hf b hb).1
  done := by
    intro X hP hw hK hc i pins s σ H E I hf st hg
    subst hP hw hK
    obtain ⟨⟨old, he⟩, hit, hne⟩ := st
    obtain ⟨xs, hq, hx⟩ := hg
    obtain ⟨its, rv, p, hz⟩ := I.tuple hq
    have hH : X.A.in1.handled = none := I.ok.hd hc
    have hai : a ≠ it := fun y => by
      obtain ⟨o1, z1, c1, _⟩ := hit
      obtain ⟨o2, z2, c2, _⟩ := p
      rw [y, z1] at z2
      cases z2
      rw [c1] at c2
      exact absurd (Value.type.inj c2) (by decide)
    have hl := rv.length
    obtain ⟨f0, f1, f2, f3, f4, f5⟩ := hf it (by simp)
    have hsz : its.toArray.size = i := by
      rw [List.size_toArray]
      omega
    refine wpAny_pyNext_enum_endD (Draws.tuple hH it a hai its.toArray) he ⟨by rw [hsz]; exact hit, p⟩ fun h' eb =>
      ⟨rfl, I.turned (t' := s.toks) (fun b o hb z => eb b o hb z) f0 f1 f3 f4 f5⟩
  self := fun A i s Q E st h => by
    obtain ⟨⟨_, he⟩, _⟩ := st
    exact wpAny_pyIter_enum he h
def iEnumT (K : PySem.W.Frag) (ta : TA) : TI := fun σ H R => ta σ H fun vs H1 => ∃ (a : Addr) (xs : List V), vs = [.ref a] ∧ SqT K H1 a xs ∧ R (IteT K a) H1
theorem pi_enumT {X : Cx} {e : Expr} {ta : TA} {p pos tpos : Pos} {elts : List Expr} {kk : Nat} (hg : Gl X "enumerate") (hm : X.mg "enumerate" = none) (ha : PA X [e] ta)
    (hs : starEach [e] X.env = [(false, eval e X.env)] := by rfl) : PI X (.Tuple elts kk tpos) (.Call (.Name "enumerate" p) [e] [] pos) (iEnumT X.K ta) := by
  refine ⟨fun pins s σ H R I h => ?_⟩
  refine Call_ (ld_blt I hg hm boot_enumerate (PyProof.Rows.callWith_type1 (thn (ha.run pos pins s σ H _ I h) fun us s1 ⟨vs, H1, I1, r1, q1⟩ => ?_) hs rfl))
  obtain ⟨a, xs, rfl, hq, q⟩ := q1
  cases r1 with
  | cons r rr =>
    cases rr
    cases r
    obtain ⟨its, rv, p', hz⟩ := I1.tuple hq
    have B := begins_tuple a its.toArray
    refine callType_new F.called_enumerate (by decide) (F.typeCall_enumerate_1 _) (F.newCall_enumerate_1 _) (fun obj => F.args_object_init_2 obj _) F.entry_enumerate_new (meets_enumT1 B) ⟨p', ?_⟩
    have hz2 : (s1.heap.push { cls := .type "tuple_iterator", data := .fields #[.ref a, .int 0 0] }).objs.size = s1.heap.objs.size + 1 := Heap.size_push ..
    show _ ∧ _
    rw [hz2]
    have he : IsEnum ((s1.heap.push { cls := .type "tuple_iterator", data := .fields #[.ref a, .int 0 0] }).push
        { cls := .type "enumerate", data := .fields #[.none, .bool false, .ref s1.heap.objs.size, rawInt 0, .none, .none] }) (s1.heap.objs.size + 1) s1.heap.objs.size 0 .none := by
      have z := Heap.get?_push_size (s1.heap.push { cls := .type "tuple_iterator", data := .fields #[.ref a, .int 0 0] })
        (o := { cls := .type "enumerate", data := .fields #[.none, .bool false, .ref s1.heap.objs.size, rawInt 0, .none, .none] }) rfl
      rw [hz2] at z
      exact z
    have hit := Heap.get?_push_of_some (h := s1.heap.push { cls := .type "tuple_iterator", data := .fields #[.ref a, .int 0 0] })
      { cls := .type "enumerate", data := .fields #[.none, .bool false, .ref s1.heap.objs.size, rawInt 0, .none, .none] } (Heap.get?_push_size s1.heap (o := { cls := .type "tuple_iterator", data := .fields #[.ref a, .int 0 0] }) rfl)
    refine ⟨⟨_, he, rfl⟩, wpAny_pyIter_enum he ?_⟩
    refine ⟨s1.heap.objs.size + 1, [s1.heap.objs.size + 1, s1.heap.objs.size], _, _, H1, rfl, I1.kept (t' := s1.toks) fun b o x => Heap.get?_push_of_some _ (Heap.get?_push_of_some _ x), turn_enumT a (s1.heap.objs.size + 1) s1.heap.objs.size, ⟨⟨.none, he⟩, ⟨_, hit, rfl, rfl⟩, Nat.succ_ne_self _⟩, fun b hb => ?_, q⟩
    have hle : s1.heap.objs.size ≤ b := by
      rcases List.mem_cons.mp hb with z | z
      · rw [z]
        exact Nat.le_add_right _ _
      · rw [List.mem_singleton.mp z]
        exact Nat.le_refl _
    exact I1.fpOk hle (I1.hok.fresh hle)
end Hue
namespace Hue
/-- all instructions and cells -/
def easyI : Ins → Prop := fun _ => True
def easy : Cel → Prop := fun _ => True
def easyN : Nw → Prop := fun _ => True
def easyS (k : Stk) : Prop := easyN k.new
end Hue
namespace Hue
open L2 PySem.Spec PySem PyProof.Rows
/-! ### data of codes -/
def wdS : Wd → Str
  | .plus => "plus"
  | .minus => "minus"
  | .times => "times"
  | .rest => "rest"
  | .less => "less"
  | .same => "same"
def nD (n : Nat) : PyData := .int (n : Int)
def insD (i : Nat) : Ins → PyData
  | .set b n => .tuple [nD i, .str "set", nD b, .int n]
  | .op w b c d => .tuple [nD i, .str (wdS w), nD b, nD c, nD d]
  | .get b c x y => .tuple [nD i, .str "get", nD b, nD c, nD x, nD y]
  | .put b c x y => .tuple [nD i, .str "put", nD b, nD c, nD x, nD y]
  | .offer b => .tuple [nD i, .str "offer", nD b]
def celD : Cel → PyData
  | .ins i k => insD i k
  | .shw p w => .tuple [.str "show", nD p, nD w]
  | .trn g w => .tuple [.str "turn", nD g, nD w]
  | .tak b w => .tuple [.str "take", nD b, nD w]
  | .gto g => .tuple [.str "goto", nD g]
  | .stp => .tuple [.str "stop"]
  | .mrk => .tuple [.str "mark"]
def codeD (c : Code) : PyData := .tuple [.tuple (c.votes.map nD), nD c.size, .tuple (c.cells.map celD), .tuple (c.bank.map .int)]
def itemD : Item → PyData
  | .tak n => .tuple [.str "take", .int n]
  | .shw p n => .tuple [.str "show", nD p, .int n]
  | .stp => .tuple [.str "stop"]
def slotD : Option Int → PyData
  | some n => .int n
  | none => .none
def staS : Sta → Str
  | .running => "running"
  | .stopped => "stopped"
  | .caught => "caught"
def plcD : Plc → PyData
  | .reg k => .tuple [.str "register", nD k]
  | .cel a => .tuple [.str "cell", nD a]
  | .ptr => .tuple [.str "pointer"]
  | .slot => .tuple [.str "slot"]
  | .code a => .tuple [.str "code", nD a]
def nwD (i : Nat) : Nw → PyData
  | .num n => .int n
  | .non => .none
  | .ins k => insD i k
def stkD (k : Stk) : PyData := .tuple [nD k.step, nD k.hue, plcD k.plc, nwD k.hue k.new]
def addrD : Option Nat → PyData
  | some n => nD n
  | none => .none
def ownsL (l : List (Option Ins)) : List Ins := l.filterMap id
def momD (M : Mac) : PyData :=
  .tuple [.tuple (M.hues.zipIdx.map fun (u, i) => .tuple [.tuple (u.regs.map .int), .tuple (u.bank.map .int), .int u.ptr, slotD u.slot, .tuple ((ownsL u.own).map (insD i))]),
    .tuple [.str (staS M.st), .tuple (M.left.map .int)]]
/-! ### shapes -/
theorem ok_take : PyData.canLay0 (.str "take") = true := by decide +kernel
theorem ok_show : PyData.canLay0 (.str "show") = true := by decide +kernel
theorem ok_stop : PyData.canLay0 (.str "stop") = true := by decide +kernel
theorem lay_item (x : Item) : PyData.canLay0 (itemD x) = true ∧ PyData.depth (itemD x) ≤ 1 := by
  cases x with
  | tak n =>
    refine ⟨?_, Nat.le_of_eq rfl⟩
    show (PyData.canLay0 (.str "take") && (true && true)) = true
    rw [ok_take]
    rfl
  | shw p n =>
    refine ⟨?_, Nat.le_of_eq rfl⟩
    show (PyData.canLay0 (.str "show") && (true && (true && true))) = true
    rw [ok_show]
    rfl
  | stp =>
    refine ⟨?_, Nat.le_of_eq rfl⟩
    show (PyData.canLay0 (.str "stop") && true) = true
    rw [ok_stop]
    rfl
theorem shaped_row (r : List Item) : SeqAt.shaped (.list (r.map itemD)) = true := shaped_list 1 (by decide) (lays_map _ _ lay_item _)
theorem lay_slot (x : Option Int) : PyData.canLay0 (slotD x) = true ∧ PyData.depth (slotD x) ≤ 0 := by
  cases x with
  | none => exact ⟨rfl, Nat.le_refl _⟩
  | some n => exact ⟨rfl, Nat.le_refl _⟩
theorem shaped_slots (us : List Hu) : SeqAt.shaped (.tuple (us.map fun u => slotD u.slot)) = true := shaped_tuple 0 (by decide) (lays_map _ _ (fun u => lay_slot u.slot) _)
theorem lay_int (x : Int) : PyData.canLay0 (.int x) = true ∧ PyData.depth (.int x) ≤ 0 := ⟨rfl, Nat.le_refl _⟩
theorem shaped_intT (r : List Int) : SeqAt.shaped (.tuple (r.map PyData.int)) = true := shaped_tuple 0 (by decide) (lays_map _ _ lay_int _)
theorem shaped_intL (r : List Int) : SeqAt.shaped (.list (r.map PyData.int)) = true := shaped_list 0 (by decide) (lays_map _ _ lay_int _)
/-! ### what a new thing must be, for a place -/
def nwOk (c : Code) (i : Nat) : Plc → Nw → Prop
  | .reg k, .num n => k < 8 ∧ 0 ≤ n ∧ n < c.size
  | .cel a, .num n => a < c.bank.length ∧ 0 ≤ n ∧ n < c.size
  | .ptr, .num n => 0 ≤ n ∧ n ≤ 9999
  | .slot, .num n => 0 ≤ n ∧ n < c.size
  | .slot, .non => True
  | .code a, .ins k => (∃ k0, c.cells[a]? = some (.ins i k0)) ∧ insOk c.size c.bank.length k
  | _, _ => False
def stkOk (c : Code) (k : Stk) : Prop := k.step ≤ 1000000 ∧ k.hue < c.h ∧ nwOk c k.hue k.plc k.new
structure StksOk (c : Code) (ks : List Stk) : Prop where
  many : ks.length ≤ 400
  each : ∀ k ∈ ks, stkOk c k
  asc : ks.Pairwise fun a b => a.step ≤ b.step
def inputsOk (ns : List Int) : Prop := ns.length ≤ 400 ∧ ∀ n ∈ ns, 0 ≤ n ∧ n ≤ 9999
/-! ### the promises of a machine, whatever stands for it in the heap -/
abbrev RepT := Hp → Addr → Mac → (Addr → Prop) → Prop
/-- nothing but F changes, and what F is then is of it or new -/
structure Chg (F : Addr → Prop) (H H' : Hp) (F' : Addr → Prop) : Prop where
  keep : ∀ b o, ¬ F b → H b = some o → H' b = some o
  tk : Tk H H'
  sub : ∀ b, F' b → F b ∨ H b = none
  live : ∀ b o, H b = some o → ∃ u, H' b = some u
theorem Chg.refl (F : Addr → Prop) (H : Hp) : Chg F H H F := ⟨fun _ _ _ h => h, Tk.refl H, fun _ h => .inl h, fun _ o h => ⟨o, h⟩⟩
def spMInit (K : PySem.W.Frag) (C : Addr) (Rep : RepT) : Sp := fun vs H Q _ => ∃ (x dx : Addr) (v1 v2 v3 : V) (c : Code) (ins : List Int) (ks : List Stk), vs = [.ref x, v1, v2, v3] ∧ H x = some (.ins C dx []) ∧ H dx = some (.own x) ∧
  Dp K H v1 (codeD c) ∧ (Dp K H v2 (.list (ins.map .int)) ∨ Dp K H v2 (.tuple (ins.map .int))) ∧ (Dp K H v3 (.list (ks.map stkD)) ∨ Dp K H v3 (.tuple (ks.map stkD))) ∧ c.Ok ∧ inputsOk ins ∧ StksOk c ks ∧ (∀ z ∈ c.cells, easy z) ∧ (∀ k ∈ ks, easyS k) ∧
  ∀ (F : Addr → Prop) (H' : Hp), Rep H' x (c.begun ins ks) F → (∀ b o, H b = some o → b ≠ x → b ≠ dx → H' b = some o) → (∀ b, F b → b = x ∨ b = dx ∨ H b = none) → Q .non H'
def spMGo (Rep : RepT) : Sp := fun vs H Q _ => ∃ (a : Addr) (n : Nat) (M : Mac) (F : Addr → Prop), vs = [.ref a, .int (n : Int)] ∧ Rep H a M F ∧ n ≤ 1000000 ∧ M.row.length + n ≤ 16000000 ∧
  ∀ (F' : Addr → Prop) (H' : Hp), Rep H' a (M.go n) F' → Chg F H H' F' → Q .non H'
def spMStrike (K : PySem.W.Frag) (Rep : RepT) : Sp := fun vs H Q _ => ∃ (a : Addr) (i : Nat) (vp vn : V) (p : Plc) (nw : Nw) (M : Mac) (F : Addr → Prop), vs = [.ref a, .int (i : Int), vp, vn] ∧ Rep H a M F ∧ i < M.code.h ∧
  Dp K H vp (plcD p) ∧ Dp K H vn (nwD i nw) ∧ nwOk M.code i p nw ∧ easyN nw ∧ ∀ (F' : Addr → Prop) (H' : Hp), Rep H' a (M.strike i p nw) F' → Chg F H H' F' → Q .non H'
def spMOwn (K : PySem.W.Frag) (Rep : RepT) : Sp := fun vs H Q _ => ∃ (a : Addr) (i p : Nat) (M : Mac) (F : Addr → Prop) (u : Hu) (k : Ins), vs = [.ref a, .int (i : Int), .int (p : Int)] ∧ Rep H a M F ∧ M.hues[i]? = some u ∧ u.own.getD p none = some k ∧ ∀ (v : V) (H' : Hp), Same H H' → Dp K H' v (insD i k) → Q v H'
/-- a property, a method of one hue: a new thing that tells something -/
def spMTell (K : PySem.W.Frag) (Rep : RepT) (D : Mac → PyData) : Sp := fun vs H Q _ => ∃ (a : Addr) (M : Mac) (F : Addr → Prop), vs = [.ref a] ∧ Rep H a M F ∧ ∀ (v : V) (H' : Hp), Same H H' → Dp K H' v (D M) → Q v H'
def spMHue (K : PySem.W.Frag) (Rep : RepT) (D : Hu → PyData) : Sp := fun vs H Q _ => ∃ (a : Addr) (i : Nat) (M : Mac) (F : Addr → Prop) (u : Hu), vs = [.ref a, .int (i : Int)] ∧ Rep H a M F ∧ M.hues[i]? = some u ∧ ∀ (v : V) (H' : Hp), Same H H' → Dp K H' v (D u) → Q v H'
section
variable (P : Program) (w : World) (K : PySem.W.Frag) (mg : Str → Option Value) (base : Heap)
/-- a method that keeps a promise; a property -/
def MethOk (k : Nat) (C : Addr) (m : Str) (ps : List Str) (sp : Sp) : Prop := ∃ (f : Addr) (fd : FuncData), FnOk P w K mg base CX0 k f fd ps sp ∧ Meth K C m f ∧ L2.Binds K fd ps []
def PropOk (k : Nat) (C : Addr) (m : Str) (sp : Sp) : Prop := ∃ (p f : Addr) (fd : FuncData), FnOk P w K mg base CX0 k f fd ["self"] sp ∧ PropOf K C m p f ∧ L2.Binds K fd ["self"] []
/-- what the laws know of machines -/
structure MOps (k : Nat) (C : Addr) (Rep : RepT) : Prop where
  cls : Cls K C
  gC : mg "Machine" = some (.ref C)
  ins : ∀ H a M F, Rep H a M F → ∃ dx fs, H a = some (.ins C dx fs) ∧ F a ∧ fs.lookup ("go" : Str) = none ∧ fs.lookup ("strike" : Str) = none ∧ fs.lookup ("registers" : Str) = none ∧ fs.lookup ("cells" : Str) = none ∧ fs.lookup ("moment" : Str) = none ∧ fs.lookup ("own" : Str) = none ∧ ∃ va, fs.lookup ("address" : Str) = some va ∧ Dp K H va (addrD M.addr)
  frame : ∀ H H' a M F, Rep H a M F → (∀ b o, (F b ∨ isTup o) → H b = some o → H' b = some o) → Rep H' a M F
  live : ∀ H a M F, Rep H a M F → ∀ b, F b → ∃ o, H b = some o
  init : ∃ (fI : Addr) (fd : FuncData) (dv : Value) (e : Addr), FnOk P w K mg base CX0 k fI fd ["self", "code", "inputs", "strikes"] (spMInit K C Rep) ∧ Mk K C fI ∧ L2.Binds K fd ["self", "code", "inputs", "strikes"] [.ref e] ∧ (∀ H, SqT K H e [])
  init4 : ∃ (fI : Addr) (fd : FuncData), FnOk P w K mg base CX0 k fI fd ["self", "code", "inputs", "strikes"] (spMInit K C Rep) ∧ Mk K C fI ∧ L2.Binds K fd ["self", "code", "inputs", "strikes"] []
  go : MethOk P w K mg base k C "go" ["self", "steps"] (spMGo Rep)
  strike : ∃ (f : Addr) (fd : FuncData) (g : List Value → List Value → List Value) (gV : List V → List V → List V), FnOk P w K mg base CX0 k f fd ["self", "hue", "place", "new"] (spMStrike K Rep) ∧ Meth K C "strike" f ∧ KBn K fd ["self", "hue", "place", "new"] 1 ["new", "place", "hue"] g gV ∧ ∀ a n p h, gV [a] [n, p, h] = [a, h, p, n]
  left : PropOk P w K mg base k C "left" (spMTell K Rep fun M => .list (M.left.map .int))
  moment : MethOk P w K mg base k C "moment" ["self"] (spMTell K Rep momD)
  own : MethOk P w K mg base k C "own" ["self", "hue", "address"] (spMOwn K Rep)
  registers : MethOk P w K mg base k C "registers" ["self", "hue"] (spMHue K Rep fun u => .tuple (u.regs.map .int))
  cells : MethOk P w K mg base k C "cells" ["self", "hue"] (spMHue K Rep fun u => .tuple (u.bank.map .int))
  row : PropOk P w K mg base k C "row" (spMTell K Rep fun M => .list (M.row.map itemD))
  steps : PropOk P w K mg base k C "steps" (spMTell K Rep fun M => nD M.steps)
  state : PropOk P w K mg base k C "state" (spMTell K Rep fun M => .str (staS M.st))
  pointers : PropOk P w K mg base k C "pointers" (spMTell K Rep fun M => .tuple (M.hues.map fun u => .int u.ptr))
  slots : PropOk P w K mg base k C "slots" (spMTell K Rep fun M => .tuple (M.hues.map fun u => slotD u.slot))
  nAd : NoAttr K C "address"
end
end Hue
namespace Hue
open L2 PySem.Spec PySem PyProof.Rows
theorem for_enumT {K : PySem.W.Frag} {a : Addr} {xs : List V} {g : TG} {tb : TS} {D : Ends} {σ : L2.St} {H : Hp} (Pv : Nat → L2.St → Hp → Prop) (h0 : Pv 0 σ H) (hq : ∀ i σ H, i ≤ xs.length → Pv i σ H → SqT K H a xs)
    (hs : ∀ (i : Nat) (x : V) (T : Addr) (σ : L2.St) (H : Hp), xs[i]? = some x → Pv i σ H → H T = none → g (.ref T) σ (upd H T (.tup [.int (i : Int), x])) fun σ2 H2 => tb { D with nx := Pv (i + 1), ct := Pv (i + 1), bk := D.nx } σ2 H2) (hd : ∀ σ H, Pv xs.length σ H → D.nx σ H) :
    ∃ W : Nat → Nat → L2.St → Hp → Prop, (∃ m, W 0 m σ H) ∧ ∀ i m σ H, W i m σ H →
      ((IteT K a).stop i H ∧ D.nx σ H) ∨ ((IteT K a).go i H ∧ ∃ Nx : L2.St → Hp → Prop, (∀ σ' H', Nx σ' H' → ∃ m', m' < m ∧ W (i + 1) m' σ' H') ∧ ∀ v H', (IteT K a).yld i H v H' → g v σ H' fun σ2 H2 => tb { D with nx := Nx, ct := Nx, bk := D.nx } σ2 H2) := by
  refine ⟨fun i m σ H => m = xs.length - i ∧ i ≤ xs.length ∧ Pv i σ H, ⟨xs.length, rfl, Nat.zero_le _, h0⟩, ?_⟩
  rintro i m σ H ⟨rfl, hi, p⟩
  have q := hq i σ H hi p
  by_cases hlt : i < xs.length
  · have hx : xs[i]? = some xs[i] := List.getElem?_eq_getElem hlt
    refine .inr ⟨⟨xs, _, q, hx⟩, Pv (i + 1), fun σ' H' p' => ⟨xs.length - (i + 1), by omega, rfl, hlt, p'⟩, fun v H' y => ?_⟩
    obtain ⟨T, x', rfl, hT, rfl, f1⟩ := y
    exact hs i x' T σ H (f1 xs q) p hT
  · have e : i = xs.length := by omega
    subst e
    exact .inl ⟨⟨xs, q, rfl⟩, hd σ H p⟩
def spIsVotes (K : PySem.W.Frag) : Sp := fun vs H Q _ => ∃ (a : Addr) (ns : List Nat), vs = [.ref a] ∧ SqT K H a (ns.map fun n : Nat => V.int (n : Int)) ∧ votesOk ns ∧ ∀ H', Same H H' → Q (.bl true) H'
def spIsBank (K : PySem.W.Frag) : Sp := fun vs H Q _ => ∃ (a : Addr) (m : Int) (ns : List Int), vs = [.ref a, .int m] ∧ SqT K H a (ns.map V.int) ∧ ns.length ≤ 600 ∧ (∀ n ∈ ns, 0 ≤ n ∧ n < m) ∧ ∀ H', Same H H' → Q (.bl true) H'
section
variable {P : Program} {w : World} {K : PySem.W.Frag} {mg : Str → Option Value} {base : Heap}
theorem scIsVotes : FnScope ["value", "below", "need", "width"] ["value"] (defScope sIsVotes) := ⟨rfl, rfl, rfl, by decide +kernel, rfl, by decide +kernel, by decide +kernel⟩
theorem ok_isVotes {f : Addr} {fd : FuncData} (F : Fun K "is_votes" "is_votes" sIsVotes f fd) (T : Bt mg) (N : Gn mg) (D1 : Df P w K mg base 2 "is_within" ["value", "low", "high"] spWithin) : FnOk P w K mg base CX0 3 f fd ["value"] (spIsVotes K) := by
  obtain ⟨f1, fd1, Gis_within, gis_within, kis_within, bis_within⟩ := D1
  refine F.ok scIsVotes (fun vs H Q E h => ?_) (fun cdv A outer s H vs Q E hr h => ?_)
  · obtain ⟨a, ns, rfl, _⟩ := h
    rfl
  · have nd := scIsVotes.nd
    obtain ⟨a, ns, rfl, hS, ok, q⟩ := h
    refine ⟨_, pss_cons (ps_if (PW.pt (pw_or (pt_not (pt_val (pe_callB call_isi (by rfl) T.isinstance (by decide +kernel) (pa_cons (pv 0) (pa_cons (pe_bltn (v := .ty "tuple") (u := .type "tuple") (by rfl) T.tuple (by decide +kernel) rfl) pa_nil))))) (pw_or1 (pt_not (pt_chain op_le op_le pe_int (pe_callB call_len_seq (by rfl) T.len PySem.boot_len (pa_cons (pv 0) pa_nil)) (pe_gint N.MOST_HUES rfl))))))
      (pss_one (ps_ret pe_bl))
      pss_nil)
      (pss_cons (ps_for PassesOwn.never rfl (pi_enumT (by rfl) T.enumerate (pa_cons (pv 0) pa_nil)) (pg_tup (by rfl) (pgs_cons (pg_name (i := 1) nd rfl (.inl rfl)) (pgs_cons (pg_name (i := 2) nd rfl (.inl rfl)) pgs_nil)))
      (pss_cons (ps_set (i := 3) nd rfl (.inl rfl) (pe_op op_add (pv 1) pe_int))
        (pss_one (ps_if (PW.pt (pw_or (pt_not (pt_val (pe_call Gis_within hr rfl gis_within kis_within bis_within .nil pass0 (pa_cons (pv 2) (pa_cons pe_int (pa_cons (pv 3) pa_nil)))))) (pw_or1 (pt_not (pt_cmpR op_lt (pv 3) (pe_op op_mul pe_int (pv 2)) (nomark _))))))
        (pss_one (ps_ret pe_bl))
        pss_nil))))
      (pss_one (ps_ret pe_bl))), ?_⟩
    have hl : (ns.map fun n : Nat => V.int (n : Int)).length = ns.length := List.length_map _
    refine ⟨_, rfl, .ref a, _, _, _, true, rfl, .ty _, tyx_tup hS, kit_ty (by decide +kernel), _, rfl, iteF ?_⟩
    refine ⟨_, rfl, a, _, rfl, .inr hS, ?_⟩
    refine ⟨_, _, rfl, rfl, true, congrArg V.bl (decide_eq_true (by rw [hl]; have := ok.1; omega)), iteT ⟨_, _, rfl, rfl, true, congrArg V.bl (decide_eq_true (by rw [hl]; have := ok.2.1; omega)), iteF ?_⟩⟩
    refine ⟨_, rfl, a, _, rfl, hS, for_enumT (xs := ns.map fun n : Nat => V.int (n : Int)) (fun i σ H' => (∃ y1 y2 y3, σ = [some (.ref a), y1, y2, y3]) ∧ Same H H') ⟨⟨_, _, _, rfl⟩, fun _ _ e => e⟩ (fun i σ H' _ h => (Tk.same h.2).seq hS) (fun i x p σ H' hx h hp => ?_) (fun σ H' h => q _ h.2)⟩
    obtain ⟨⟨y1, y2, y3, rfl⟩, sm⟩ := h
    rw [List.getElem?_map] at hx
    obtain ⟨n, hn, rfl⟩ := Option.map_eq_some_iff.mp hx
    obtain ⟨o1, o2⟩ := ok.2.2 i n hn
    have s1 := sm.trans (same_new (o := .tup [.int (i : Int), .int (n : Int)]) hp)
    refine ⟨p, _, rfl, .inl (.inl upd_same), rfl, _, _, rfl, _, _, rfl, rfl, ?_⟩
    refine ⟨_, rfl, _, _, rfl, rfl, ?_⟩
    refine ⟨_, rfl, _, rfl, _, _, _, rfl, true, congrArg V.bl (decide_eq_true (by omega)), iteF ?_⟩
    refine ⟨_, rfl, _, rfl, _, _, rfl, rfl, .inl ⟨by omega, by omega⟩, _, _, rfl, rfl, true, congrArg V.bl (decide_eq_true (by omega)), iteF ?_⟩
    exact ⟨⟨_, _, _, rfl⟩, s1⟩

theorem scIsBank : FnScope ["value", "size", "number"] ["value", "size"] (defScope sIsBank) := ⟨rfl, rfl, rfl, by decide +kernel, rfl, by decide +kernel, by decide +kernel⟩
theorem ok_isBank {f : Addr} {fd : FuncData} (F : Fun K "is_bank" "is_bank" sIsBank f fd) (T : Bt mg) (N : Gn mg) (D1 : Df P w K mg base 2 "is_within" ["value", "low", "high"] spWithin) : FnOk P w K mg base CX0 3 f fd ["value", "size"] (spIsBank K) := by
  obtain ⟨f1, fd1, Gis_within, gis_within, kis_within, bis_within⟩ := D1
  refine F.ok scIsBank (fun vs H Q E h => ?_) (fun cdv A outer s H vs Q E hr h => ?_)
  · obtain ⟨a, m, ns, rfl, _⟩ := h
    rfl
  · have nd := scIsBank.nd
    obtain ⟨a, m, ns, rfl, hS, hl0, ok, q⟩ := h
    refine ⟨_, pss_cons (ps_if (PW.pt (pw_or (pt_not (pt_val (pe_callB call_isi (by rfl) T.isinstance (by decide +kernel) (pa_cons (pv 0) (pa_cons (pe_bltn (v := .ty "tuple") (u := .type "tuple") (by rfl) T.tuple (by decide +kernel) rfl) pa_nil))))) (pw_or1 (pt_cmpR op_gt (pe_callB call_len_seq (by rfl) T.len PySem.boot_len (pa_cons (pv 0) pa_nil)) (pe_gint N.MOST_BANK rfl) (nomark _)))))
      (pss_one (ps_ret pe_bl))
      pss_nil)
      (pss_one (ps_ret (pe_callB (cr_all rfl) (by rfl) T.all (by decide +kernel) (pa_cons (pe_lc (own := [("number", 2)]) (g := gName 2) (by rfl) nd (pi_tup (pv 0)) (blkOk_by (own := [("number", 2)]) (N := ["value", "size", "number"]) (sc := defScope sIsBank) (by decide +kernel)) (fun _ _ _ _ _ => pg_name (i := 2) nd rfl (Or.inl rfl))
          (fun _ _ _ _ _ => pts_nil)
          (fun _ _ _ _ _ => pe_call Gis_within hr rfl gis_within kis_within bis_within .nil pass0 (pa_cons (pv 2) (pa_cons pe_int (pa_cons (pe_op op_sub (pv 1) pe_int) pa_nil))))) pa_nil)))), ?_⟩
    have hl : (ns.map V.int).length = ns.length := List.length_map _
    refine ⟨_, rfl, .ref a, _, _, _, true, rfl, .ty _, tyx_tup hS, kit_ty (by decide +kernel), _, rfl, iteF ?_⟩
    refine ⟨_, rfl, a, _, rfl, .inr hS, _, _, rfl, rfl, false, congrArg V.bl (decide_eq_false (by rw [hl]; omega)), iteF ?_⟩
    refine ⟨_, rfl, a, rfl, ⟨_, hS⟩, fun D hD => ?_⟩
    refine lc_tup (K := K) (a := a) (xs := ns.map V.int) (fun i H' => H' D = some (.lst ((List.replicate i true).map V.bl)) ∧ ∀ b o, b ≠ D → H b = some o → H' b = some o) ⟨upd_same, fun b o n e => by rw [upd_ne n]; exact e⟩ (fun i H' _ h => (show Same H H' from fun b o e => h.2 b o (ne_of_none e hD) e) |> fun e => (Tk.same e).seq hS) (fun i x H' hx h => ?_) (fun H' h => ?_)
    · obtain ⟨h1, h2⟩ := h
      rw [List.getElem?_map] at hx
      obtain ⟨n, hn, rfl⟩ := Option.map_eq_some_iff.mp hx
      have hi : i < ns.length := (List.getElem?_eq_some_iff.mp hn).1
      obtain ⟨o1, o2⟩ := ok n (List.mem_of_getElem? hn)
      refine ⟨by rfl, _, rfl, _, rfl, _, _, rfl, rfl, _, _, _, rfl, ?_⟩
      rw [decide_eq_true (show 0 ≤ n ∧ n ≤ m - 1 by omega)]
      refine ⟨_, h1, small1000 (by rw [List.length_map, List.length_replicate]; omega), ?_, fun b o n e => by rw [upd_ne n]; exact h2 b o n e⟩
      rw [upd_same, List.replicate_succ', List.map_append]
      rfl
    · obtain ⟨h1, h2⟩ := h
      refine ⟨D, _, rfl, .inl (.inl h1), ?_⟩
      rw [show (List.replicate (ns.map V.int).length true).all id = true from List.all_eq_true.mpr fun x hx => (List.eq_of_mem_replicate hx)]
      exact q _ fun b o e => h2 b o (ne_of_none e hD) e
/-! ### a whole code -/
def bdOf (c : Code) : Bd := ⟨c.h, c.size, c.bank.length, c.cells.length⟩
def spIsCode (K : PySem.W.Frag) : Sp := fun vs H Q _ => ∃ (v : V) (c : Code), vs = [v] ∧ Dp K H v (codeD c) ∧ c.Ok ∧ ∀ H', Same H H' → Q (.bl true) H'
def spChkCode (K : PySem.W.Frag) : Sp := fun vs H Q _ => ∃ (v : V) (c : Code), vs = [v] ∧ Dp K H v (codeD c) ∧ c.Ok ∧ ∀ H', Same H H' → Q .non H'
/-- the items of a cell -/
def insV (i : Nat) : Ins → List V
  | .set b n => [.int i, .str "set", .int b, .int n]
  | .op w b c d => [.int i, .str (wdS w), .int b, .int c, .int d]
  | .get b c x y => [.int i, .str "get", .int b, .int c, .int x, .int y]
  | .put b c x y => [.int i, .str "put", .int b, .int c, .int x, .int y]
  | .offer b => [.int i, .str "offer", .int b]
def celV : Cel → List V
  | .ins i k => insV i k
  | .shw p w => [.str "show", .int p, .int w]
  | .trn g w => [.str "turn", .int g, .int w]
  | .tak b w => [.str "take", .int b, .int w]
  | .gto g => [.str "goto", .int g]
  | .stp => [.str "stop"]
  | .mrk => [.str "mark"]
theorem dpI {K : PySem.W.Frag} {H : Hp} {v : V} {n : Int} (h : Dp K H v (.int n)) : v = .int n := by
  cases h
  rfl
theorem dpS {K : PySem.W.Frag} {H : Hp} {v : V} {x : Str} (h : Dp K H v (.str x)) : v = .str x := by
  cases h
  rfl
theorem dpT {K : PySem.W.Frag} {H : Hp} {v : V} {ds : List PyData} (h : Dp K H v (.tuple ds)) : ∃ a xs, v = .ref a ∧ SqT K H a xs ∧ DpAll K H xs ds := by
  cases h with
  | tup a b => exact ⟨_, _, rfl, a, b⟩
theorem dpL {K : PySem.W.Frag} {H : Hp} {v : V} {ds : List PyData} (h : Dp K H v (.list ds)) : ∃ a xs, v = .ref a ∧ SqL K H a xs ∧ DpAll K H xs ds := by
  cases h with
  | lst a b => exact ⟨_, _, rfl, a, b⟩
/-- items that are flat -/
def flD : PyData → Option V
  | .int n => some (.int n)
  | .str x => some (.str x)
  | .none => some .non
  | _ => none
theorem dps_flat {K : PySem.W.Frag} {H : Hp} : ∀ {ds : List PyData} {xs vs : List V}, DpAll K H xs ds → ds.map flD = vs.map some → xs = vs
  | [], _, vs, .nil, e => by
    cases vs with
    | nil => rfl
    | cons _ _ => cases e
  | d :: ds, _, vs, .cons a b, e => by
    cases vs with
    | nil => cases e
    | cons y ys =>
      have e1 : flD d = some y := by injection e
      have e2 : ds.map flD = ys.map some := by injection e
      rw [dps_flat b e2]
      cases d with
      | int n =>
        cases a
        cases e1
        rfl
      | str x =>
        cases a
        cases e1
        rfl
      | none =>
        cases a
        cases e1
        rfl
      | bool _ => cases e1
      | list _ => cases e1
      | tuple _ => cases e1
      | dict _ => cases e1
theorem dp_cel {K : PySem.W.Frag} {H : Hp} {v : V} {z : Cel} (h : Dp K H v (celD z)) : ∃ a, v = .ref a ∧ SqT K H a (celV z) := by
  have key : ∀ ds : List PyData, celD z = .tuple ds → ds.map flD = (celV z).map some → ∃ a, v = .ref a ∧ SqT K H a (celV z) := fun ds e1 e2 => by
    rw [e1] at h
    obtain ⟨a, xs, rfl, h1, h2⟩ := dpT h
    rw [dps_flat h2 e2] at h1
    exact ⟨a, rfl, h1⟩
  cases z with
  | ins i k =>
    cases k with
    | set b n => exact key _ rfl rfl
    | op w b c d => exact key _ rfl rfl
    | get b c x y => exact key _ rfl rfl
    | put b c x y => exact key _ rfl rfl
    | offer b => exact key _ rfl rfl
  | shw p w => exact key _ rfl rfl
  | trn p w => exact key _ rfl rfl
  | tak p w => exact key _ rfl rfl
  | gto p => exact key _ rfl rfl
  | stp => exact key _ rfl rfl
  | mrk => exact key _ rfl rfl
theorem fits_of {aW aT aI aS : Addr} {eI eS : Array DictEntry} {nI nS : Nat} (G : GD K w mg aW aT aI aS eI nI eS nS) {c : Code} {z : Cel} (h : celOk c z) : CellFits K aS aI (bdOf c) (celV z) := by
  have two : ∀ (k0 k1 : Str) (n0 n1 : Int), KindOk (bdOf c) k0 n0 → KindOk (bdOf c) k1 n1 → ∀ (j : Nat) (k : Str) (n : Int), [k0, k1][j]? = some k → [n0, n1][j]? = some n → KindOk (bdOf c) k n := fun k0 k1 n0 n1 h0 h1 j k n ek en => by
    match j with
    | 0 => cases ek; cases en; exact h0
    | 1 => cases ek; cases en; exact h1
    | j + 2 => cases ek
  have one : ∀ (k0 : Str) (n0 : Int), KindOk (bdOf c) k0 n0 → ∀ (j : Nat) (k : Str) (n : Int), [k0][j]? = some k → [n0][j]? = some n → KindOk (bdOf c) k n := fun k0 n0 h0 j k n ek en => by
    match j with
    | 0 => cases ek; cases en; exact h0
    | j + 1 => cases ek
  have four : ∀ (k0 k1 k2 k3 : Str) (n0 n1 n2 n3 : Int), KindOk (bdOf c) k0 n0 → KindOk (bdOf c) k1 n1 → KindOk (bdOf c) k2 n2 → KindOk (bdOf c) k3 n3 → ∀ (j : Nat) (k : Str) (n : Int), [k0, k1, k2, k3][j]? = some k → [n0, n1, n2, n3][j]? = some n → KindOk (bdOf c) k n := fun k0 k1 k2 k3 n0 n1 n2 n3 h0 h1 h2 h3 j k n ek en => by
    match j with
    | 0 => cases ek; cases en; exact h0
    | 1 => cases ek; cases en; exact h1
    | 2 => cases ek; cases en; exact h2
    | 3 => cases ek; cases en; exact h3
    | j + 4 => cases ek
  cases z with
  | ins i k =>
    obtain ⟨hi, hk⟩ := h
    cases k with
    | set b n => exact .ins i _ hi (.other "set" _ [(b : Int), n] true (by decide +kernel) G.iSet rfl (two _ _ _ _ (.reg _ (by omega) (by have := hk.1; omega)) (.num _ hk.2.1 hk.2.2)) (by decide +kernel) (fun z => by cases z))
    | op wd b c' d =>
      refine .ins i _ hi (.word (wdS wd) [(b : Int), (c' : Int), (d : Int)] (by cases wd <;> decide +kernel) rfl fun n hn => ?_)
      obtain ⟨h1, h2, h3⟩ := hk
      simp only [List.mem_cons, List.not_mem_nil, or_false] at hn
      rcases hn with rfl | rfl | rfl <;> omega
    | get b c' x y =>
      obtain ⟨h1, h2, h3, h4⟩ := hk
      exact .ins i _ hi (.other "get" _ [(b : Int), (c' : Int), (x : Int), (y : Int)] false (by decide +kernel) G.iGet rfl (four _ _ _ _ _ _ _ _ (.reg _ (by omega) (by omega)) (.reg _ (by omega) (by omega)) (.base _ (by omega) (by show (x : Int) < (c.bank.length : Nat); omega)) (.len _ (by omega) (by show (y : Int) ≤ (c.bank.length : Nat); omega))) (by decide +kernel) fun _ => .inr ⟨by decide +kernel, _, _, _, _, rfl, by show (x : Int) + (y : Int) ≤ (c.bank.length : Nat); omega⟩)
    | put b c' x y =>
      obtain ⟨h1, h2, h3, h4⟩ := hk
      exact .ins i _ hi (.other "put" _ [(b : Int), (c' : Int), (x : Int), (y : Int)] false (by decide +kernel) G.iPut rfl (four _ _ _ _ _ _ _ _ (.reg _ (by omega) (by omega)) (.reg _ (by omega) (by omega)) (.base _ (by omega) (by show (x : Int) < (c.bank.length : Nat); omega)) (.len _ (by omega) (by show (y : Int) ≤ (c.bank.length : Nat); omega))) (by decide +kernel) fun _ => .inr ⟨by decide +kernel, _, _, _, _, rfl, by show (x : Int) + (y : Int) ≤ (c.bank.length : Nat); omega⟩)
    | offer b => exact .ins i _ hi (.other "offer" _ [(b : Int)] false (by decide +kernel) G.iOffer rfl (one _ _ (.reg _ (by omega) (by have : b < 8 := hk; omega))) (by decide +kernel) fun _ => .inl (by decide +kernel))
  | shw p wd =>
    obtain ⟨h1, h2, h3⟩ := h
    exact .settle "show" _ [(p : Int), (wd : Int)] G.sShow rfl (two _ _ _ _ (.port _ (by omega) (by omega)) (.wid _ (by omega) (by show (wd : Int) ≤ (c.h : Nat); omega)))
  | trn p wd =>
    obtain ⟨h1, h2, h3⟩ := h
    exact .settle "turn" _ [(p : Int), (wd : Int)] G.sTurn rfl (two _ _ _ _ (.goal _ (by omega) (by show (p : Int) < (c.cells.length : Nat); omega)) (.wid _ (by omega) (by show (wd : Int) ≤ (c.h : Nat); omega)))
  | tak p wd =>
    obtain ⟨h1, h2, h3⟩ := h
    exact .settle "take" _ [(p : Int), (wd : Int)] G.sTake rfl (two _ _ _ _ (.reg _ (by omega) (by omega)) (.wid _ (by omega) (by show (wd : Int) ≤ (c.h : Nat); omega)))
  | gto p => exact .settle "goto" _ [(p : Int)] G.sGoto rfl (one _ _ (.goal _ (by omega) (by have : p < c.cells.length := h; show (p : Int) < (c.cells.length : Nat); omega)))
  | stp => exact .settle "stop" _ [] G.sStop rfl fun j k n ek _ => by cases ek
  | mrk => exact .settle "mark" _ [] G.sMark rfl fun j k n ek _ => by cases ek
end
end Hue
namespace Hue
open L2 PySem.Spec PySem PyProof.Rows
section
variable {P : Program} {w : World} {K : PySem.W.Frag} {mg : Str → Option Value} {base : Heap}
/-- the parts of a code -/
theorem dp_code {H : Hp} {v : V} {c : Code} (h : Dp K H v (codeD c)) : ∃ (a av ac ab : Addr) (xc : List V), v = .ref a ∧ SqT K H a [.ref av, .int c.size, .ref ac, .ref ab] ∧ SqT K H av (c.votes.map fun n : Nat => V.int (n : Int)) ∧ SqT K H ac xc ∧ DpAll K H xc (c.cells.map celD) ∧ SqT K H ab (c.bank.map V.int) := by
  obtain ⟨a, xs, rfl, h1, h2⟩ := dpT h
  cases h2 with
  | cons d1 h2 =>
  cases h2 with
  | cons d2 h2 =>
  cases h2 with
  | cons d3 h2 =>
  cases h2 with
  | cons d4 h2 =>
  cases h2
  obtain ⟨av, xv, rfl, g1, g2⟩ := dpT d1
  obtain rfl := dpI d2
  obtain ⟨ac, xc, rfl, g3, g4⟩ := dpT d3
  obtain ⟨ab, xb, rfl, g5, g6⟩ := dpT d4
  have e1 : xv = c.votes.map fun n : Nat => V.int (n : Int) := dps_flat g2 (by rw [List.map_map, List.map_map]; rfl)
  have e2 : xb = c.bank.map V.int := dps_flat g6 (by rw [List.map_map, List.map_map]; rfl)
  subst e1 e2
  exact ⟨a, av, ac, ab, xc, rfl, h1, g1, g3, g4, g5⟩
theorem scIsCode : FnScope ["value", "votes", "size", "inside", "bank", "bounds", "cell"] ["value"] (defScope sIsCode) := ⟨rfl, rfl, rfl, by decide +kernel, rfl, by decide +kernel, by decide +kernel⟩
theorem ok_isCode {f C f0 aW aT aI aS : Addr} {eI eS : Array DictEntry} {nI nS : Nat} {fd : FuncData} (F : Fun K "is_code" "is_code" sIsCode f fd) (T : Bt mg) (N : Gn mg) (G : GD K w mg aW aT aI aS eI nI eS nS) (D1 : Df P w K mg base 2 "is_within" ["value", "low", "high"] spWithin) (D2 : Df P w K mg base 3 "is_votes" ["value"] (spIsVotes K)) (D3 : Df P w K mg base 3 "is_bank" ["value", "size"] (spIsBank K)) (D4 : Df P w K mg base 3 "bounds_of" ["code"] (spBoundsOf K C)) (D5 : Df P w K mg base 6 "fits_cell" ["bounds", "value"] (spFitsCell K C aS aI)) : FnOk P w K mg base CX0 7 f fd ["value"] (spIsCode K) := by
  obtain ⟨f1, fd1, G1, gis_within, kis_within, bis_within⟩ := D1
  obtain ⟨f2, fd2, G2, gis_votes, kis_votes, bis_votes⟩ := D2
  obtain ⟨f3, fd3, G3, gis_bank, kis_bank, bis_bank⟩ := D3
  obtain ⟨f4, fd4, G4, gbounds_of, kbounds_of, bbounds_of⟩ := D4
  obtain ⟨f5, fd5, Gfits_cell, gfits_cell, kfits_cell, bfits_cell⟩ := D5
  have Gis_within := G1.mono (show 2 ≤ 6 by decide)
  have Gis_votes := G2.mono (show 3 ≤ 6 by decide)
  have Gis_bank := G3.mono (show 3 ≤ 6 by decide)
  have Gbounds_of := G4.mono (show 3 ≤ 6 by decide)
  refine F.ok scIsCode (fun vs H Q E h => ?_) (fun cdv A outer s H vs Q E hr h => ?_)
  · obtain ⟨v, c, rfl, _⟩ := h
    rfl
  · have nd := scIsCode.nd
    obtain ⟨v, c, rfl, hd, ok, q⟩ := h
    obtain ⟨a, av, ac, ab, xc, rfl, h1, h2, h3, h4, h5⟩ := dp_code hd
    refine ⟨_, pss_cons (ps_if (PW.pt (pw_or (pt_not (pt_val (pe_callB call_isi (by rfl) T.isinstance (by decide +kernel) (pa_cons (pv 0) (pa_cons (pe_bltn (v := .ty "tuple") (u := .type "tuple") (by rfl) T.tuple (by decide +kernel) rfl) pa_nil))))) (pw_or1 (pt_cmpR op_ne (pe_callB call_len_seq (by rfl) T.len PySem.boot_len (pa_cons (pv 0) pa_nil)) pe_int (nomark _)))))
      (pss_one (ps_ret pe_bl))
      pss_nil)
      (pss_cons (ps_asg (pv 0) (pg_tup (by rfl) (pgs_cons (pg_name (i := 1) nd rfl (.inl rfl)) (pgs_cons (pg_name (i := 2) nd rfl (.inl rfl)) (pgs_cons (pg_name (i := 3) nd rfl (.inl rfl)) (pgs_cons (pg_name (i := 4) nd rfl (.inl rfl)) pgs_nil))))))
      (pss_cons (ps_if (PW.pt (pw_or (pt_not (pt_val (pe_call Gis_votes hr rfl gis_votes kis_votes bis_votes .nil pass0 (pa_cons (pv 1) pa_nil)))) (pw_or1 (pt_not (pt_val (pe_call Gis_within hr rfl gis_within kis_within bis_within .nil pass0 (pa_cons (pv 2) (pa_cons (pe_gint N.LEAST_SIZE rfl) (pa_cons (pe_gint N.GREATEST_SIZE rfl) pa_nil)))))))))
      (pss_one (ps_ret pe_bl))
      pss_nil)
      (pss_cons (ps_if (PW.pt (pw_or (pt_not (pt_val (pe_callB call_isi (by rfl) T.isinstance (by decide +kernel) (pa_cons (pv 3) (pa_cons (pe_bltn (v := .ty "tuple") (u := .type "tuple") (by rfl) T.tuple (by decide +kernel) rfl) pa_nil))))) (pw_or (pt_not (pt_chain op_le op_le pe_int (pe_callB call_len_seq (by rfl) T.len PySem.boot_len (pa_cons (pv 3) pa_nil)) (pe_gint N.MOST_CELLS rfl))) (pw_or1 (pt_not (pt_val (pe_call Gis_bank hr rfl gis_bank kis_bank bis_bank .nil pass0 (pa_cons (pv 4) (pa_cons (pv 2) pa_nil)))))))))
      (pss_one (ps_ret pe_bl))
      pss_nil)
      (pss_cons (ps_set (i := 5) nd rfl (.inr rfl) (pe_call Gbounds_of hr rfl gbounds_of kbounds_of bbounds_of .nil pass0 (pa_cons (pv 0) pa_nil)))
      (pss_one (ps_ret (pe_callB (cr_all rfl) (by rfl) T.all (by decide +kernel) (pa_cons (pe_lc (own := [("cell", 6)]) (g := gName 6) (by rfl) nd (pi_tup (pv 3)) (blkOk_by (own := [("cell", 6)]) (N := ["value", "votes", "size", "inside", "bank", "bounds", "cell"]) (sc := defScope sIsCode) (by decide +kernel)) (fun _ _ _ _ _ => pg_name (i := 6) nd rfl (Or.inl rfl))
          (fun _ _ _ _ _ => pts_nil)
          (fun _ _ _ _ _ => pe_call Gfits_cell hr rfl gfits_cell kfits_cell bfits_cell .nil pass0 (pa_cons (pv 5) (pa_cons (pv 6) pa_nil)))) pa_nil)))))))), ?_⟩
    have hlx : xc.length = c.cells.length := by
      have := dps_len h4
      rw [List.length_map] at this
      exact this
    refine ⟨_, rfl, .ref a, _, _, _, true, rfl, .ty _, tyx_tup h1, kit_ty (by decide +kernel), _, rfl, iteF ?_⟩
    refine ⟨_, rfl, a, _, rfl, .inr h1, rfl, false, rfl, iteF ?_⟩
    refine ⟨_, rfl, a, _, rfl, h1, rfl, _, _, rfl, _, _, rfl, _, _, rfl, _, _, rfl, rfl, ?_⟩
    refine ⟨_, rfl, av, _, rfl, h2, ok.votes, fun H1 s1 => ⟨_, rfl, iteF ?_⟩⟩
    refine ⟨_, rfl, _, _, _, rfl, true, congrArg V.bl (decide_eq_true (by have := ok.size; omega)), iteF ?_⟩
    refine ⟨_, rfl, .ref ac, _, _, _, true, rfl, .ty _, tyx_tup ((Tk.same s1).seq h3), kit_ty (by decide +kernel), _, rfl, iteF ?_⟩
    refine ⟨_, rfl, ac, _, rfl, .inr ((Tk.same s1).seq h3), ?_⟩
    refine ⟨_, _, rfl, rfl, true, congrArg V.bl (decide_eq_true (by rw [hlx]; have := ok.many; omega)), iteT ⟨_, _, rfl, rfl, true, congrArg V.bl (decide_eq_true (by rw [hlx]; have := ok.many; omega)), iteF ?_⟩⟩
    refine ⟨_, rfl, _, rfl, ab, _, _, rfl, (Tk.same s1).seq h5, ok.bank.1, ok.bank.2, fun H2 s2 => ⟨_, rfl, iteF ?_⟩⟩
    have s12 := s1.trans s2
    refine ⟨_, rfl, a, _, av, ac, ab, _, _, _, _, rfl, (Tk.same s12).seq h1, (Tk.same s12).seq h2, (Tk.same s12).seq h3, (Tk.same s12).seq h5, rfl, by omega, fun H3 b s3 hb hbd => ?_⟩
    have s13 := s12.trans s3
    have eB : (⟨(c.votes.map fun n : Nat => V.int (n : Int)).length, (c.size : Int).toNat, (c.bank.map V.int).length, xc.length⟩ : Bd) = bdOf c := by
      rw [List.length_map, List.length_map, hlx, Int.toNat_natCast]
      rfl
    rw [eB] at hbd
    refine ⟨_, rfl, ac, rfl, ⟨_, (Tk.same s13).seq h3⟩, fun D hD => ?_⟩
    refine lc_tup (K := K) (a := ac) (xs := xc) (fun i H' => H' D = some (.lst ((List.replicate i true).map V.bl)) ∧ ∀ b o, b ≠ D → H3 b = some o → H' b = some o) ⟨upd_same, fun b o n e => by rw [upd_ne n]; exact e⟩ (fun i H' _ h => (show Same H3 H' from fun b o e => h.2 b o (ne_of_none e hD) e) |> fun e => (Tk.same (s13.trans e)).seq h3) (fun i x H' hx h => ?_) (fun H' h => ?_)
    · obtain ⟨e1, e2⟩ := h
      have s4 : Same H3 H' := fun b o e => e2 b o (ne_of_none e hD) e
      obtain ⟨d, hd1, hd2⟩ := dps_get h4 hx
      rw [List.getElem?_map] at hd1
      obtain ⟨z, hz, rfl⟩ := Option.map_eq_some_iff.mp hd1
      obtain ⟨az, rfl, hz2⟩ := dp_cel hd2
      have hi : i < c.cells.length := (List.getElem?_eq_some_iff.mp hz).1
      refine ⟨by rfl, _, rfl, _, rfl, b, az, bdOf c, _, rfl, hbd.same s4, (Tk.same (s13.trans s4)).seq hz2, fits_of G (ok.cells z (List.mem_of_getElem? hz)), fun H5 s5 => ⟨_, s5 _ _ e1, ?_, ?_, fun b o n e => by rw [upd_ne n]; exact s5 _ _ (e2 b o n e)⟩⟩
      · have := ok.many.2
        rw [List.length_map, List.length_replicate]
        exact Nat.lt_of_lt_of_le (show i < 1000000 by omega) (by decide)
      · rw [upd_same, List.replicate_succ', List.map_append]
        rfl
    · obtain ⟨e1, e2⟩ := h
      refine ⟨D, _, rfl, .inl (.inl e1), ?_⟩
      rw [show (List.replicate xc.length true).all id = true from List.all_eq_true.mpr fun x hx => (List.eq_of_mem_replicate hx)]
      exact q _ (s13.trans fun b o e => e2 b o (ne_of_none e hD) e)
theorem scChkCode : FnScope ["code"] ["code"] (defScope sCheckCode) := ⟨rfl, rfl, rfl, by decide +kernel, rfl, by decide +kernel, by decide +kernel⟩
theorem ok_chkCode {f : Addr} {fd : FuncData} (F : Fun K "check_code" "check_code" sCheckCode f fd) (D : Df P w K mg base 7 "is_code" ["value"] (spIsCode K)) : FnOk P w K mg base CX0 8 f fd ["code"] (spChkCode K) := by
  obtain ⟨f1, fd1, Gis_code, gis_code, kis_code, bis_code⟩ := D
  refine F.ok scChkCode (fun vs H Q E h => ?_) (fun cdv A outer s H vs Q E hr h => ?_)
  · obtain ⟨v, c, rfl, _⟩ := h
    rfl
  · have nd := scChkCode.nd
    obtain ⟨v, c, rfl, hd, ok, q⟩ := h
    refine ⟨_, pss_one (ps_if (pt_not (pt_val (pe_call Gis_code hr rfl gis_code kis_code bis_code .nil pass0 (pa_cons (pv 0) pa_nil))))
      (pss_one (ps_never))
      pss_nil), ?_⟩
    exact ⟨_, rfl, v, c, rfl, hd, ok, fun H' e => ⟨_, rfl, iteF (q _ e)⟩⟩
def spChkHue (K : PySem.W.Frag) : Sp := fun vs H Q _ => ∃ (a av : Addr) (xs xv : List V) (i : Nat), vs = [.ref a, .int i] ∧ SqT K H a (.ref av :: xs) ∧ SqT K H av xv ∧ i < xv.length ∧ Q .non H
theorem scChkHue : FnScope ["code", "hue"] ["code", "hue"] (defScope sCheckHue) := ⟨rfl, rfl, rfl, by decide +kernel, rfl, by decide +kernel, by decide +kernel⟩
theorem ok_chkHue {f : Addr} {fd : FuncData} (F : Fun K "check_hue" "check_hue" sCheckHue f fd) (T : Bt mg) (D : Df P w K mg base 2 "is_within" ["value", "low", "high"] spWithin) : FnOk P w K mg base CX0 3 f fd ["code", "hue"] (spChkHue K) := by
  obtain ⟨f1, fd1, Gis_within, gis_within, kis_within, bis_within⟩ := D
  refine F.ok scChkHue (fun vs H Q E h => ?_) (fun cdv A outer s H vs Q E hr h => ?_)
  · obtain ⟨a, av, xs, xv, i, rfl, _⟩ := h
    rfl
  · have nd := scChkHue.nd
    obtain ⟨a, av, xs, xv, i, rfl, h1, h2, hi, q⟩ := h
    refine ⟨_, pss_one (ps_if (pt_not (pt_val (pe_call Gis_within hr rfl gis_within kis_within bis_within .nil pass0 (pa_cons (pv 1) (pa_cons pe_int (pa_cons (pe_op op_sub (pe_callB call_len_seq (by rfl) T.len PySem.boot_len (pa_cons (pe_ix ix_tup (pv 0) pe_int (fun _ _ => rfl)) pa_nil)) pe_int) pa_nil))))))
      (pss_one (ps_never))
      pss_nil), ?_⟩
    exact ⟨_, rfl, _, rfl, a, _, 0, _, rfl, rfl, h1, at_of (j := 0) rfl rfl, av, _, rfl, .inr h2, _, _, rfl, rfl, _, _, _, rfl, true, congrArg V.bl (decide_eq_true (by omega)), iteF q⟩
end
end Hue
namespace Hue
open L2 PySem.Spec PySem PyProof.Rows
/-! ### places, new things, strikes -/
def plcOk (c : Code) (i : Nat) : Plc → Prop
  | .reg k => k < 8
  | .cel a => a < c.bank.length
  | .ptr => True
  | .slot => True
  | .code a => ∃ k0, c.cells[a]? = some (.ins i k0)
theorem plc_of {c : Code} {i : Nat} {p : Plc} {n : Nw} (h : nwOk c i p n) : plcOk c i p := by
  cases p with
  | reg k =>
    cases n with
    | num _ => exact h.1
    | _ => exact h.elim
  | cel a =>
    cases n with
    | num _ => exact h.1
    | _ => exact h.elim
  | ptr => trivial
  | slot => trivial
  | code a =>
    cases n with
    | ins k => exact h.1
    | _ => exact h.elim
def spHasIns (K : PySem.W.Frag) : Sp := fun vs H Q _ => ∃ (v : V) (c : Code) (i a : Nat) (k0 : Ins), vs = [v, .int i, .int a] ∧ Dp K H v (codeD c) ∧ c.cells[a]? = some (.ins i k0) ∧ Q (.bl true) H
def spIsPlace (K : PySem.W.Frag) : Sp := fun vs H Q _ => ∃ (v vp : V) (c : Code) (i : Nat) (p : Plc), vs = [v, .int i, vp] ∧ Dp K H v (codeD c) ∧ Dp K H vp (plcD p) ∧ plcOk c i p ∧ ∀ H', Same H H' → Q (.bl true) H'
def spFitsPlace (K : PySem.W.Frag) : Sp := fun vs H Q _ => ∃ (v vp vn : V) (c : Code) (i : Nat) (p : Plc) (n : Nw), vs = [v, .int i, vp, vn] ∧ Dp K H v (codeD c) ∧ Dp K H vp (plcD p) ∧ Dp K H vn (nwD i n) ∧ i < c.h ∧ c.Ok ∧ nwOk c i p n ∧ ∀ H', Same H H' → Q (.bl true) H'
def spIsStrike (K : PySem.W.Frag) : Sp := fun vs H Q _ => ∃ (v vk : V) (c : Code) (k : Stk), vs = [v, vk] ∧ Dp K H v (codeD c) ∧ Dp K H vk (stkD k) ∧ c.Ok ∧ stkOk c k ∧ ∀ H', Same H H' → Q (.bl true) H'
def plcV : Plc → List V
  | .reg k => [.str "register", .int k]
  | .cel a => [.str "cell", .int a]
  | .ptr => [.str "pointer"]
  | .slot => [.str "slot"]
  | .code a => [.str "code", .int a]
theorem dp_plc {K : PySem.W.Frag} {H : Hp} {v : V} {p : Plc} (h : Dp K H v (plcD p)) : ∃ a, v = .ref a ∧ SqT K H a (plcV p) := by
  have key : ∀ ds : List PyData, plcD p = .tuple ds → ds.map flD = (plcV p).map some → ∃ a, v = .ref a ∧ SqT K H a (plcV p) := fun ds e1 e2 => by
    rw [e1] at h
    obtain ⟨a, xs, rfl, h1, h2⟩ := dpT h
    rw [dps_flat h2 e2] at h1
    exact ⟨a, rfl, h1⟩
  cases p with
  | reg k => exact key _ rfl rfl
  | cel k => exact key _ rfl rfl
  | ptr => exact key _ rfl rfl
  | slot => exact key _ rfl rfl
  | code k => exact key _ rfl rfl
theorem insFits_of {K : PySem.W.Frag} {aS aI : Addr} {B : Bd} {i : Nat} {k : Ins} (h : CellFits K aS aI B (celV (.ins i k))) : InsFits K aI B i (insV i k) := by
  generalize hx : celV (.ins i k) = xs at h
  have hx' : insV i k = xs := hx
  cases h with
  | settle s ks ns => cases k <;> cases hx'
  | ins j _ hj h =>
    have hd : ∃ r, xs = .int j :: r := by
      cases h with
      | word s ns => exact ⟨_, rfl⟩
      | other s ks ns => exact ⟨_, rfl⟩
    obtain ⟨r, er⟩ := hd
    have hi : ∃ r, insV i k = .int i :: r := by cases k <;> exact ⟨_, rfl⟩
    obtain ⟨r', er'⟩ := hi
    rw [er', er] at hx'
    injection hx' with e1 e2
    injection e1 with e1
    have e : j = i := by omega
    subst e
    rw [er', e2, ← er]
    exact h
section
variable {P : Program} {w : World} {K : PySem.W.Frag} {mg : Str → Option Value} {base : Heap}
theorem scHasIns : FnScope ["code", "hue", "address"] ["code", "hue", "address"] (defScope sHasIns) := ⟨rfl, rfl, rfl, by decide +kernel, rfl, by decide +kernel, by decide +kernel⟩
theorem scIsPlace : FnScope ["code", "hue", "place", "word", "at"] ["code", "hue", "place"] (defScope sIsPlace) := ⟨rfl, rfl, rfl, by decide +kernel, rfl, by decide +kernel, by decide +kernel⟩
theorem scFitsPlace : FnScope ["code", "hue", "place", "new"] ["code", "hue", "place", "new"] (defScope sFitsPlace) := ⟨rfl, rfl, rfl, by decide +kernel, rfl, by decide +kernel, by decide +kernel⟩
theorem scIsStrike : FnScope ["code", "value", "step", "hue", "place", "new"] ["code", "value"] (defScope sIsStrike) := ⟨rfl, rfl, rfl, by decide +kernel, rfl, by decide +kernel, by decide +kernel⟩
theorem ok_hasIns {f : Addr} {fd : FuncData} (F : Fun K "has_instruction" "has_instruction" sHasIns f fd) (T : Bt mg) (D1 : Df P w K mg base 2 "is_within" ["value", "low", "high"] spWithin) : FnOk P w K mg base CX0 3 f fd ["code", "hue", "address"] (spHasIns K) := by
  obtain ⟨f1, fd1, Gis_within, gis_within, kis_within, bis_within⟩ := D1
  refine F.ok scHasIns (fun vs H Q E h => ?_) (fun cdv A outer s H vs Q E hr h => ?_)
  · obtain ⟨v, c, i, a, k0, rfl, _⟩ := h
    rfl
  · have nd := scHasIns.nd
    obtain ⟨v, c, i, a, k0, rfl, hd, hz, q⟩ := h
    obtain ⟨a0, av, ac, ab, xc, rfl, h1, h2, h3, h4, h5⟩ := dp_code hd
    refine ⟨_, pss_one (ps_ret (pe_and (pe_call Gis_within hr rfl gis_within kis_within bis_within .nil pass0 (pa_cons (pv 2) (pa_cons pe_int (pa_cons (pe_op op_sub (pe_callB call_len_seq (by rfl) T.len PySem.boot_len (pa_cons (pe_ix ix_tup (pv 0) pe_int (fun _ _ => rfl)) pa_nil)) pe_int) pa_nil)))) (pe_one (pe_cmpR op_eq (pe_ix ix_tup (pe_ix ix_tup (pe_ix ix_tup (pv 0) pe_int (fun _ _ => rfl)) (pv 2) (fun _ _ => rfl)) pe_int (fun _ _ => rfl)) (pv 1) (nomark _))))), ?_⟩
    have hlx : xc.length = c.cells.length := by
      have := dps_len h4
      rw [List.length_map] at this
      exact this
    have ha : a < c.cells.length := (List.getElem?_eq_some_iff.mp hz).1
    refine ⟨_, rfl, _, rfl, a0, _, 2, _, rfl, rfl, h1, at_of (j := 2) rfl rfl, ac, _, rfl, .inr h3, _, _, rfl, rfl, _, _, _, rfl, true, congrArg V.bl (decide_eq_true (by rw [hlx]; omega)), iteT ?_⟩
    have hx : xc[a]? = some xc[a] := List.getElem?_eq_getElem (by omega)
    obtain ⟨d, hd1, hd2⟩ := dps_get h4 hx
    rw [List.getElem?_map, hz] at hd1
    cases hd1
    obtain ⟨az, ez, hS⟩ := dp_cel hd2
    have e : ∃ xs, celV (.ins i k0) = .int (i : Int) :: xs := by cases k0 <;> exact ⟨_, rfl⟩
    obtain ⟨xs, e⟩ := e
    rw [e] at hS
    rw [ez] at hx
    refine ⟨_, rfl, a0, _, 2, _, rfl, rfl, h1, at_of (j := 2) rfl rfl, _, rfl, ac, _, _, _, rfl, rfl, h3, atI_nat hx, az, _, 0, _, rfl, rfl, hS, at_of (j := 0) rfl rfl, _, rfl, rfl, ?_⟩
    rw [decide_eq_true rfl]
    exact q
theorem ok_isPlace {f : Addr} {fd : FuncData} (F : Fun K "is_place" "is_place" sIsPlace f fd) (T : Bt mg) (N : Gn mg) (D1 : Df P w K mg base 2 "is_within" ["value", "low", "high"] spWithin) (D2 : Df P w K mg base 3 "has_instruction" ["code", "hue", "address"] (spHasIns K)) : FnOk P w K mg base CX0 4 f fd ["code", "hue", "place"] (spIsPlace K) := by
  obtain ⟨f1, fd1, G1, gis_within, kis_within, bis_within⟩ := D1
  obtain ⟨f2, fd2, Ghas_instruction, ghas_instruction, khas_instruction, bhas_instruction⟩ := D2
  refine F.ok scIsPlace (fun vs H Q E h => ?_) (fun cdv A outer s H vs Q E hr h => ?_)
  · obtain ⟨v, vp, c, i, p, rfl, _⟩ := h
    rfl
  · have nd := scIsPlace.nd
    have Gis_within := G1.mono (show 2 ≤ 3 by decide)
    obtain ⟨v, vp, c, i, p, rfl, hd, hp, ok, q⟩ := h
    obtain ⟨a, rfl, hS⟩ := dp_plc hp
    refine ⟨_, pss_cons (ps_if (PW.pt (pw_or (pt_not (pt_val (pe_callB call_isi (by rfl) T.isinstance (by decide +kernel) (pa_cons (pv 2) (pa_cons (pe_bltn (v := .ty "tuple") (u := .type "tuple") (by rfl) T.tuple (by decide +kernel) rfl) pa_nil))))) (pw_or1 (pt_cmpR op_eq (pe_callB call_len_seq (by rfl) T.len PySem.boot_len (pa_cons (pv 2) pa_nil)) pe_int (nomark _)))))
      (pss_one (ps_ret pe_bl))
      pss_nil)
      (pss_cons (ps_if (pt_cmpR op_eq (pe_callB call_len_seq (by rfl) T.len PySem.boot_len (pa_cons (pv 2) pa_nil)) pe_int (nomark _))
      (pss_one (ps_ret (pe_or (pe_cmpR (op_eqD hr.units) (pv 2) (pe_tup (pa_cons pe_str pa_nil)) (nomark _)) (pe_one (pe_cmpR (op_eqD hr.units) (pv 2) (pe_tup (pa_cons pe_str pa_nil)) (nomark _))))))
      pss_nil)
      (pss_cons (ps_if (pt_cmpR op_ne (pe_callB call_len_seq (by rfl) T.len PySem.boot_len (pa_cons (pv 2) pa_nil)) pe_int (nomark _))
      (pss_one (ps_ret pe_bl))
      pss_nil)
      (pss_cons (ps_asg (pv 2) (pg_tup (by rfl) (pgs_cons (pg_name (i := 3) nd rfl (.inl rfl)) (pgs_cons (pg_name (i := 4) nd rfl (.inl rfl)) pgs_nil))))
      (pss_cons (ps_if (pt_cmpR op_eq (pv 3) pe_str (nomark _))
      (pss_one (ps_ret (pe_call Gis_within hr rfl gis_within kis_within bis_within .nil pass0 (pa_cons (pv 4) (pa_cons pe_int (pa_cons (pe_op op_sub (pe_gint N.REGISTERS rfl) pe_int) pa_nil))))))
      pss_nil)
      (pss_cons (ps_if (pt_cmpR op_eq (pv 3) pe_str (nomark _))
      (pss_one (ps_ret (pe_call Gis_within hr rfl gis_within kis_within bis_within .nil pass0 (pa_cons (pv 4) (pa_cons pe_int (pa_cons (pe_op op_sub (pe_callB call_len_seq (by rfl) T.len PySem.boot_len (pa_cons (pe_ix ix_tup (pv 0) pe_int (fun _ _ => rfl)) pa_nil)) pe_int) pa_nil))))))
      pss_nil)
      (pss_one (ps_ret (pe_and (pe_cmpR op_eq (pv 3) pe_str (nomark _)) (pe_one (pe_call Ghas_instruction hr rfl ghas_instruction khas_instruction bhas_instruction .nil pass0 (pa_cons (pv 0) (pa_cons (pv 1) (pa_cons (pv 4) pa_nil))))))))))))), ?_⟩
    refine ⟨_, rfl, .ref a, _, _, _, true, rfl, .ty _, tyx_tup hS, kit_ty (by decide +kernel), _, rfl, iteF ?_⟩
    have two : ∀ (s : Str) (n : Nat), plcV p = [.str s, .int n] → (plcV p).length = 2 := fun s n e => by rw [e]; rfl
    cases p with
    | reg k =>
      refine ⟨_, rfl, a, _, rfl, .inr hS, rfl, false, rfl, iteF ?_⟩
      refine ⟨_, rfl, a, _, rfl, .inr hS, rfl, false, rfl, iteF ?_⟩
      refine ⟨_, rfl, a, _, rfl, .inr hS, rfl, false, rfl, iteF ?_⟩
      refine ⟨_, rfl, a, _, rfl, hS, rfl, _, _, rfl, _, _, rfl, rfl, ?_⟩
      refine ⟨_, rfl, rfl, true, rfl, iteT ?_⟩
      refine ⟨_, rfl, _, _, rfl, rfl, _, _, _, rfl, ?_⟩
      rw [decide_eq_true (show (0 : Int) ≤ (k : Int) ∧ (k : Int) ≤ 8 - 1 by have : k < 8 := ok; omega)]
      exact q _ fun _ _ e => e
    | cel k =>
      obtain ⟨a0, av, ac, ab, xc, rfl, h1, h2, h3, h4, h5⟩ := dp_code hd
      refine ⟨_, rfl, a, _, rfl, .inr hS, rfl, false, rfl, iteF ?_⟩
      refine ⟨_, rfl, a, _, rfl, .inr hS, rfl, false, rfl, iteF ?_⟩
      refine ⟨_, rfl, a, _, rfl, .inr hS, rfl, false, rfl, iteF ?_⟩
      refine ⟨_, rfl, a, _, rfl, hS, rfl, _, _, rfl, _, _, rfl, rfl, ?_⟩
      refine ⟨_, rfl, rfl, false, rfl, iteF ?_⟩
      refine ⟨_, rfl, rfl, true, rfl, iteT ?_⟩
      refine ⟨_, rfl, _, rfl, a0, _, 3, _, rfl, rfl, h1, at_of (j := 3) rfl rfl, ab, _, rfl, .inr h5, _, _, rfl, rfl, _, _, _, rfl, ?_⟩
      rw [List.length_map, decide_eq_true (show (0 : Int) ≤ (k : Int) ∧ (k : Int) ≤ (c.bank.length : Int) - 1 by have : k < c.bank.length := ok; omega)]
      exact q _ fun _ _ e => e
    | ptr =>
      refine ⟨_, rfl, a, _, rfl, .inr hS, rfl, false, rfl, iteF ?_⟩
      refine ⟨_, rfl, a, _, rfl, .inr hS, rfl, true, rfl, iteT ?_⟩
      refine ⟨_, rfl, (by show 1 ≤ sizeLine; decide), fun p hp => ?_⟩
      have s1 := same_new (o := .tup [V.str "pointer"]) hp
      have sh : SeqAt.shaped (.tuple [.str "pointer"]) = true := by decide +kernel
      refine ⟨_, _, .tup ((Tk.same s1).seq hS) (.cons (.str _) .nil), .tup (.inl (.inl upd_same)) (.cons (.str _) .nil), sh, sh, true, congrArg V.bl (eqv_same sh), iteT ?_⟩
      exact q _ s1
    | slot =>
      refine ⟨_, rfl, a, _, rfl, .inr hS, rfl, false, rfl, iteF ?_⟩
      refine ⟨_, rfl, a, _, rfl, .inr hS, rfl, true, rfl, iteT ?_⟩
      refine ⟨_, rfl, (by show 1 ≤ sizeLine; decide), fun p hp => ?_⟩
      have s1 := same_new (o := .tup [V.str "pointer"]) hp
      have sh : SeqAt.shaped (.tuple [.str "pointer"]) = true := by decide +kernel
      have sh2 : SeqAt.shaped (.tuple [.str "slot"]) = true := by decide +kernel
      refine ⟨_, _, .tup ((Tk.same s1).seq hS) (.cons (.str _) .nil), .tup (.inl (.inl upd_same)) (.cons (.str _) .nil), sh2, sh, false, congrArg V.bl (by decide +kernel), iteF ?_⟩
      refine ⟨_, rfl, (by show 1 ≤ sizeLine; decide), fun p2 hp2 => ?_⟩
      have s2 := same_new (o := .tup [V.str "slot"]) hp2
      refine ⟨_, _, .tup ((Tk.same (s1.trans s2)).seq hS) (.cons (.str _) .nil), .tup (.inl (.inl upd_same)) (.cons (.str _) .nil), sh2, sh2, ?_⟩
      rw [eqv_same sh2]
      exact q _ (s1.trans s2)
    | code k =>
      obtain ⟨k0, hk⟩ := ok
      refine ⟨_, rfl, a, _, rfl, .inr hS, rfl, false, rfl, iteF ?_⟩
      refine ⟨_, rfl, a, _, rfl, .inr hS, rfl, false, rfl, iteF ?_⟩
      refine ⟨_, rfl, a, _, rfl, .inr hS, rfl, false, rfl, iteF ?_⟩
      refine ⟨_, rfl, a, _, rfl, hS, rfl, _, _, rfl, _, _, rfl, rfl, ?_⟩
      refine ⟨_, rfl, rfl, false, rfl, iteF ?_⟩
      refine ⟨_, rfl, rfl, false, rfl, iteF ?_⟩
      refine ⟨_, rfl, rfl, true, rfl, iteT ?_⟩
      exact ⟨_, rfl, _, rfl, _, rfl, v, c, i, k, k0, rfl, hd, hk, q _ fun _ _ e => e⟩
theorem ok_fitsPlace {f CB fB aW aT aI aS : Addr} {eI eS : Array DictEntry} {nI nS : Nat} {fd : FuncData} (F : Fun K "fits_place" "fits_place" sFitsPlace f fd) (gP : IntG mg "GREATEST_POINTER" 9999) (G : GD K w mg aW aT aI aS eI nI eS nS) (D1 : Df P w K mg base 2 "is_within" ["value", "low", "high"] spWithin) (D2 : Df P w K mg base 3 "bounds_of" ["code"] (spBoundsOf K CB)) (D3 : Df P w K mg base 5 "fits_instruction" ["bounds", "hue", "value"] (spFitsIns K CB aI)) : FnOk P w K mg base CX0 6 f fd ["code", "hue", "place", "new"] (spFitsPlace K) := by
  obtain ⟨f1, fd1, G1, gis_within, kis_within, bis_within⟩ := D1
  obtain ⟨f2, fd2, G2, gbounds_of, kbounds_of, bbounds_of⟩ := D2
  obtain ⟨f3, fd3, Gfits_instruction, gfits_instruction, kfits_instruction, bfits_instruction⟩ := D3
  refine F.ok scFitsPlace (fun vs H Q E h => ?_) (fun cdv A outer s H vs Q E hr h => ?_)
  · obtain ⟨v, vp, vn, c, i, p, n, rfl, _⟩ := h
    rfl
  · have nd := scFitsPlace.nd
    have Gis_within := G1.mono (show 2 ≤ 5 by decide)
    have Gbounds_of := G2.mono (show 3 ≤ 5 by decide)
    obtain ⟨v, vp, vn, c, i, p, n, rfl, hd, hp, hn, hi, cok, ok, q⟩ := h
    obtain ⟨a, rfl, hS⟩ := dp_plc hp
    obtain ⟨a0, av, ac, ab, xc, rfl, h1, h2, h3, h4, h5⟩ := dp_code hd
    refine ⟨_, pss_cons (ps_if (pt_cmpR op_eq (pe_ix ix_tup (pv 2) pe_int (fun _ _ => rfl)) pe_str (nomark _))
      (pss_one (ps_ret (pe_call Gis_within hr rfl gis_within kis_within bis_within .nil pass0 (pa_cons (pv 3) (pa_cons pe_int (pa_cons (pe_gint gP rfl) pa_nil))))))
      pss_nil)
      (pss_cons (ps_if (pt_cmpR op_eq (pe_ix ix_tup (pv 2) pe_int (fun _ _ => rfl)) pe_str (nomark _))
      (pss_one (ps_ret (pe_call Gfits_instruction hr rfl gfits_instruction kfits_instruction bfits_instruction .nil pass0 (pa_cons (pe_call Gbounds_of hr rfl gbounds_of kbounds_of bbounds_of .nil pass0 (pa_cons (pv 0) pa_nil)) (pa_cons (pv 1) (pa_cons (pv 3) pa_nil))))))
      pss_nil)
      (pss_one (ps_ret (pe_or (pe_and (pe_cmpR op_eq (pe_ix ix_tup (pv 2) pe_int (fun _ _ => rfl)) pe_str (nomark _)) (pe_one (pe_cmpR op_isN (pv 3) pe_non (nomark _)))) (pe_one (pe_call Gis_within hr rfl gis_within kis_within bis_within .nil pass0 (pa_cons (pv 3) (pa_cons pe_int (pa_cons (pe_op op_sub (pe_ix ix_tup (pv 0) pe_int (fun _ _ => rfl)) pe_int) pa_nil))))))))), ?_⟩
    have num : ∀ (m : Int), 0 ≤ m → m < c.size → decide ((0 : Int) ≤ m ∧ m ≤ (c.size : Int) - 1) = true := fun m h0 h1 => decide_eq_true (by omega)
    cases p with
    | ptr =>
      cases n with
      | num m =>
        obtain ⟨b0, b1⟩ : 0 ≤ m ∧ m ≤ 9999 := ok
        obtain rfl := dpI hn
        refine ⟨_, rfl, a, _, 0, _, rfl, rfl, hS, at_of (j := 0) rfl rfl, rfl, true, rfl, iteT ?_⟩
        refine ⟨_, rfl, _, _, _, rfl, ?_⟩
        rw [decide_eq_true (show 0 ≤ m ∧ m ≤ 9999 from ⟨b0, b1⟩)]
        exact q _ fun _ _ e => e
      | _ => exact ok.elim
    | code k =>
      cases n with
      | ins y =>
        obtain ⟨k0, ok⟩ := ok
        obtain ⟨az, rfl, hz⟩ := dp_cel (z := .ins i y) hn
        have hlx : xc.length = c.cells.length := by
          have := dps_len h4
          rw [List.length_map] at this
          exact this
        refine ⟨_, rfl, a, _, 0, _, rfl, rfl, hS, at_of (j := 0) rfl rfl, rfl, false, rfl, iteF ?_⟩
        refine ⟨_, rfl, a, _, 0, _, rfl, rfl, hS, at_of (j := 0) rfl rfl, rfl, true, rfl, iteT ?_⟩
        refine ⟨_, rfl, a0, _, av, ac, ab, _, _, _, _, rfl, h1, h2, h3, h5, rfl, by omega, fun H3 b s3 hb hbd => ?_⟩
        have eB : (⟨(c.votes.map fun n : Nat => V.int (n : Int)).length, (c.size : Int).toNat, (c.bank.map V.int).length, xc.length⟩ : Bd) = bdOf c := by
          rw [List.length_map, List.length_map, hlx, Int.toNat_natCast]
          rfl
        rw [eB] at hbd
        exact ⟨_, rfl, _, rfl, b, az, bdOf c, i, _, rfl, hbd, (Tk.same s3).seq hz, insFits_of (fits_of G (c := c) (z := .ins i y) ⟨hi, ok⟩), fun H4 s4 => q _ (s3.trans s4)⟩
      | _ => exact ok.elim
    | slot =>
      refine ⟨_, rfl, a, _, 0, _, rfl, rfl, hS, at_of (j := 0) rfl rfl, rfl, false, rfl, iteF ?_⟩
      refine ⟨_, rfl, a, _, 0, _, rfl, rfl, hS, at_of (j := 0) rfl rfl, rfl, false, rfl, iteF ?_⟩
      refine ⟨_, rfl, a, _, 0, _, rfl, rfl, hS, at_of (j := 0) rfl rfl, rfl, true, rfl, iteT ?_⟩
      cases n with
      | num m =>
        obtain ⟨b0, b1⟩ : 0 ≤ m ∧ m < c.size := ok
        obtain rfl := dpI hn
        refine ⟨_, rfl, rfl, false, rfl, iteF ?_⟩
        refine ⟨_, rfl, _, rfl, a0, _, 1, _, rfl, rfl, h1, at_of (j := 1) rfl rfl, _, _, rfl, rfl, _, _, _, rfl, ?_⟩
        rw [num m b0 b1]
        exact q _ fun _ _ e => e
      | non =>
        cases hn
        refine ⟨_, rfl, rfl, true, rfl, iteT ?_⟩
        exact q _ fun _ _ e => e
      | ins y => exact ok.elim
    | reg k =>
      cases n with
      | num m =>
        obtain ⟨_, b0, b1⟩ : k < 8 ∧ 0 ≤ m ∧ m < c.size := ok
        obtain rfl := dpI hn
        refine ⟨_, rfl, a, _, 0, _, rfl, rfl, hS, at_of (j := 0) rfl rfl, rfl, false, rfl, iteF ?_⟩
        refine ⟨_, rfl, a, _, 0, _, rfl, rfl, hS, at_of (j := 0) rfl rfl, rfl, false, rfl, iteF ?_⟩
        refine ⟨_, rfl, a, _, 0, _, rfl, rfl, hS, at_of (j := 0) rfl rfl, rfl, false, rfl, iteF ?_⟩
        refine ⟨false, rfl, iteF ?_⟩
        refine ⟨_, rfl, _, rfl, a0, _, 1, _, rfl, rfl, h1, at_of (j := 1) rfl rfl, _, _, rfl, rfl, _, _, _, rfl, ?_⟩
        rw [num m b0 b1]
        exact q _ fun _ _ e => e
      | _ => exact ok.elim
    | cel k =>
      cases n with
      | num m =>
        obtain ⟨_, b0, b1⟩ : k < c.bank.length ∧ 0 ≤ m ∧ m < c.size := ok
        obtain rfl := dpI hn
        refine ⟨_, rfl, a, _, 0, _, rfl, rfl, hS, at_of (j := 0) rfl rfl, rfl, false, rfl, iteF ?_⟩
        refine ⟨_, rfl, a, _, 0, _, rfl, rfl, hS, at_of (j := 0) rfl rfl, rfl, false, rfl, iteF ?_⟩
        refine ⟨_, rfl, a, _, 0, _, rfl, rfl, hS, at_of (j := 0) rfl rfl, rfl, false, rfl, iteF ?_⟩
        refine ⟨false, rfl, iteF ?_⟩
        refine ⟨_, rfl, _, rfl, a0, _, 1, _, rfl, rfl, h1, at_of (j := 1) rfl rfl, _, _, rfl, rfl, _, _, _, rfl, ?_⟩
        rw [num m b0 b1]
        exact q _ fun _ _ e => e
      | _ => exact ok.elim
end
end Hue
namespace Hue
open L2 PySem.Spec PySem PyProof.Rows
/-! ### lists of strikes -/
theorem for_enumL {K : PySem.W.Frag} {a : Addr} {xs : List V} {g : TG} {tb : TS} {D : Ends} {σ : L2.St} {H : Hp} (Pv : Nat → L2.St → Hp → Prop) (h0 : Pv 0 σ H) (hq : ∀ i σ H, i ≤ xs.length → Pv i σ H → SqL K H a xs)
    (hs : ∀ (i : Nat) (x : V) (T : Addr) (σ : L2.St) (H : Hp), xs[i]? = some x → Pv i σ H → H T = none → g (.ref T) σ (upd H T (.tup [.int (i : Int), x])) fun σ2 H2 => tb { D with nx := Pv (i + 1), ct := Pv (i + 1), bk := D.nx } σ2 H2) (hd : ∀ σ H, Pv xs.length σ H → D.nx σ H) :
    ∃ W : Nat → Nat → L2.St → Hp → Prop, (∃ m, W 0 m σ H) ∧ ∀ i m σ H, W i m σ H →
      ((Ite K a).stop i H ∧ D.nx σ H) ∨ ((Ite K a).go i H ∧ ∃ Nx : L2.St → Hp → Prop, (∀ σ' H', Nx σ' H' → ∃ m', m' < m ∧ W (i + 1) m' σ' H') ∧ ∀ v H', (Ite K a).yld i H v H' → g v σ H' fun σ2 H2 => tb { D with nx := Nx, ct := Nx, bk := D.nx } σ2 H2) := by
  refine ⟨fun i m σ H => m = xs.length - i ∧ i ≤ xs.length ∧ Pv i σ H, ⟨xs.length, rfl, Nat.zero_le _, h0⟩, ?_⟩
  rintro i m σ H ⟨rfl, hi, p⟩
  have q := hq i σ H hi p
  by_cases hlt : i < xs.length
  · have hx : xs[i]? = some xs[i] := List.getElem?_eq_getElem hlt
    refine .inr ⟨⟨xs, _, q, hx⟩, Pv (i + 1), fun σ' H' p' => ⟨xs.length - (i + 1), by omega, rfl, hlt, p'⟩, fun v H' y => ?_⟩
    obtain ⟨T, x', rfl, hT, rfl, f1⟩ := y
    exact hs i x' T σ H (f1 xs q) p hT
  · have e : i = xs.length := by omega
    subst e
    exact .inl ⟨⟨xs, q, Nat.le_refl _⟩, hd σ H p⟩
theorem noL_plc (p : Plc) : noL (plcD p) = true := by cases p <;> rfl
theorem noL_nw (i : Nat) (n : Nw) : noL (nwD i n) = true := by
  cases n with
  | ins k => cases k <;> rfl
  | _ => rfl
theorem noL_stk (k : Stk) : noL (stkD k) = true := by
  show (true && (true && (noL (plcD k.plc) && (noL (nwD k.hue k.new) && true)))) = true
  rw [noL_plc, noL_nw]
  rfl
theorem noL_codeD (c : Code) : noL (codeD c) = true := by
  have noL_cel : ∀ z, noL (celD z) = true := fun z => by
    cases z with
    | ins i k => cases k <;> rfl
    | _ => rfl
  show (noLs (c.votes.map nD) && (noL (nD c.size) && (noLs (c.cells.map celD) && (noLs (c.bank.map PyData.int) && true)))) = true
  rw [noLs_map _ (fun _ => rfl) _, noLs_map _ noL_cel _, noLs_map _ (fun _ => rfl) _]
  rfl
/-- a strike's parts -/
theorem dp_stk {K : PySem.W.Frag} {H : Hp} {v : V} {k : Stk} (h : Dp K H v (stkD k)) : ∃ (a : Addr) (vp vn : V), v = .ref a ∧ SqT K H a [.int k.step, .int k.hue, vp, vn] ∧ Dp K H vp (plcD k.plc) ∧ Dp K H vn (nwD k.hue k.new) := by
  obtain ⟨a, xs, rfl, h1, h2⟩ := dpT h
  cases h2 with
  | cons d1 h2 =>
  cases h2 with
  | cons d2 h2 =>
  cases h2 with
  | cons d3 h2 =>
  cases h2 with
  | cons d4 h2 =>
  cases h2
  obtain rfl := dpI d1
  obtain rfl := dpI d2
  exact ⟨a, _, _, rfl, h1, d3, d4⟩
def spMayBe (K : PySem.W.Frag) : Sp := fun vs H Q _ => ∃ (a : Addr) (xs : List V), vs = [.ref a] ∧ SqA K H a xs ∧ xs.length ≤ 400 ∧ ∀ H', Same H H' → Q (.bl true) H'
def spWrong (K : PySem.W.Frag) : Sp := fun vs H Q _ => ∃ (v : V) (a : Addr) (xs : List V) (c : Code) (ks : List Stk), vs = [v, .ref a] ∧ Dp K H v (codeD c) ∧ SqA K H a xs ∧ DpAll K H xs (ks.map stkD) ∧ c.Ok ∧ StksOk c ks ∧ ∀ H', Same H H' → Q .non H'
section
variable {P : Program} {w : World} {K : PySem.W.Frag} {mg : Str → Option Value} {base : Heap}
theorem ok_isStrike {f : Addr} {fd : FuncData} (F : Fun K "is_strike" "is_strike" sIsStrike f fd) (T : Bt mg) (N : Gn mg) (D1 : Df P w K mg base 2 "is_within" ["value", "low", "high"] spWithin) (D2 : Df P w K mg base 4 "is_place" ["code", "hue", "place"] (spIsPlace K)) (D3 : Df P w K mg base 6 "fits_place" ["code", "hue", "place", "new"] (spFitsPlace K)) : FnOk P w K mg base CX0 7 f fd ["code", "value"] (spIsStrike K) := by
  obtain ⟨f1, fd1, G1, gis_within, kis_within, bis_within⟩ := D1
  obtain ⟨f2, fd2, G2, gis_place, kis_place, bis_place⟩ := D2
  obtain ⟨f3, fd3, Gfits_place, gfits_place, kfits_place, bfits_place⟩ := D3
  refine F.ok scIsStrike (fun vs H Q E h => ?_) (fun cdv A outer s H vs Q E hr h => ?_)
  · obtain ⟨v, vk, c, k, rfl, _⟩ := h
    rfl
  · have nd := scIsStrike.nd
    have Gis_within := G1.mono (show 2 ≤ 6 by decide)
    have Gis_place := G2.mono (show 4 ≤ 6 by decide)
    obtain ⟨v, vk, c, k, rfl, hd, hk, cok, ok, q⟩ := h
    obtain ⟨a, vp, vn, rfl, hS, hp, hn⟩ := dp_stk hk
    obtain ⟨a0, av, ac, ab, xc, rfl, h1, h2, h3, h4, h5⟩ := dp_code hd
    obtain ⟨o1, o2, o3⟩ := ok
    have hlv : (c.votes.map fun n : Nat => V.int (n : Int)).length = c.h := List.length_map _
    refine ⟨_, pss_cons (ps_if (PW.pt (pw_or (pt_not (pt_val (pe_callB call_isi (by rfl) T.isinstance (by decide +kernel) (pa_cons (pv 1) (pa_cons (pe_bltn (v := .ty "tuple") (u := .type "tuple") (by rfl) T.tuple (by decide +kernel) rfl) pa_nil))))) (pw_or1 (pt_cmpR op_ne (pe_callB call_len_seq (by rfl) T.len PySem.boot_len (pa_cons (pv 1) pa_nil)) pe_int (nomark _)))))
      (pss_one (ps_ret pe_bl))
      pss_nil)
      (pss_cons (ps_asg (pv 1) (pg_tup (by rfl) (pgs_cons (pg_name (i := 2) nd rfl (.inl rfl)) (pgs_cons (pg_name (i := 3) nd rfl (.inl rfl)) (pgs_cons (pg_name (i := 4) nd rfl (.inl rfl)) (pgs_cons (pg_name (i := 5) nd rfl (.inl rfl)) pgs_nil))))))
      (pss_cons (ps_if (PW.pt (pw_or (pt_not (pt_val (pe_call Gis_within hr rfl gis_within kis_within bis_within .nil pass0 (pa_cons (pv 2) (pa_cons pe_int (pa_cons (pe_gint N.MOST_STEPS rfl) pa_nil)))))) (pw_or1 (pt_not (pt_val (pe_call Gis_within hr rfl gis_within kis_within bis_within .nil pass0 (pa_cons (pv 3) (pa_cons pe_int (pa_cons (pe_op op_sub (pe_callB call_len_seq (by rfl) T.len PySem.boot_len (pa_cons (pe_ix ix_tup (pv 0) pe_int (fun _ _ => rfl)) pa_nil)) pe_int) pa_nil)))))))))
      (pss_one (ps_ret pe_bl))
      pss_nil)
      (pss_one (ps_ret (pe_and (pe_call Gis_place hr rfl gis_place kis_place bis_place .nil pass0 (pa_cons (pv 0) (pa_cons (pv 3) (pa_cons (pv 4) pa_nil)))) (pe_one (pe_call Gfits_place hr rfl gfits_place kfits_place bfits_place .nil pass0 (pa_cons (pv 0) (pa_cons (pv 3) (pa_cons (pv 4) (pa_cons (pv 5) pa_nil))))))))))), ?_⟩
    refine ⟨_, rfl, .ref a, _, _, _, true, rfl, .ty _, tyx_tup hS, kit_ty (by decide +kernel), _, rfl, iteF ?_⟩
    refine ⟨_, rfl, a, _, rfl, .inr hS, rfl, false, rfl, iteF ?_⟩
    refine ⟨_, rfl, a, _, rfl, hS, rfl, _, _, rfl, _, _, rfl, _, _, rfl, _, _, rfl, rfl, ?_⟩
    refine ⟨_, rfl, _, _, _, rfl, true, congrArg V.bl (decide_eq_true (by omega)), iteF ?_⟩
    refine ⟨_, rfl, _, rfl, a0, _, 0, _, rfl, rfl, h1, at_of (j := 0) rfl rfl, av, _, rfl, .inr h2, _, _, rfl, rfl, _, _, _, rfl, true, congrArg V.bl (decide_eq_true (by rw [hlv]; omega)), iteF ?_⟩
    refine ⟨_, rfl, _, rfl, _, rfl, _, _, c, k.hue, k.plc, rfl, hd, hp, plc_of o3, fun H1 s1 => ⟨true, rfl, iteT ?_⟩⟩
    exact ⟨_, rfl, _, rfl, _, rfl, _, rfl, _, _, _, c, k.hue, k.plc, k.new, rfl, dp_same s1 _ _ hd, dp_same s1 _ _ hp, dp_same s1 _ _ hn, o2, cok, o3, fun H2 s2 => q _ (s1.trans s2)⟩
theorem scMayBe : FnScope ["value"] ["value"] (defScope sMayBe) := ⟨rfl, rfl, rfl, by decide +kernel, rfl, by decide +kernel, by decide +kernel⟩
theorem ok_mayBe {f : Addr} {fd : FuncData} (F : Fun K "may_be_strikes" "may_be_strikes" sMayBe f fd) (T : Bt mg) (N : Gn mg) : FnOk P w K mg base CX0 1 f fd ["value"] (spMayBe K) := by
  refine F.ok scMayBe (fun vs H Q E h => ?_) (fun cdv A outer s H vs Q E hr h => ?_)
  · obtain ⟨a, xs, rfl, _⟩ := h
    rfl
  · have nd := scMayBe.nd
    obtain ⟨a, xs, rfl, h1, hl, q⟩ := h
    refine ⟨_, pss_one (ps_ret (pe_and (pe_callB call_isiT (by rfl) T.isinstance (by decide +kernel) (pa_cons (pv 0) (pa_cons (pe_tup (pa_cons (pe_bltn (v := .ty "list") (u := .type "list") (by rfl) T.list (by decide +kernel) rfl) (pa_cons (pe_bltn (v := .ty "tuple") (u := .type "tuple") (by rfl) T.tuple (by decide +kernel) rfl) pa_nil))) pa_nil))) (pe_one (pe_cmpR op_le (pe_callB call_len_seq (by rfl) T.len PySem.boot_len (pa_cons (pv 0) pa_nil)) (pe_gint N.MOST_STRIKES rfl) (nomark _))))), ?_⟩
    refine ⟨_, rfl, (by show 2 ≤ sizeLine; decide), fun p hp => ?_⟩
    have s1 : Same H (upd H p (.tup [.ty "list", .ty "tuple"])) := same_new hp
    obtain ⟨t, ty, kt⟩ := (h1.same s1).kit
    refine ⟨_, p, _, t, _, true, rfl, upd_same, .cons (.ty _) (.cons (.ty _) .nil), ty, kt, _, rfl, iteT ?_⟩
    refine ⟨_, rfl, a, _, rfl, h1.same s1, _, _, rfl, rfl, ?_⟩
    show Q (.bl (decide ((xs.length : Int) ≤ 400))) _
    rw [decide_eq_true (show (xs.length : Int) ≤ 400 by omega)]
    exact q _ s1
theorem scWrong : FnScope ["code", "strikes", "last", "at", "strike"] ["code", "strikes"] (defScope sWrong) := ⟨rfl, rfl, rfl, by decide +kernel, rfl, by decide +kernel, by decide +kernel⟩
def lastOf (ks : List Stk) (i : Nat) : Int := match i with
  | 0 => 0
  | j + 1 => match ks[j]? with
    | some k => (k.step : Int)
    | none => 0
theorem last_le {c : Code} {ks : List Stk} (h : StksOk c ks) {i : Nat} {k : Stk} (hk : ks[i]? = some k) : lastOf ks i ≤ (k.step : Int) := by
  cases i with
  | zero =>
    show (0 : Int) ≤ _
    omega
  | succ j =>
    have hj : j < ks.length := by
      have := (List.getElem?_eq_some_iff.mp hk).1
      omega
    show (match ks[j]? with | some k => (k.step : Int) | none => 0) ≤ _
    rw [List.getElem?_eq_getElem hj]
    have hi := (List.getElem?_eq_some_iff.mp hk).1
    have z := List.pairwise_iff_getElem.mp h.asc j (j + 1) hj hi (by omega)
    have e := (List.getElem?_eq_some_iff.mp hk).2
    rw [e] at z
    show ((ks[j].step : Nat) : Int) ≤ _
    omega
theorem ok_wrong {f : Addr} {fd : FuncData} (F : Fun K "wrong_strike" "wrong_strike" sWrong f fd) (T : Bt mg) (D : Df P w K mg base 7 "is_strike" ["code", "value"] (spIsStrike K)) : FnOk P w K mg base CX0 8 f fd ["code", "strikes"] (spWrong K) := by
  obtain ⟨f1, fd1, Gis_strike, gis_strike, kis_strike, bis_strike⟩ := D
  refine F.ok scWrong (fun vs H Q E h => ?_) (fun cdv A outer s H vs Q E hr h => ?_)
  · obtain ⟨v, a, xs, c, ks, rfl, _⟩ := h
    rfl
  · have nd := scWrong.nd
    obtain ⟨v, a, xs, c, ks, rfl, hd, h1, hks, cok, sok, q⟩ := h
    refine ⟨_, pss_cons (ps_set (i := 2) nd rfl (.inl rfl) pe_int)
      (pss_cons (ps_for PassesOwn.never rfl (pi_or (pi_enum (by rfl) T.enumerate (pa_cons (pv 1) pa_nil)) (pi_enumT (by rfl) T.enumerate (pa_cons (pv 1) pa_nil))) (pg_tup (by rfl) (pgs_cons (pg_name (i := 3) nd rfl (.inl rfl)) (pgs_cons (pg_name (i := 4) nd rfl (.inl rfl)) pgs_nil)))
      (pss_cons (ps_if (PW.pt (pw_or (pt_not (pt_val (pe_call Gis_strike hr rfl gis_strike kis_strike bis_strike .nil pass0 (pa_cons (pv 0) (pa_cons (pv 4) pa_nil))))) (pw_or1 (pt_cmpR op_lt (pe_ix ix_tup (pv 4) pe_int (fun _ _ => rfl)) (pv 2) (nomark _)))))
        (pss_one (ps_ret (pv 3)))
        pss_nil)
        (pss_one (ps_set (i := 2) nd rfl (.inl rfl) (pe_ix ix_tup (pv 4) pe_int (fun _ _ => rfl))))))
      (pss_one (ps_ret pe_non))), ?_⟩
    have hl : xs.length = ks.length := by
      have := dps_len hks
      rw [List.length_map] at this
      exact this
    rcases h1 with h1 | h1
    · refine .inl ⟨_, rfl, a, xs, rfl, h1, ?_⟩
      refine for_enumL (xs := xs) (fun i σ H' => (∃ y3 y4, σ = [some v, some (.ref a), some (.int (lastOf ks i)), y3, y4]) ∧ Same H H') ⟨⟨_, _, rfl⟩, fun _ _ e => e⟩ (fun i σ H' _ h => h.2.seq h1) (fun i x p σ H' hx h hp => ?_) (fun σ H' h => q _ h.2)
      obtain ⟨⟨y3, y4, rfl⟩, sm⟩ := h
      obtain ⟨d, hd1, hd2⟩ := dps_get hks hx
      rw [List.getElem?_map] at hd1
      obtain ⟨k, hk, rfl⟩ := Option.map_eq_some_iff.mp hd1
      have s1 := sm.trans (same_new (o := .tup [.int (i : Int), x]) hp)
      refine ⟨p, _, rfl, .inl (.inl upd_same), rfl, _, _, rfl, _, _, rfl, rfl, ?_⟩
      refine ⟨_, rfl, _, rfl, v, x, c, k, rfl, dp_same s1 _ _ hd, dp_same s1 _ _ hd2, cok, sok.each k (List.mem_of_getElem? hk), fun H2 s2 => ⟨_, rfl, iteF ?_⟩⟩
      have s12 := s1.trans s2
      obtain ⟨az, vp, vn, rfl, hS, _, _⟩ := dp_stk (dp_same s12 _ _ hd2)
      have := last_le sok hk
      refine ⟨_, rfl, az, _, 0, _, rfl, rfl, hS, at_of (j := 0) rfl rfl, _, rfl, _, _, rfl, rfl, false, congrArg V.bl (decide_eq_false (by omega)), iteF ?_⟩
      have el : lastOf ks (i + 1) = (k.step : Int) := by
        show (match ks[i]? with | some k => (k.step : Int) | none => 0) = _
        rw [hk]
      exact ⟨_, rfl, az, _, 0, _, rfl, rfl, hS, at_of (j := 0) rfl rfl, ⟨some (.int (i : Int)), some (.ref az), by rw [el]; rfl⟩, s12⟩
    · refine .inr ⟨_, rfl, a, xs, rfl, h1, ?_⟩
      refine for_enumT (xs := xs) (fun i σ H' => (∃ y3 y4, σ = [some v, some (.ref a), some (.int (lastOf ks i)), y3, y4]) ∧ Same H H') ⟨⟨_, _, rfl⟩, fun _ _ e => e⟩ (fun i σ H' _ h => (Tk.same h.2).seq h1) (fun i x p σ H' hx h hp => ?_) (fun σ H' h => q _ h.2)
      obtain ⟨⟨y3, y4, rfl⟩, sm⟩ := h
      obtain ⟨d, hd1, hd2⟩ := dps_get hks hx
      rw [List.getElem?_map] at hd1
      obtain ⟨k, hk, rfl⟩ := Option.map_eq_some_iff.mp hd1
      have s1 := sm.trans (same_new (o := .tup [.int (i : Int), x]) hp)
      refine ⟨p, _, rfl, .inl (.inl upd_same), rfl, _, _, rfl, _, _, rfl, rfl, ?_⟩
      refine ⟨_, rfl, _, rfl, v, x, c, k, rfl, dp_same s1 _ _ hd, dp_same s1 _ _ hd2, cok, sok.each k (List.mem_of_getElem? hk), fun H2 s2 => ⟨_, rfl, iteF ?_⟩⟩
      have s12 := s1.trans s2
      obtain ⟨az, vp, vn, rfl, hS, _, _⟩ := dp_stk (dp_same s12 _ _ hd2)
      have := last_le sok hk
      refine ⟨_, rfl, az, _, 0, _, rfl, rfl, hS, at_of (j := 0) rfl rfl, _, rfl, _, _, rfl, rfl, false, congrArg V.bl (decide_eq_false (by omega)), iteF ?_⟩
      have el : lastOf ks (i + 1) = (k.step : Int) := by
        show (match ks[i]? with | some k => (k.step : Int) | none => 0) = _
        rw [hk]
      exact ⟨_, rfl, az, _, 0, _, rfl, rfl, hS, at_of (j := 0) rfl rfl, ⟨some (.int (i : Int)), some (.ref az), by rw [el]; rfl⟩, s12⟩
theorem scChkStk : FnScope ["code", "strikes", "at"] ["code", "strikes"] (defScope sCheckStrikes) := ⟨rfl, rfl, rfl, by decide +kernel, rfl, by decide +kernel, by decide +kernel⟩
theorem ok_chkStk {f : Addr} {fd : FuncData} (F : Fun K "check_strikes" "check_strikes" sCheckStrikes f fd) (T : Bt mg) (D1 : Df P w K mg base 1 "may_be_strikes" ["value"] (spMayBe K)) (D2 : Df P w K mg base 8 "wrong_strike" ["code", "strikes"] (spWrong K)) : FnOk P w K mg base CX0 9 f fd ["code", "strikes"] (spWrong K) := by
  obtain ⟨f1, fd1, G1, gmay_be_strikes, kmay_be_strikes, bmay_be_strikes⟩ := D1
  obtain ⟨f2, fd2, Gwrong_strike, gwrong_strike, kwrong_strike, bwrong_strike⟩ := D2
  refine F.ok scChkStk (fun vs H Q E h => ?_) (fun cdv A outer s H vs Q E hr h => ?_)
  · obtain ⟨v, a, xs, c, ks, rfl, _⟩ := h
    rfl
  · have nd := scChkStk.nd
    have Gmay_be_strikes := G1.mono (show 1 ≤ 8 by decide)
    obtain ⟨v, a, xs, c, ks, rfl, hd, h1, hks, cok, sok, q⟩ := h
    have hl : xs.length = ks.length := by
      have := dps_len hks
      rw [List.length_map] at this
      exact this
    refine ⟨_, pss_cons (ps_if (pt_not (pt_val (pe_call Gmay_be_strikes hr rfl gmay_be_strikes kmay_be_strikes bmay_be_strikes .nil pass0 (pa_cons (pv 1) pa_nil))))
      (pss_one (ps_never))
      pss_nil)
      (pss_cons (ps_set (i := 2) nd rfl (.inl rfl) (pe_call Gwrong_strike hr rfl gwrong_strike kwrong_strike bwrong_strike .nil pass0 (pa_cons (pv 0) (pa_cons (pv 1) pa_nil))))
      (pss_one (ps_if (pt_cmpR op_notN (pv 2) pe_non (nomark _))
      (pss_one (ps_never))
      pss_nil))), ?_⟩
    refine ⟨_, rfl, a, xs, rfl, h1, by rw [hl]; exact sok.many, fun H1 s1 => ⟨_, rfl, iteF ?_⟩⟩
    refine ⟨_, rfl, _, rfl, v, a, xs, c, ks, rfl, dp_same s1 _ _ hd, h1.same s1, dps_same s1 _ _ hks, cok, sok, fun H2 s2 => ?_⟩
    refine ⟨_, rfl, rfl, _, rfl, iteF ?_⟩
    exact q _ (s1.trans s2)
end
end Hue
namespace Hue
open L2 PySem.Spec PySem PyProof.Rows
/-! ### how works stand in the heap -/
structure WV where
  dw : Addr
  vt : Addr
  ft : Addr
  tp : Addr
  nu : Addr
  bk : Addr
  hd : Addr
  sl : Addr
  gv : Addr
  pl : Addr
  sh : Addr
  rs : List Addr
  bs : List Addr
structure WD where
  votes : List Nat
  size : Nat
  cells : List Cel
  tape : List Cel
  regs : List (List Int)
  banks : List (List Int)
  heads : List Int
  slots : List (Option Int)
  given : List Int
  taken : Nat
  plan : List Stk
  smany : Nat
  row : List Item
  done : Nat
  st : Sta
def slotV : Option Int → V
  | some n => .int n
  | none => .non
def wfs (v : WV) (D : WD) : List (Str × V) := [("votes", .ref v.vt), ("size", .int D.size), ("first_tape", .ref v.ft), ("tape", .ref v.tp), ("numbers", .ref v.nu), ("banks", .ref v.bk), ("heads", .ref v.hd), ("offers", .ref v.sl), ("given", .ref v.gv), ("taken", .int D.taken), ("planned", .ref v.pl), ("struck_many", .int D.smany), ("shown", .ref v.sh), ("done", .int D.done), ("word", .str (staS D.st))]
section
variable (v : WV) (D : WD)
theorem wl_votes : (wfs v D).lookup ("votes" : Str) = some (.ref v.vt) := by kernel_rfl
theorem wl_size : (wfs v D).lookup ("size" : Str) = some (.int D.size) := by kernel_rfl
theorem wl_first_tape : (wfs v D).lookup ("first_tape" : Str) = some (.ref v.ft) := by kernel_rfl
theorem wl_tape : (wfs v D).lookup ("tape" : Str) = some (.ref v.tp) := by kernel_rfl
theorem wl_numbers : (wfs v D).lookup ("numbers" : Str) = some (.ref v.nu) := by kernel_rfl
theorem wl_banks : (wfs v D).lookup ("banks" : Str) = some (.ref v.bk) := by kernel_rfl
theorem wl_heads : (wfs v D).lookup ("heads" : Str) = some (.ref v.hd) := by kernel_rfl
theorem wl_offers : (wfs v D).lookup ("offers" : Str) = some (.ref v.sl) := by kernel_rfl
theorem wl_given : (wfs v D).lookup ("given" : Str) = some (.ref v.gv) := by kernel_rfl
theorem wl_taken : (wfs v D).lookup ("taken" : Str) = some (.int D.taken) := by kernel_rfl
theorem wl_planned : (wfs v D).lookup ("planned" : Str) = some (.ref v.pl) := by kernel_rfl
theorem wl_struck_many : (wfs v D).lookup ("struck_many" : Str) = some (.int D.smany) := by kernel_rfl
theorem wl_shown : (wfs v D).lookup ("shown" : Str) = some (.ref v.sh) := by kernel_rfl
theorem wl_done : (wfs v D).lookup ("done" : Str) = some (.int D.done) := by kernel_rfl
theorem wl_word : (wfs v D).lookup ("word" : Str) = some (.str (staS D.st)) := by kernel_rfl
theorem wp_heads (a : Addr) : putF "heads" (.ref a) (wfs v D) = wfs { v with hd := a } D := by kernel_rfl
theorem wp_offers (a : Addr) : putF "offers" (.ref a) (wfs v D) = wfs { v with sl := a } D := by kernel_rfl
theorem wp_numbers (a : Addr) : putF "numbers" (.ref a) (wfs v D) = wfs { v with nu := a } D := by kernel_rfl
theorem wp_banks (a : Addr) : putF "banks" (.ref a) (wfs v D) = wfs { v with bk := a } D := by kernel_rfl
theorem wp_tape (a : Addr) : putF "tape" (.ref a) (wfs v D) = wfs { v with tp := a } D := by kernel_rfl
theorem wp_taken (n : Nat) : putF "taken" (.int n) (wfs v D) = wfs v { D with taken := n } := by kernel_rfl
theorem wp_done (n : Nat) : putF "done" (.int n) (wfs v D) = wfs v { D with done := n } := by kernel_rfl
theorem wp_struck_many (n : Nat) : putF "struck_many" (.int n) (wfs v D) = wfs v { D with smany := n } := by kernel_rfl
theorem wp_stopped : putF "word" (.str "stopped") (wfs v D) = wfs v { D with st := .stopped } := by kernel_rfl
theorem wp_caught : putF "word" (.str "caught") (wfs v D) = wfs v { D with st := .caught } := by kernel_rfl
theorem wl_len : (wfs v D).length < 1000 := by show (15 : Nat) < 1000; decide
end
/-- the lists of its own -/
def WV.list (v : WV) : List Addr := v.nu :: v.bk :: v.hd :: v.sl :: v.gv :: v.pl :: v.sh :: (v.rs ++ v.bs)
def Each (H : Hp) (as : List Addr) (rs : List (List Int)) : Prop := as.length = rs.length ∧ ∀ (i : Nat) (a : Addr) (r : List Int), as[i]? = some a → rs[i]? = some r → H a = some (.lst (r.map .int))
structure WP (K : PySem.W.Frag) (H : Hp) (v : WV) (D : WD) : Prop where
  votes : SqT K H v.vt (D.votes.map fun n : Nat => V.int (n : Int))
  tape : ∃ ts, SqT K H v.tp ts ∧ DpAll K H ts (D.tape.map celD)
  first : ∃ ts, SqT K H v.ft ts ∧ DpAll K H ts (D.cells.map celD)
  nums : H v.nu = some (.lst (v.rs.map .ref))
  banks : H v.bk = some (.lst (v.bs.map .ref))
  heads : H v.hd = some (.lst (D.heads.map .int))
  slots : H v.sl = some (.lst (D.slots.map slotV))
  given : H v.gv = some (.lst (D.given.map .int))
  planned : ∃ qs, H v.pl = some (.lst qs) ∧ DpAll K H qs (D.plan.map stkD)
  shown : ∃ xs, H v.sh = some (.lst xs) ∧ DpAll K H xs (D.row.map itemD)
  regs : Each H v.rs D.regs
  bank : Each H v.bs D.banks
structure WL (K : PySem.W.Frag) (CW : Addr) (H : Hp) (w : Addr) (v : WV) (D : WD) : Prop where
  ins : H w = some (.ins CW v.dw (wfs v D))
  own : H v.dw = some (.own w)
  p : WP K H v D
  nd : v.list.Nodup
def WV.F (v : WV) (w : Addr) : Addr → Prop := fun b => b = w ∨ b = v.dw ∨ b ∈ v.list
theorem noL_cel (z : Cel) : noL (celD z) = true := by
  cases z with
  | ins i k => cases k <;> rfl
  | _ => rfl
theorem noL_item (z : Item) : noL (itemD z) = true := by cases z <;> rfl
section
variable {K : PySem.W.Frag} {CW : Addr} {H H' : Hp} {w : Addr} {v : WV} {D : WD}
theorem dps_set {K : PySem.W.Frag} {H : Hp} : ∀ {vs : List V} {ds : List PyData} (j : Nat) {v : V} {d : PyData}, DpAll K H vs ds → Dp K H v d → DpAll K H (vs.set j v) (ds.set j d)
  | _, _, _, _, _, .nil, _ => .nil
  | _, _, 0, _, _, .cons _ b, h => .cons h b
  | _, _, j + 1, _, _, .cons a b, h => .cons a (dps_set j b h)
theorem Each.keep {as : List Addr} {rs : List (List Int)} (h : Each H as rs) (k : ∀ b o, b ∈ as → H b = some o → H' b = some o) : Each H' as rs := ⟨h.1, fun i a r ha hr => k _ _ (List.mem_of_getElem? ha) (h.2 i a r ha hr)⟩
theorem WP.frame (L : WP K H v D) (m : ∀ b o, b ∈ v.list → H b = some o → H' b = some o) (tk : Tk H H') : WP K H' v D := by
  obtain ⟨ts, t1, t2⟩ := L.tape
  obtain ⟨fs, f1, f2⟩ := L.first
  obtain ⟨qs, q1, q2⟩ := L.planned
  obtain ⟨xs, x1, x2⟩ := L.shown
  exact ⟨tk.seq L.votes, ⟨ts, tk.seq t1, dps_tk tk _ _ (noLs_map _ noL_cel _) t2⟩, ⟨fs, tk.seq f1, dps_tk tk _ _ (noLs_map _ noL_cel _) f2⟩, m _ _ (by simp [WV.list]) L.nums, m _ _ (by simp [WV.list]) L.banks, m _ _ (by simp [WV.list]) L.heads, m _ _ (by simp [WV.list]) L.slots, m _ _ (by simp [WV.list]) L.given, ⟨qs, m _ _ (by simp [WV.list]) q1, dps_tk tk _ _ (noLs_map _ noL_stk _) q2⟩,
    ⟨xs, m _ _ (by simp [WV.list]) x1, dps_tk tk _ _ (noLs_map _ noL_item _) x2⟩, L.regs.keep fun b o i e => m _ _ (by simp [WV.list, i]) e, L.bank.keep fun b o i e => m _ _ (by simp [WV.list, i]) e⟩
theorem WP.same (L : WP K H v D) (e : Same H H') : WP K H' v D := L.frame (fun b o _ h => e b o h) (Tk.same e)
theorem WL.frame (L : WL K CW H w v D) (k : ∀ b o, (v.F w b ∨ isTup o) → H b = some o → H' b = some o) : WL K CW H' w v D :=
  ⟨k _ _ (.inl (.inl rfl)) L.ins, k _ _ (.inl (.inr (.inl rfl))) L.own, L.p.frame (fun b o i e => k b o (.inl (.inr (.inr i))) e) fun b o i e => k b o (.inr i) e, L.nd⟩
theorem WL.same (L : WL K CW H w v D) (e : Same H H') : WL K CW H' w v D := L.frame fun b o _ h => e b o h
theorem WP.lst (L : WP K H v D) {b : Addr} (h : b ∈ v.list) : ∃ xs, H b = some (.lst xs) := by
  obtain ⟨ts, t1, t2⟩ := L.tape
  obtain ⟨qs, q1, q2⟩ := L.planned
  obtain ⟨xs, x1, x2⟩ := L.shown
  simp only [WV.list, List.mem_cons, List.mem_append] at h
  rcases h with rfl | rfl | rfl | rfl | rfl | rfl | rfl | h | h
  · exact ⟨_, L.nums⟩
  · exact ⟨_, L.banks⟩
  · exact ⟨_, L.heads⟩
  · exact ⟨_, L.slots⟩
  · exact ⟨_, L.given⟩
  · exact ⟨_, q1⟩
  · exact ⟨_, x1⟩
  · obtain ⟨i, hi⟩ := List.mem_iff_getElem?.mp h
    have hl : i < D.regs.length := by
      rw [← L.regs.1]
      exact (List.getElem?_eq_some_iff.mp hi).1
    exact ⟨_, L.regs.2 i b _ hi (List.getElem?_eq_getElem hl)⟩
  · obtain ⟨i, hi⟩ := List.mem_iff_getElem?.mp h
    have hl : i < D.banks.length := by
      rw [← L.bank.1]
      exact (List.getElem?_eq_some_iff.mp hi).1
    exact ⟨_, L.bank.2 i b _ hi (List.getElem?_eq_getElem hl)⟩
theorem WL.lst (L : WL K CW H w v D) {b : Addr} (h : b ∈ v.list) : ∃ xs, H b = some (.lst xs) := L.p.lst h
theorem WL.new_w (L : WL K CW H w v D) {b : Addr} (h : b ∈ v.list) : b ≠ w ∧ b ≠ v.dw := by
  obtain ⟨xs, hx⟩ := L.lst h
  refine ⟨fun e => ?_, fun e => ?_⟩
  · rw [e, L.ins] at hx
    cases hx
  · rw [e, L.own] at hx
    cases hx
theorem WL.dw_ne (L : WL K CW H w v D) : v.dw ≠ w := fun e => by
  have z := L.own
  rw [e, L.ins] at z
  cases z
theorem WL.live (L : WL K CW H w v D) {b : Addr} (h : v.F w b) : ∃ o, H b = some o := by
  rcases h with rfl | rfl | h
  · exact ⟨_, L.ins⟩
  · exact ⟨_, L.own⟩
  · obtain ⟨xs, hx⟩ := L.lst h
    exact ⟨_, hx⟩
theorem WL.tk_w (L : WL K CW H w v D) (o : HO) : Tk H (upd H w o) := fun b u i e => by
  rw [upd_ne fun z => ?_]
  · exact e
  · rw [z, L.ins] at e
    cases e
    exact i.elim
/-- its attributes change: the parts stand already -/
theorem WL.put (L : WL K CW H w v D) {v' : WV} {D' : WD} (p : WP K H v' D') (ed : v'.dw = v.dw) (nd : v'.list.Nodup) : WL K CW (upd H w (.ins CW v.dw (wfs v' D'))) w v' D' := by
  have ml : ∀ b o, b ∈ v'.list → H b = some o → (upd H w (.ins CW v.dw (wfs v' D'))) b = some o := fun b o i e => by
    rw [upd_ne fun z => ?_]
    · exact e
    · obtain ⟨xs, hx⟩ := p.lst i
      rw [z, L.ins] at hx
      cases hx
  exact ⟨by rw [ed]; exact upd_same, by rw [ed, upd_ne L.dw_ne]; exact L.own, p.frame ml (L.tk_w _), nd⟩
/-- one of its lists changes -/
theorem WL.mut (L : WL K CW H w v D) {x : Addr} {o : HO} (hx : x ∈ v.list) : (∀ b u, b ≠ x → H b = some u → (upd H x o) b = some u) ∧ Tk H (upd H x o) := by
  obtain ⟨ys, hy⟩ := L.lst hx
  exact ⟨fun b u n e => by rw [upd_ne n]; exact e, Tk.lst hy⟩
theorem WL.app (L : WL K CW H w v D) {ys : List V} {p : Addr} {x : Item} (h1 : H v.sh = some (.lst ys)) (h2 : DpAll K H ys (D.row.map itemD)) (h3 : Dp K H (.ref p) (itemD x)) : WL K CW (upd H v.sh (.lst (ys ++ [.ref p]))) w v { D with row := D.row ++ [x] } := by
  have hm : v.sh ∈ v.list := by simp [WV.list]
  obtain ⟨k, t⟩ := L.mut (o := (.lst (ys ++ [.ref p]))) hm
  generalize hG : upd H v.sh (.lst (ys ++ [.ref p])) = G at *
  have nd := L.nd
  unfold WV.list at nd
  simp only [List.nodup_cons, List.mem_cons, List.mem_append, not_or, List.nodup_append] at nd
  obtain ⟨⟨n_nu_bk, n_nu_hd, n_nu_sl, n_nu_gv, n_nu_pl, n_nu_sh, r_nu, s_nu⟩, ⟨n_bk_hd, n_bk_sl, n_bk_gv, n_bk_pl, n_bk_sh, r_bk, s_bk⟩, ⟨n_hd_sl, n_hd_gv, n_hd_pl, n_hd_sh, r_hd, s_hd⟩, ⟨n_sl_gv, n_sl_pl, n_sl_sh, r_sl, s_sl⟩, ⟨n_gv_pl, n_gv_sh, r_gv, s_gv⟩, ⟨n_pl_sh, r_pl, s_pl⟩, ⟨r_sh, s_sh⟩, ndR, ndB, rb⟩ := nd
  obtain ⟨ts, t1, t2⟩ := L.p.tape
  obtain ⟨fs, f1, f2⟩ := L.p.first
  obtain ⟨qs, q1, q2⟩ := L.p.planned
  obtain ⟨xs, x1, x2⟩ := L.p.shown
  have q := L.new_w hm
  refine' ⟨k _ _ q.1.symm L.ins, k _ _ q.2.symm L.own, ⟨t.seq L.p.votes, ⟨ts, t.seq t1, dps_tk t _ _ (noLs_map _ noL_cel _) t2⟩, ⟨fs, t.seq f1, dps_tk t _ _ (noLs_map _ noL_cel _) f2⟩, k _ _ n_nu_sh L.p.nums, k _ _ n_bk_sh L.p.banks, k _ _ n_hd_sh L.p.heads, k _ _ n_sl_sh L.p.slots, k _ _ n_gv_sh L.p.given, ⟨qs, k _ _ n_pl_sh q1, dps_tk t _ _ (noLs_map _ noL_stk _) q2⟩, ?shown, L.p.regs.keep fun b o i e => k _ _ (fun z => r_sh (by rw [← z]; exact i)) e, L.p.bank.keep fun b o i e => k _ _ (fun z => s_sh (by rw [← z]; exact i)) e⟩, L.nd⟩
  refine ⟨_, by rw [← hG]; exact upd_same, ?_⟩
  show DpAll K G (ys ++ [.ref p]) ((D.row ++ [x]).map itemD)
  rw [List.map_append]
  exact dps_app (dps_tk t _ _ (noLs_map _ noL_item _) h2) (.cons (dp_tk t _ _ (noL_item x) h3) .nil)
theorem WL.slot (L : WL K CW H w v D) (i : Nat) (x : Option Int) : WL K CW (upd H v.sl (.lst ((D.slots.map slotV).set i (slotV x)))) w v { D with slots := D.slots.set i x } := by
  have hm : v.sl ∈ v.list := by simp [WV.list]
  obtain ⟨k, t⟩ := L.mut (o := (.lst ((D.slots.map slotV).set i (slotV x)))) hm
  generalize hG : upd H v.sl (.lst ((D.slots.map slotV).set i (slotV x))) = G at *
  have nd := L.nd
  unfold WV.list at nd
  simp only [List.nodup_cons, List.mem_cons, List.mem_append, not_or, List.nodup_append] at nd
  obtain ⟨⟨n_nu_bk, n_nu_hd, n_nu_sl, n_nu_gv, n_nu_pl, n_nu_sh, r_nu, s_nu⟩, ⟨n_bk_hd, n_bk_sl, n_bk_gv, n_bk_pl, n_bk_sh, r_bk, s_bk⟩, ⟨n_hd_sl, n_hd_gv, n_hd_pl, n_hd_sh, r_hd, s_hd⟩, ⟨n_sl_gv, n_sl_pl, n_sl_sh, r_sl, s_sl⟩, ⟨n_gv_pl, n_gv_sh, r_gv, s_gv⟩, ⟨n_pl_sh, r_pl, s_pl⟩, ⟨r_sh, s_sh⟩, ndR, ndB, rb⟩ := nd
  obtain ⟨ts, t1, t2⟩ := L.p.tape
  obtain ⟨fs, f1, f2⟩ := L.p.first
  obtain ⟨qs, q1, q2⟩ := L.p.planned
  obtain ⟨xs, x1, x2⟩ := L.p.shown
  have q := L.new_w hm
  refine' ⟨k _ _ q.1.symm L.ins, k _ _ q.2.symm L.own, ⟨t.seq L.p.votes, ⟨ts, t.seq t1, dps_tk t _ _ (noLs_map _ noL_cel _) t2⟩, ⟨fs, t.seq f1, dps_tk t _ _ (noLs_map _ noL_cel _) f2⟩, k _ _ n_nu_sl L.p.nums, k _ _ n_bk_sl L.p.banks, k _ _ n_hd_sl L.p.heads, ?slots, k _ _ (Ne.symm n_sl_gv) L.p.given, ⟨qs, k _ _ (Ne.symm n_sl_pl) q1, dps_tk t _ _ (noLs_map _ noL_stk _) q2⟩, ⟨xs, k _ _ (Ne.symm n_sl_sh) x1, dps_tk t _ _ (noLs_map _ noL_item _) x2⟩, L.p.regs.keep fun b o i e => k _ _ (fun z => r_sl (by rw [← z]; exact i)) e, L.p.bank.keep fun b o i e => k _ _ (fun z => s_sl (by rw [← z]; exact i)) e⟩, L.nd⟩
  show G v.sl = some (.lst ((D.slots.set i x).map slotV))
  rw [← hG, upd_same, List.map_set]
theorem WL.head (L : WL K CW H w v D) (i : Nat) (n : Int) : WL K CW (upd H v.hd (.lst ((D.heads.map V.int).set i (.int n)))) w v { D with heads := D.heads.set i n } := by
  have hm : v.hd ∈ v.list := by simp [WV.list]
  obtain ⟨k, t⟩ := L.mut (o := (.lst ((D.heads.map V.int).set i (.int n)))) hm
  generalize hG : upd H v.hd (.lst ((D.heads.map V.int).set i (.int n))) = G at *
  have nd := L.nd
  unfold WV.list at nd
  simp only [List.nodup_cons, List.mem_cons, List.mem_append, not_or, List.nodup_append] at nd
  obtain ⟨⟨n_nu_bk, n_nu_hd, n_nu_sl, n_nu_gv, n_nu_pl, n_nu_sh, r_nu, s_nu⟩, ⟨n_bk_hd, n_bk_sl, n_bk_gv, n_bk_pl, n_bk_sh, r_bk, s_bk⟩, ⟨n_hd_sl, n_hd_gv, n_hd_pl, n_hd_sh, r_hd, s_hd⟩, ⟨n_sl_gv, n_sl_pl, n_sl_sh, r_sl, s_sl⟩, ⟨n_gv_pl, n_gv_sh, r_gv, s_gv⟩, ⟨n_pl_sh, r_pl, s_pl⟩, ⟨r_sh, s_sh⟩, ndR, ndB, rb⟩ := nd
  obtain ⟨ts, t1, t2⟩ := L.p.tape
  obtain ⟨fs, f1, f2⟩ := L.p.first
  obtain ⟨qs, q1, q2⟩ := L.p.planned
  obtain ⟨xs, x1, x2⟩ := L.p.shown
  have q := L.new_w hm
  refine' ⟨k _ _ q.1.symm L.ins, k _ _ q.2.symm L.own, ⟨t.seq L.p.votes, ⟨ts, t.seq t1, dps_tk t _ _ (noLs_map _ noL_cel _) t2⟩, ⟨fs, t.seq f1, dps_tk t _ _ (noLs_map _ noL_cel _) f2⟩, k _ _ n_nu_hd L.p.nums, k _ _ n_bk_hd L.p.banks, ?heads, k _ _ (Ne.symm n_hd_sl) L.p.slots, k _ _ (Ne.symm n_hd_gv) L.p.given, ⟨qs, k _ _ (Ne.symm n_hd_pl) q1, dps_tk t _ _ (noLs_map _ noL_stk _) q2⟩, ⟨xs, k _ _ (Ne.symm n_hd_sh) x1, dps_tk t _ _ (noLs_map _ noL_item _) x2⟩, L.p.regs.keep fun b o i e => k _ _ (fun z => r_hd (by rw [← z]; exact i)) e, L.p.bank.keep fun b o i e => k _ _ (fun z => s_hd (by rw [← z]; exact i)) e⟩, L.nd⟩
  show G v.hd = some (.lst ((D.heads.set i n).map V.int))
  rw [← hG, upd_same, List.map_set]
theorem WL.reg (L : WL K CW H w v D) {i : Nat} {a : Addr} (r : List Int) (ha : v.rs[i]? = some a) : WL K CW (upd H a (.lst (r.map .int))) w v { D with regs := D.regs.set i r } := by
  have hmr : a ∈ v.rs := List.mem_of_getElem? ha
  have hm : a ∈ v.list := by simp [WV.list, hmr]
  obtain ⟨k, t⟩ := L.mut (o := (.lst (r.map .int))) hm
  generalize hG : upd H a (.lst (r.map .int)) = G at *
  have nd := L.nd
  unfold WV.list at nd
  simp only [List.nodup_cons, List.mem_cons, List.mem_append, not_or, List.nodup_append] at nd
  obtain ⟨⟨n_nu_bk, n_nu_hd, n_nu_sl, n_nu_gv, n_nu_pl, n_nu_sh, r_nu, s_nu⟩, ⟨n_bk_hd, n_bk_sl, n_bk_gv, n_bk_pl, n_bk_sh, r_bk, s_bk⟩, ⟨n_hd_sl, n_hd_gv, n_hd_pl, n_hd_sh, r_hd, s_hd⟩, ⟨n_sl_gv, n_sl_pl, n_sl_sh, r_sl, s_sl⟩, ⟨n_gv_pl, n_gv_sh, r_gv, s_gv⟩, ⟨n_pl_sh, r_pl, s_pl⟩, ⟨r_sh, s_sh⟩, ndR, ndB, rb⟩ := nd
  obtain ⟨ts, t1, t2⟩ := L.p.tape
  obtain ⟨fs, f1, f2⟩ := L.p.first
  obtain ⟨qs, q1, q2⟩ := L.p.planned
  obtain ⟨xs, x1, x2⟩ := L.p.shown
  have q := L.new_w hm
  refine' ⟨k _ _ q.1.symm L.ins, k _ _ q.2.symm L.own, ⟨t.seq L.p.votes, ⟨ts, t.seq t1, dps_tk t _ _ (noLs_map _ noL_cel _) t2⟩, ⟨fs, t.seq f1, dps_tk t _ _ (noLs_map _ noL_cel _) f2⟩, k _ _ (fun z => r_nu (by rw [z]; exact hmr)) L.p.nums, k _ _ (fun z => r_bk (by rw [z]; exact hmr)) L.p.banks, k _ _ (fun z => r_hd (by rw [z]; exact hmr)) L.p.heads, k _ _ (fun z => r_sl (by rw [z]; exact hmr)) L.p.slots, k _ _ (fun z => r_gv (by rw [z]; exact hmr)) L.p.given, ⟨qs, k _ _ (fun z => r_pl (by rw [z]; exact hmr)) q1, dps_tk t _ _ (noLs_map _ noL_stk _) q2⟩, ⟨xs, k _ _ (fun z => r_sh (by rw [z]; exact hmr)) x1, dps_tk t _ _ (noLs_map _ noL_item _) x2⟩, ?regs, L.p.bank.keep fun b o i e => k _ _ (fun z => rb _ hmr _ i z.symm) e⟩, L.nd⟩
  refine ⟨by show v.rs.length = (D.regs.set i r).length; rw [List.length_set]; exact L.p.regs.1, fun j b r' hb hr => ?_⟩
  have hr : (D.regs.set i r)[j]? = some r' := hr
  rw [List.getElem?_set] at hr
  by_cases z : i = j
  · subst z
    rw [ha] at hb
    cases hb
    rw [if_pos rfl] at hr
    split at hr
    · cases hr
      rw [← hG, upd_same]
    · cases hr
  · rw [if_neg z] at hr
    refine k _ _ (fun y => z ?_) (L.p.regs.2 j b r' hb hr)
    rw [y] at hb
    exact nd_ix ndR ha hb
theorem WL.bnk (L : WL K CW H w v D) {i : Nat} {a : Addr} (r : List Int) (ha : v.bs[i]? = some a) : WL K CW (upd H a (.lst (r.map .int))) w v { D with banks := D.banks.set i r } := by
  have hmb : a ∈ v.bs := List.mem_of_getElem? ha
  have hm : a ∈ v.list := by simp [WV.list, hmb]
  obtain ⟨k, t⟩ := L.mut (o := (.lst (r.map .int))) hm
  generalize hG : upd H a (.lst (r.map .int)) = G at *
  have nd := L.nd
  unfold WV.list at nd
  simp only [List.nodup_cons, List.mem_cons, List.mem_append, not_or, List.nodup_append] at nd
  obtain ⟨⟨n_nu_bk, n_nu_hd, n_nu_sl, n_nu_gv, n_nu_pl, n_nu_sh, r_nu, s_nu⟩, ⟨n_bk_hd, n_bk_sl, n_bk_gv, n_bk_pl, n_bk_sh, r_bk, s_bk⟩, ⟨n_hd_sl, n_hd_gv, n_hd_pl, n_hd_sh, r_hd, s_hd⟩, ⟨n_sl_gv, n_sl_pl, n_sl_sh, r_sl, s_sl⟩, ⟨n_gv_pl, n_gv_sh, r_gv, s_gv⟩, ⟨n_pl_sh, r_pl, s_pl⟩, ⟨r_sh, s_sh⟩, ndR, ndB, rb⟩ := nd
  obtain ⟨ts, t1, t2⟩ := L.p.tape
  obtain ⟨fs, f1, f2⟩ := L.p.first
  obtain ⟨qs, q1, q2⟩ := L.p.planned
  obtain ⟨xs, x1, x2⟩ := L.p.shown
  have q := L.new_w hm
  refine' ⟨k _ _ q.1.symm L.ins, k _ _ q.2.symm L.own, ⟨t.seq L.p.votes, ⟨ts, t.seq t1, dps_tk t _ _ (noLs_map _ noL_cel _) t2⟩, ⟨fs, t.seq f1, dps_tk t _ _ (noLs_map _ noL_cel _) f2⟩, k _ _ (fun z => s_nu (by rw [z]; exact hmb)) L.p.nums, k _ _ (fun z => s_bk (by rw [z]; exact hmb)) L.p.banks, k _ _ (fun z => s_hd (by rw [z]; exact hmb)) L.p.heads, k _ _ (fun z => s_sl (by rw [z]; exact hmb)) L.p.slots, k _ _ (fun z => s_gv (by rw [z]; exact hmb)) L.p.given, ⟨qs, k _ _ (fun z => s_pl (by rw [z]; exact hmb)) q1, dps_tk t _ _ (noLs_map _ noL_stk _) q2⟩, ⟨xs, k _ _ (fun z => s_sh (by rw [z]; exact hmb)) x1, dps_tk t _ _ (noLs_map _ noL_item _) x2⟩, L.p.regs.keep fun b o i e => k _ _ (fun z => rb _ i _ hmb z) e, ?bank⟩, L.nd⟩
  refine ⟨by show v.bs.length = (D.banks.set i r).length; rw [List.length_set]; exact L.p.bank.1, fun j b r' hb hr => ?_⟩
  have hr : (D.banks.set i r)[j]? = some r' := hr
  rw [List.getElem?_set] at hr
  by_cases z : i = j
  · subst z
    rw [ha] at hb
    cases hb
    rw [if_pos rfl] at hr
    split at hr
    · cases hr
      rw [← hG, upd_same]
    · cases hr
  · rw [if_neg z] at hr
    refine k _ _ (fun y => z ?_) (L.p.bank.2 j b r' hb hr)
    rw [y] at hb
    exact nd_ix ndB ha hb
end
end Hue
namespace Hue
open L2 PySem.Spec PySem PyProof.Rows
/-- the class of works -/
structure WC (K : PySem.W.Frag) (mg : Str → Option Value) (C f : Addr) : Prop where
  cls : Cls K C
  n_votes : NoAttr K C "votes"
  n_size : NoAttr K C "size"
  n_first_tape : NoAttr K C "first_tape"
  n_tape : NoAttr K C "tape"
  n_numbers : NoAttr K C "numbers"
  n_banks : NoAttr K C "banks"
  n_heads : NoAttr K C "heads"
  n_offers : NoAttr K C "offers"
  n_given : NoAttr K C "given"
  n_taken : NoAttr K C "taken"
  n_planned : NoAttr K C "planned"
  n_struck_many : NoAttr K C "struck_many"
  n_shown : NoAttr K C "shown"
  n_done : NoAttr K C "done"
  n_word : NoAttr K C "word"
  maker : Mk K C f
  g : mg "Works" = some (.ref C)
def D0 (c : Code) (ins : List Int) (ks : List Stk) : WD := ⟨c.votes, c.size, c.cells, c.cells, List.replicate c.h (List.replicate 8 0), List.replicate c.h c.bank, List.replicate c.h 0, List.replicate c.h none, ins, 0, ks, 0, [], 0, .running⟩
def spWInit (K : PySem.W.Frag) (CW : Addr) : Sp := fun vs H Q _ => ∃ (x dx ai ak : Addr) (vc : V) (c : Code) (ins : List Int) (ks : List Stk) (ys : List V), vs = [.ref x, vc, .ref ai, .ref ak] ∧ H x = some (.ins CW dx []) ∧ H dx = some (.own x) ∧ Dp K H vc (codeD c) ∧ SqA K H ai (ins.map .int) ∧ SqA K H ak ys ∧ DpAll K H ys (ks.map stkD) ∧ (1 ≤ c.h ∧ c.h ≤ 5) ∧
  ∀ H' v, WL K CW H' x v (D0 c ins ks) → v.dw = dx → (∀ b o, b ≠ x → H b = some o → H' b = some o) → (∀ b ∈ v.list, H b = none) → Q .non H'
def rListK (K : PySem.W.Frag) : List V → Hp → VK → Prop := fun xs H Q => ∃ p ys, xs = [.ref p] ∧ (SqL K H p ys ∨ SqT K H p ys) ∧ ∀ l, H l = none → Q (.ref l) (upd H l (.lst ys))
/-- all but x stays -/
def Kx (x : Addr) (H H' : Hp) : Prop := ∀ b o, b ≠ x → H b = some o → H' b = some o
theorem Kx.refl (x : Addr) (H : Hp) : Kx x H H := fun _ _ _ e => e
theorem Kx.trans {x : Addr} {H H1 H2 : Hp} (a : Kx x H H1) (b : Kx x H1 H2) : Kx x H H2 := fun y o n e => b y o n (a y o n e)
theorem Kx.new {x p : Addr} {H H1 : Hp} {o : HO} (a : Kx x H H1) (h : H1 p = none) : Kx x H (upd H1 p o) := fun b u n e => by
  have z := a b u n e
  rw [upd_ne (ne_of_none z h)]
  exact z
theorem Kx.at {x : Addr} {H H1 : Hp} {o : HO} (a : Kx x H H1) : Kx x H (upd H1 x o) := fun b u n e => by
  rw [upd_ne n]
  exact a b u n e
theorem Kx.ne {x b : Addr} {H : Hp} {C dx : Addr} {fs : List (Str × V)} {o : HO} (hx : H x = some (.ins C dx fs)) (e : H b = some o) (i : ∀ C dx fs, o ≠ .ins C dx fs) : b ≠ x := fun z => by
  rw [z, hx] at e
  cases e
  exact i _ _ _ rfl
theorem Kx.tk {x : Addr} {H H1 : Hp} {C dx : Addr} {fs : List (Str × V)} (a : Kx x H H1) (hx : H x = some (.ins C dx fs)) : Tk H H1 := fun b o i e => a b o (fun z => by rw [z, hx] at e; cases e; exact i.elim) e
theorem Kx.lst {x b : Addr} {H H1 : Hp} {C dx : Addr} {fs : List (Str × V)} {xs : List V} (a : Kx x H H1) (hx : H x = some (.ins C dx fs)) (e : H b = some (.lst xs)) : H1 b = some (.lst xs) := a _ _ (Kx.ne hx e fun _ _ _ z => by cases z) e
theorem Kx.free {x p : Addr} {H H1 : Hp} {C dx : Addr} {fs : List (Str × V)} (a : Kx x H H1) (hx : H1 x = some (.ins C dx fs)) (h : H1 p = none) : H p = none := by
  cases e : H p with
  | none => rfl
  | some o =>
    have n : p ≠ x := fun z => by rw [z, hx] at h; cases h
    rw [a p o n e] at h
    cases h
theorem Kx.seq {K : PySem.W.Frag} {x b : Addr} {H H1 : Hp} {C dx : Addr} {fs : List (Str × V)} {xs : List V} (a : Kx x H H1) (hx : H x = some (.ins C dx fs)) (h : SqA K H b xs) : SqA K H1 b xs := by
  rcases h with ((h | ⟨o, h⟩) | h) | h
  · exact .inl (.inl (.inl (a.lst hx h)))
  · exact .inl (.inl (.inr ⟨o, a _ _ (Kx.ne hx h fun _ _ _ z => by cases z) h⟩))
  · exact .inl (.inr h)
  · exact .inr ((a.tk hx).seq h)
theorem apart {x a b : Addr} {H1 H2 : Hp} {C dx : Addr} {fs : List (Str × V)} {xs : List V} (k : Kx x H1 H2) (hx : H1 x = some (.ins C dx fs)) (e : H1 a = some (.lst xs)) (h : H2 b = none) : a ≠ b := ne_of_none (k.lst hx e) h
theorem few {fs : List (Str × V)} (n : Nat) (h : fs.length = n) (hn : n < 1000) : fs.length < 1000 := by omega
section
variable {P : Program} {w : World} {K : PySem.W.Frag} {mg : Str → Option Value} {base : Heap}
abbrev NW : List Str := ["self", "code", "inputs", "strikes", "votes", "size", "inside", "bank", "_"]
theorem scWInit : FnScope NW ["self", "code", "inputs", "strikes"] (defScope sWorks) := ⟨rfl, rfl, rfl, by decide +kernel, rfl, by decide +kernel, by decide +kernel⟩
theorem ok_wInit {f C f0 : Addr} {fd : FuncData} (F : Fun K "__init__" "Works.__init__" sWorks f fd) (Z : WC K mg C f0) (T : Bt mg) (N : Gn mg) : FnOk P w K mg base CX0 1 f fd ["self", "code", "inputs", "strikes"] (spWInit K C) := by
  refine F.ok scWInit (fun vs H Q E h => ?_) (fun cdv A outer s H vs Q E hr h => ?_)
  · obtain ⟨x, dx, ai, ak, vc, c, ins, ks, ys, rfl, _⟩ := h
    rfl
  · have nd := scWInit.nd
    obtain ⟨x, dx, ai, ak, vc, c, ins, ks, ys, rfl, hx, hdx, hd, hI, hK, hKd, ok, q⟩ := h
    obtain ⟨a, av, ac, ab, xc, rfl, h1, h2, h3, h4, h5⟩ := dp_code hd
    have hlx : xc.length = c.cells.length := by
      have := dps_len h4
      rw [List.length_map] at this
      exact this
    have hh : 1 ≤ c.h ∧ c.h ≤ 5 := ok
    have hlv : (c.votes.map fun n : Nat => V.int (n : Int)).length = c.h := List.length_map _
    refine ⟨_, pss_cons (ps_asg (pv 1) (pg_tup (by rfl) (pgs_cons (pg_name (i := 4) nd rfl (.inl rfl)) (pgs_cons (pg_name (i := 5) nd rfl (.inl rfl)) (pgs_cons (pg_name (i := 6) nd rfl (.inl rfl)) (pgs_cons (pg_name (i := 7) nd rfl (.inr rfl)) pgs_nil))))))
      (pss_cons (ps_fld (pv 0) (pv 4) rfl)
      (pss_cons (ps_fld (pv 0) (pv 5) rfl)
      (pss_cons (ps_fld (pv 0) (pv 6) rfl)
      (pss_cons (ps_fld (pv 0) (pv 6) rfl)
      (pss_cons (ps_fld (pv 0) (pe_lc (own := [("_", 8)]) (g := gName 8) (by rfl) nd (pi_tup (pv 4)) (blkOk_by (own := [("_", 8)]) (N := ["self", "code", "inputs", "strikes", "votes", "size", "inside", "bank", "_"]) (sc := defScope sWorks) (by decide +kernel)) (fun _ _ _ _ _ => pg_name (i := 8) nd rfl (Or.inl rfl))
          (fun _ _ _ _ _ => pts_nil)
          (fun _ _ _ _ _ => pe_op op_rep (pe_lst (pa_cons pe_int pa_nil)) (pe_gint N.REGISTERS rfl))) rfl)
      (pss_cons (ps_fld (pv 0) (pe_lc (own := [("_", 8)]) (g := gName 8) (by rfl) nd (pi_tup (pv 4)) (blkOk_by (own := [("_", 8)]) (N := ["self", "code", "inputs", "strikes", "votes", "size", "inside", "bank", "_"]) (sc := defScope sWorks) (by decide +kernel)) (fun _ _ _ _ _ => pg_name (i := 8) nd rfl (Or.inl rfl))
          (fun _ _ _ _ _ => pts_nil)
          (fun _ _ _ _ _ => pe_callTy (T := "list") (r := rListK K) (by exact call_list_of) (by rfl) T.list (by decide +kernel) (pa_cons (pv 7) pa_nil))) rfl)
      (pss_cons (ps_fld (pv 0) (pe_op op_rep (pe_lst (pa_cons pe_int pa_nil)) (pe_callB call_len_seq (by rfl) T.len PySem.boot_len (pa_cons (pv 4) pa_nil))) rfl)
      (pss_cons (ps_fld (pv 0) (pe_op op_rep (pe_lst (pa_cons pe_non pa_nil)) (pe_callB call_len_seq (by rfl) T.len PySem.boot_len (pa_cons (pv 4) pa_nil))) rfl)
      (pss_cons (ps_fld (pv 0) (pe_callTy call_list_of (by rfl) T.list (by decide +kernel) (pa_cons (pv 2) pa_nil)) rfl)
      (pss_cons (ps_fld (pv 0) pe_int rfl)
      (pss_cons (ps_fld (pv 0) (pe_callTy call_list_of (by rfl) T.list (by decide +kernel) (pa_cons (pv 3) pa_nil)) rfl)
      (pss_cons (ps_fld (pv 0) pe_int rfl)
      (pss_cons (ps_fld (pv 0) (pe_lst pa_nil) rfl)
      (pss_cons (ps_fld (pv 0) pe_int rfl)
      (pss_one (ps_fld (pv 0) pe_str rfl)))))))))))))))), ?_⟩
    refine ⟨_, rfl, a, _, rfl, h1, rfl, _, _, rfl, _, _, rfl, _, _, rfl, _, _, rfl, rfl, ?_⟩
    have hne : dx ≠ x := fun e => by
      rw [e, hx] at hdx
      cases hdx
    -- three plain ones
    refine ⟨_, rfl, _, rfl, x, C, dx, _, rfl, hx, Z.cls, Z.n_votes, few 0 rfl (by decide), ?_⟩
    refine ⟨_, rfl, _, rfl, x, C, dx, _, rfl, upd_same, Z.cls, Z.n_size, few 1 (by kernel_rfl) (by decide), ?_⟩
    refine ⟨_, rfl, _, rfl, x, C, dx, _, rfl, upd_same, Z.cls, Z.n_first_tape, few 2 (by kernel_rfl) (by decide), ?_⟩
    generalize hA : (upd (upd (upd H x _) x _) x _ : Hp) = HA
    have hAx : HA x = some (.ins C dx (putF "first_tape" (.ref ac) (putF "size" (.int c.size) (putF "votes" (.ref av) [])))) := by rw [← hA]; exact upd_same
    have kA : Kx x H HA := by rw [← hA]; exact (((Kx.refl x H).at).at).at
    have tA := kA.tk hx
    generalize hfA : putF "first_tape" (V.ref ac) (putF "size" (.int c.size) (putF "votes" (.ref av) [])) = fA at *
    -- tape
    refine ⟨_, rfl, _, rfl, x, C, dx, fA, rfl, hAx, Z.cls, Z.n_tape, few 3 (by rw [← hfA]; kernel_rfl) (by decide), ?_⟩
    generalize hB : (upd HA x _ : Hp) = HB
    have hBx : HB x = some (.ins C dx (putF "tape" (.ref ac) fA)) := by rw [← hB]; exact upd_same
    have kAB : Kx x HA HB := by rw [← hB]; exact (Kx.refl x HA).at
    have kB := kA.trans kAB
    have tB := kB.tk hx
    generalize hfB : putF "tape" (V.ref ac) fA = fB at *
    -- numbers
    refine ⟨_, rfl, av, rfl, ⟨_, tB.seq h2⟩, fun nu hnu => ?_⟩
    refine lc_tup (K := K) (a := av) (xs := c.votes.map fun n : Nat => V.int (n : Int)) (fun i H' => ∃ ds : List Addr, H' nu = some (.lst (ds.map V.ref)) ∧ ds.length = i ∧ ds.Nodup ∧ (∀ d ∈ ds, HB d = none ∧ d ≠ nu ∧ H' d = some (.lst ((List.replicate 8 (0 : Int)).map V.int))) ∧ Same HB H')
      ⟨[], upd_same, rfl, List.nodup_nil, fun d hd => absurd hd List.not_mem_nil, same_new hnu⟩ (fun i H' _ hh => ?_) (fun i z H' hz hh => ?_) (fun H' hh => ?_)
    · obtain ⟨ds, _, _, _, _, k⟩ := hh
      exact (tB.trans (Tk.same k)).seq h2
    · obtain ⟨ds, e1, e2, e3, e4, k⟩ := hh
      refine ⟨rfl, (show 1 ≤ sizeLine by decide), fun p14 hp14 => ?_⟩
      refine ⟨p14, 8, [.int 0], rfl, rfl, upd_same, by decide, by decide, by decide, fun p15 hp15 => ?_⟩
      have s14 := same_new (o := .lst [V.int 0]) hp14
      have s15 := same_new (o := .lst (List.replicate (Int.toNat 8) [V.int 0]).flatten) hp15
      have e1' := s15 _ _ (s14 _ _ e1)
      have n15 : p15 ≠ nu := fun y => by
        rw [y, s14 _ _ e1] at hp15
        cases hp15
      have h13n : HB p15 = none := (Same.trans k s14).free hp15
      have hi5 : i < (c.votes.map fun n : Nat => V.int (n : Int)).length := (List.getElem?_eq_some_iff.mp hz).1
      refine ⟨_, e1', small1000 (by rw [List.length_map]; omega), ds ++ [p15], by rw [upd_same, List.map_append]; rfl, by rw [List.length_append, e2]; rfl, ?_, fun d hd => ?_, fun b o e => ?_⟩
      · refine List.nodup_append.mpr ⟨e3, by simp, fun u hu v hv' => ?_⟩
        rw [List.mem_singleton.mp hv']
        intro y
        have := (e4 u hu).2.2
        rw [y] at this
        rw [s14 _ _ this] at hp15
        cases hp15
      · rcases List.mem_append.mp hd with y | y
        · obtain ⟨f1, f2, f3⟩ := e4 d y
          refine ⟨f1, f2, ?_⟩
          rw [upd_ne f2]
          exact s15 _ _ (s14 _ _ f3)
        · rw [List.mem_singleton.mp y]
          refine ⟨h13n, n15, ?_⟩
          rw [upd_ne n15, upd_same]
          rfl
      · rw [upd_ne (ne_of_none e hnu)]
        exact s15 _ _ (s14 _ _ (k b o e))
    obtain ⟨rs, r1, r2, r3, r4, kr⟩ := hh
    rw [hlv] at r2
    have hx' := kr _ _ hBx
    refine ⟨_, rfl, x, C, dx, fB, rfl, hx', Z.cls, Z.n_numbers, few 4 (by rw [← hfB, ← hfA]; kernel_rfl) (by decide), ?_⟩
    have nnx : nu ≠ x := (ne_of_none hBx hnu).symm
    generalize hC : (upd H' x _ : Hp) = HC
    have hCx : HC x = some (.ins C dx (putF "numbers" (.ref nu) fB)) := by rw [← hC]; exact upd_same
    have kBC : Kx x HB HC := by rw [← hC]; exact (show Kx x HB H' from fun b o _ e => kr b o e).at
    have hCn : HC nu = some (.lst (rs.map V.ref)) := by rw [← hC, upd_ne nnx]; exact r1
    have hCr : ∀ r ∈ rs, HC r = some (.lst ((List.replicate 8 (0 : Int)).map V.int)) := fun r hr => by
      rw [← hC, upd_ne fun z => ?_]
      · exact (r4 r hr).2.2
      · have := (r4 r hr).1
        rw [z, hBx] at this
        cases this
    have kC := kB.trans kBC
    have tC := kC.tk hx
    generalize hfC : putF "numbers" (V.ref nu) fB = fC at *
    -- banks
    refine ⟨_, rfl, av, rfl, ⟨_, tC.seq h2⟩, fun bk hbk => ?_⟩
    refine lc_tup (K := K) (a := av) (xs := c.votes.map fun n : Nat => V.int (n : Int)) (fun i H' => ∃ ds : List Addr, H' bk = some (.lst (ds.map V.ref)) ∧ ds.length = i ∧ ds.Nodup ∧ (∀ d ∈ ds, HC d = none ∧ d ≠ bk ∧ H' d = some (.lst (c.bank.map V.int))) ∧ Same HC H')
      ⟨[], upd_same, rfl, List.nodup_nil, fun d hd => absurd hd List.not_mem_nil, same_new hbk⟩ (fun i H' _ hh => ?_) (fun i z H' hz hh => ?_) (fun H' hh => ?_)
    · obtain ⟨ds, _, _, _, _, k⟩ := hh
      exact (tC.trans (Tk.same k)).seq h2
    · obtain ⟨ds, e1, e2, e3, e4, k⟩ := hh
      refine ⟨rfl, _, rfl, ab, _, rfl, .inr ((tC.trans (Tk.same k)).seq h5), fun p15 hp15 => ?_⟩
      have s15 := same_new (o := .lst (c.bank.map V.int)) hp15
      have e1' := s15 _ _ e1
      have n15 : p15 ≠ bk := fun y => by
        rw [y, e1] at hp15
        cases hp15
      have h13n : HC p15 = none := Same.free k hp15
      have hi5 : i < (c.votes.map fun n : Nat => V.int (n : Int)).length := (List.getElem?_eq_some_iff.mp hz).1
      refine ⟨_, e1', small1000 (by rw [List.length_map]; omega), ds ++ [p15], by rw [upd_same, List.map_append]; rfl, by rw [List.length_append, e2]; rfl, ?_, fun d hd => ?_, fun b o e => ?_⟩
      · refine List.nodup_append.mpr ⟨e3, by simp, fun u hu v hv' => ?_⟩
        rw [List.mem_singleton.mp hv']
        intro y
        have := (e4 u hu).2.2
        rw [y] at this
        rw [this] at hp15
        cases hp15
      · rcases List.mem_append.mp hd with y | y
        · obtain ⟨f1, f2, f3⟩ := e4 d y
          refine ⟨f1, f2, ?_⟩
          rw [upd_ne f2]
          exact s15 _ _ f3
        · rw [List.mem_singleton.mp y]
          refine ⟨h13n, n15, ?_⟩
          rw [upd_ne n15, upd_same]
      · rw [upd_ne (ne_of_none e hbk)]
        exact s15 _ _ (k b o e)
    obtain ⟨bs, u1, u2, u3, u4, ku⟩ := hh
    rw [hlv] at u2
    have hx'' := ku _ _ hCx
    refine ⟨_, rfl, x, C, dx, fC, rfl, hx'', Z.cls, Z.n_banks, few 5 (by rw [← hfC, ← hfB, ← hfA]; kernel_rfl) (by decide), ?_⟩
    have nbx : bk ≠ x := (ne_of_none hCx hbk).symm

    generalize hE : (upd H' x _ : Hp) = HE
    have hEx : HE x = some (.ins C dx (putF "banks" (.ref bk) fC)) := by rw [← hE]; exact upd_same
    have kCE : Kx x HC HE := by rw [← hE]; exact (show Kx x HC H' from fun b o _ e => ku b o e).at
    have hEb : HE bk = some (.lst (bs.map V.ref)) := by rw [← hE, upd_ne nbx]; exact u1
    have hEs : ∀ r ∈ bs, HE r = some (.lst (c.bank.map V.int)) := fun r hr => by
      rw [← hE, upd_ne fun z => ?_]
      · exact (u4 r hr).2.2
      · have := (u4 r hr).1
        rw [z, hCx] at this
        cases this
    have kE := kC.trans kCE
    have tE := kE.tk hx
    generalize hfE : putF "banks" (V.ref bk) fC = fE at *
    have bounds : -(2 ^ 63) ≤ (((c.votes.map fun n : Nat => V.int (n : Int)).length : Nat) : Int) ∧ (((c.votes.map fun n : Nat => V.int (n : Int)).length : Nat) : Int) < 2 ^ 63 := by
      rw [hlv]
      have : (5 : Int) < 2 ^ 63 := by decide
      have : (-(2 ^ 63) : Int) ≤ 0 := by decide
      omega
    have len1 : ∀ y : V, [y].length * ((((c.votes.map fun n : Nat => V.int (n : Int)).length : Nat) : Int)).toNat ≤ sizeLine := fun y => by
      rw [hlv, Int.toNat_natCast]
      have : (5 : Nat) ≤ sizeLine := by decide
      show 1 * c.h ≤ sizeLine
      omega
    have rep : ∀ y : V, (List.replicate ((((c.votes.map fun n : Nat => V.int (n : Int)).length : Nat) : Int)).toNat [y]).flatten = List.replicate c.h y := fun y => by
      rw [hlv, Int.toNat_natCast, List.flatten_replicate_singleton]
    -- heads
    refine ⟨(by decide), fun q8 hq8 => ?_⟩
    have s8 := same_new (o := .lst [V.int 0]) hq8
    refine ⟨_, rfl, av, _, rfl, .inr ((tE.trans (Tk.same s8)).seq h2), q8, _, [.int 0], rfl, rfl, upd_same, bounds.1, bounds.2, len1 _, fun hd' hhd => ?_⟩
    rw [rep]
    have n8 : hd' ≠ x := (ne_of_none (s8 _ _ hEx) hhd).symm
    refine ⟨_, rfl, x, C, dx, fE, rfl, by rw [upd_ne n8.symm]; exact s8 _ _ hEx, Z.cls, Z.n_heads, few 6 (by rw [← hfE, ← hfC, ← hfB, ← hfA]; kernel_rfl) (by decide), ?_⟩
    have f8 : HE hd' = none := s8.free hhd
    generalize hF : (upd (upd (upd HE q8 _) hd' _) x _ : Hp) = HF
    have hFx : HF x = some (.ins C dx (putF "heads" (.ref hd') fE)) := by rw [← hF]; exact upd_same
    have kEF : Kx x HE HF := by rw [← hF]; exact (((Kx.refl x HE).new hq8).new hhd).at
    have hFh : HF hd' = some (.lst (List.replicate c.h (V.int 0))) := by rw [← hF, upd_ne n8]; exact upd_same
    have kF := kE.trans kEF
    have tF := kF.tk hx
    generalize hfF : putF "heads" (V.ref hd') fE = fF at *
    -- offers
    refine ⟨(by decide), fun q9 hq9 => ?_⟩
    have s9 := same_new (o := .lst [V.non]) hq9
    refine ⟨_, rfl, av, _, rfl, .inr ((tF.trans (Tk.same s9)).seq h2), q9, _, [.non], rfl, rfl, upd_same, bounds.1, bounds.2, len1 _, fun sl hsl => ?_⟩
    rw [rep]
    have n9 : sl ≠ x := (ne_of_none (s9 _ _ hFx) hsl).symm
    refine ⟨_, rfl, x, C, dx, fF, rfl, by rw [upd_ne n9.symm]; exact s9 _ _ hFx, Z.cls, Z.n_offers, few 7 (by rw [← hfF, ← hfE, ← hfC, ← hfB, ← hfA]; kernel_rfl) (by decide), ?_⟩
    have f9 : HF sl = none := s9.free hsl
    generalize hG : (upd (upd (upd HF q9 _) sl _) x _ : Hp) = HG
    have hGx : HG x = some (.ins C dx (putF "offers" (.ref sl) fF)) := by rw [← hG]; exact upd_same
    have kFG : Kx x HF HG := by rw [← hG]; exact (((Kx.refl x HF).new hq9).new hsl).at
    have hGs : HG sl = some (.lst (List.replicate c.h V.non)) := by rw [← hG, upd_ne n9]; exact upd_same
    have kG := kF.trans kFG
    generalize hfG : putF "offers" (V.ref sl) fF = fG at *
    -- given
    refine ⟨_, rfl, ai, _, rfl, kG.seq hx hI, fun gv hgv => ?_⟩
    have n10 : gv ≠ x := (ne_of_none hGx hgv).symm
    refine ⟨_, rfl, x, C, dx, fG, rfl, by rw [upd_ne n10.symm]; exact hGx, Z.cls, Z.n_given, few 8 (by rw [← hfG, ← hfF, ← hfE, ← hfC, ← hfB, ← hfA]; kernel_rfl) (by decide), ?_⟩
    -- taken
    refine ⟨_, rfl, x, C, dx, _, rfl, upd_same, Z.cls, Z.n_taken, few 9 (by rw [← hfG, ← hfF, ← hfE, ← hfC, ← hfB, ← hfA]; kernel_rfl) (by decide), ?_⟩
    generalize hI' : (upd (upd (upd HG gv _) x _) x _ : Hp) = HI
    have hIx : HI x = some (.ins C dx (putF "taken" (.int 0) (putF "given" (.ref gv) fG))) := by rw [← hI']; exact upd_same
    have kGI : Kx x HG HI := by rw [← hI']; exact ((((Kx.refl x HG).new hgv).at).at)
    have hIg : HI gv = some (.lst (ins.map V.int)) := by rw [← hI', upd_ne n10, upd_ne n10]; exact upd_same
    have kI := kG.trans kGI
    generalize hfI : putF "taken" (V.int 0) (putF "given" (V.ref gv) fG) = fI at *
    -- planned
    refine ⟨_, rfl, ak, _, rfl, kI.seq hx hK, fun pl hpl => ?_⟩
    have n11 : pl ≠ x := (ne_of_none hIx hpl).symm
    refine ⟨_, rfl, x, C, dx, fI, rfl, by rw [upd_ne n11.symm]; exact hIx, Z.cls, Z.n_planned, few 10 (by rw [← hfI, ← hfG, ← hfF, ← hfE, ← hfC, ← hfB, ← hfA]; kernel_rfl) (by decide), ?_⟩
    refine ⟨_, rfl, x, C, dx, _, rfl, upd_same, Z.cls, Z.n_struck_many, few 11 (by rw [← hfI, ← hfG, ← hfF, ← hfE, ← hfC, ← hfB, ← hfA]; kernel_rfl) (by decide), ?_⟩
    generalize hJ : (upd (upd (upd HI pl _) x _) x _ : Hp) = HJ
    have hJx : HJ x = some (.ins C dx (putF "struck_many" (.int 0) (putF "planned" (.ref pl) fI))) := by rw [← hJ]; exact upd_same
    have kIJ : Kx x HI HJ := by rw [← hJ]; exact ((((Kx.refl x HI).new hpl).at).at)
    have hJp : HJ pl = some (.lst ys) := by rw [← hJ, upd_ne n11, upd_ne n11]; exact upd_same
    have kJ := kI.trans kIJ
    generalize hfJ : putF "struck_many" (V.int 0) (putF "planned" (V.ref pl) fI) = fJ at *
    -- shown, done, word
    refine ⟨(by decide), fun sh hsh => ?_⟩
    have n12 : sh ≠ x := (ne_of_none hJx hsh).symm
    refine ⟨_, rfl, x, C, dx, fJ, rfl, by rw [upd_ne n12.symm]; exact hJx, Z.cls, Z.n_shown, few 12 (by rw [← hfJ, ← hfI, ← hfG, ← hfF, ← hfE, ← hfC, ← hfB, ← hfA]; kernel_rfl) (by decide), ?_⟩
    refine ⟨_, rfl, x, C, dx, _, rfl, upd_same, Z.cls, Z.n_done, few 13 (by rw [← hfJ, ← hfI, ← hfG, ← hfF, ← hfE, ← hfC, ← hfB, ← hfA]; kernel_rfl) (by decide), ?_⟩
    refine ⟨_, rfl, x, C, dx, _, rfl, upd_same, Z.cls, Z.n_word, few 14 (by rw [← hfJ, ← hfI, ← hfG, ← hfF, ← hfE, ← hfC, ← hfB, ← hfA]; kernel_rfl) (by decide), ?_⟩
    generalize hL : (upd (upd (upd (upd HJ sh _) x _) x _) x _ : Hp) = HL
    have hLx : HL x = some (.ins C dx (putF "word" (.str "running") (putF "done" (.int 0) (putF "shown" (.ref sh) fJ)))) := by rw [← hL]; exact upd_same
    have kJL : Kx x HJ HL := by rw [← hL]; exact (((((Kx.refl x HJ).new hsh).at).at).at)
    have hLs : HL sh = some (.lst []) := by rw [← hL, upd_ne n12, upd_ne n12, upd_ne n12]; exact upd_same
    have kL := kJ.trans kJL
    have eF : putF "word" (V.str "running") (putF "done" (V.int 0) (putF "shown" (V.ref sh) fJ)) = wfs ⟨dx, av, ac, ac, nu, bk, hd', sl, gv, pl, sh, rs, bs⟩ (D0 c ins ks) := by
      rw [← hfJ, ← hfI, ← hfG, ← hfF, ← hfE, ← hfC, ← hfB, ← hfA]
      kernel_rfl
    rw [eF] at hLx
    -- where all stands at the end
    have kBL := kBC.trans (kCE.trans (kEF.trans (kFG.trans (kGI.trans (kIJ.trans kJL)))))
    have kCL := kCE.trans (kEF.trans (kFG.trans (kGI.trans (kIJ.trans kJL))))
    have kEL := kEF.trans (kFG.trans (kGI.trans (kIJ.trans kJL)))
    have kFL := kFG.trans (kGI.trans (kIJ.trans kJL))
    have kGL := kGI.trans (kIJ.trans kJL)
    have kIL := kIJ.trans kJL
    refine q HL ⟨dx, av, ac, ac, nu, bk, hd', sl, gv, pl, sh, rs, bs⟩ ⟨hLx, kL _ _ hne hdx, ⟨(kL.tk hx).seq h2, ⟨xc, (kL.tk hx).seq h3, dps_tk (kL.tk hx) _ _ (noLs_map _ noL_cel _) h4⟩, ⟨xc, (kL.tk hx).seq h3, dps_tk (kL.tk hx) _ _ (noLs_map _ noL_cel _) h4⟩, kCL.lst hCx hCn, kEL.lst hEx hEb, ?_, ?_, kIL.lst hIx hIg, ⟨ys, kJL.lst hJx hJp, dps_tk (kL.tk hx) _ _ (noLs_map _ noL_stk _) hKd⟩, ⟨[], hLs, .nil⟩, ⟨?_, fun i a r ha hr => ?_⟩, ⟨?_, fun i a r ha hr => ?_⟩⟩, ?_⟩ rfl kL ?_
    · have z := kFL.lst hFx hFh
      show HL hd' = some (.lst ((List.replicate c.h (0 : Int)).map V.int))
      rw [List.map_replicate]
      exact z
    · have z := kGL.lst hGx hGs
      show HL sl = some (.lst ((List.replicate c.h (none : Option Int)).map slotV))
      rw [List.map_replicate]
      exact z
    · show rs.length = (List.replicate c.h (List.replicate 8 (0 : Int))).length
      rw [r2, List.length_replicate]
    · have hr : (List.replicate c.h (List.replicate 8 (0 : Int)))[i]? = some r := hr
      rw [List.eq_of_mem_replicate (List.mem_of_getElem? hr)]
      exact kCL.lst hCx (hCr a (List.mem_of_getElem? ha))
    · show bs.length = (List.replicate c.h c.bank).length
      rw [u2, List.length_replicate]
    · have hr : (List.replicate c.h c.bank)[i]? = some r := hr
      rw [List.eq_of_mem_replicate (List.mem_of_getElem? hr)]
      exact kEL.lst hEx (hEs a (List.mem_of_getElem? ha))
    · show (WV.list _).Nodup
      unfold WV.list
      simp only [List.nodup_cons, List.mem_cons, List.mem_append, not_or, List.nodup_append]
      exact ⟨⟨apart (Kx.refl x HC) hCx hCn hbk, apart (kCE) hCx hCn f8, apart (kCE.trans kEF) hCx hCn f9, apart (kCE.trans (kEF.trans kFG)) hCx hCn hgv, apart (kCE.trans (kEF.trans (kFG.trans kGI))) hCx hCn hpl, apart (kCE.trans (kEF.trans (kFG.trans (kGI.trans kIJ)))) hCx hCn hsh, fun z => (r4 _ z).2.1 rfl, fun z => apart (Kx.refl x HC) hCx hCn (u4 _ z).1 rfl⟩,
        ⟨apart (Kx.refl x HE) hEx hEb f8, apart (kEF) hEx hEb f9, apart (kEF.trans kFG) hEx hEb hgv, apart (kEF.trans (kFG.trans kGI)) hEx hEb hpl, apart (kEF.trans (kFG.trans (kGI.trans kIJ))) hEx hEb hsh, fun z => apart (Kx.refl x HC) hCx (hCr _ z) hbk rfl, fun z => (u4 _ z).2.1 rfl⟩,
        ⟨apart (Kx.refl x HF) hFx hFh f9, apart (kFG) hFx hFh hgv, apart (kFG.trans kGI) hFx hFh hpl, apart (kFG.trans (kGI.trans kIJ)) hFx hFh hsh, fun z => apart (kCE) hCx (hCr _ z) f8 rfl, fun z => apart (Kx.refl x HE) hEx (hEs _ z) f8 rfl⟩,
        ⟨apart (Kx.refl x HG) hGx hGs hgv, apart (kGI) hGx hGs hpl, apart (kGI.trans kIJ) hGx hGs hsh, fun z => apart (kCE.trans kEF) hCx (hCr _ z) f9 rfl, fun z => apart (kEF) hEx (hEs _ z) f9 rfl⟩,
        ⟨apart (Kx.refl x HI) hIx hIg hpl, apart (kIJ) hIx hIg hsh, fun z => apart (kCE.trans (kEF.trans kFG)) hCx (hCr _ z) hgv rfl, fun z => apart (kEF.trans kFG) hEx (hEs _ z) hgv rfl⟩,
        ⟨apart (Kx.refl x HJ) hJx hJp hsh, fun z => apart (kCE.trans (kEF.trans (kFG.trans kGI))) hCx (hCr _ z) hpl rfl, fun z => apart (kEF.trans (kFG.trans kGI)) hEx (hEs _ z) hpl rfl⟩,
        ⟨fun z => apart (kCE.trans (kEF.trans (kFG.trans (kGI.trans kIJ)))) hCx (hCr _ z) hsh rfl, fun z => apart (kEF.trans (kFG.trans (kGI.trans kIJ))) hEx (hEs _ z) hsh rfl⟩,
        r3, u3, fun a ha b hb => apart (Kx.refl x HC) hCx (hCr _ ha) (u4 _ hb).1⟩
    · intro b hb
      simp only [WV.list, List.mem_cons, List.mem_append] at hb
      rcases hb with rfl | rfl | rfl | rfl | rfl | rfl | rfl | hb | hb
      · exact kB.free hBx hnu
      · exact kC.free hCx hbk
      · exact kE.free hEx f8
      · exact kF.free hFx f9
      · exact kG.free hGx hgv
      · exact kI.free hIx hpl
      · exact kJ.free hJx hsh
      · exact kB.free hBx (r4 _ hb).1
      · exact kC.free hCx (u4 _ hb).1
end
end Hue
namespace Hue
open L2 PySem.Spec PySem PyProof.Rows
theorem take1_filter {α : Type} (p : α → Bool) : ∀ xs : List α, (xs.filter p).take 1 = (xs.find? p).toList
  | [] => rfl
  | x :: r => by
    rw [List.filter_cons, List.find?_cons]
    cases h : p x with
    | true => rfl
    | false => exact take1_filter p r
theorem cut_to1 (xs : List V) : cutV xs none (some 1) = xs.take 1 := by
  unfold cutV
  rw [HT.sIx_none, show HT.sIx xs.length xs.length (some 1) = min 1 xs.length from HT.sIx_nat xs.length xs.length 1]
  rw [List.drop_zero, Nat.sub_zero]
  cases xs with
  | nil => rfl
  | cons x r =>
    rw [show min 1 (x :: r).length = 1 by rw [List.length_cons]; omega]
theorem filter_take {α : Type} (p : α → Bool) {xs : List α} {i : Nat} {x : α} (h : xs[i]? = some x) : (xs.take (i + 1)).filter p = (xs.take i).filter p ++ (if p x = true then [x] else []) := by
  rw [List.take_add_one, h, List.filter_append]
  congr 1
  show ([x].filter p) = _
  rw [List.filter_cons]
  split <;> rfl
def rLenK (K : PySem.W.Frag) : List V → Hp → VK → Prop := fun xs H Q => ∃ p ys, xs = [V.ref p] ∧ (SqL K H p ys ∨ SqT K H p ys) ∧ Q (.int (ys.length : Int)) H
theorem call_lenK {X : Cx} : CallR X (.builtin "len") (rLenK X.K) := call_len_seq
/-- how many of the data are equal to one -/
def cntD (ds : List PyData) (d : PyData) : Nat := (ds.filter fun e => PyData.eqv e d).length
end Hue
namespace Hue
open L2 PySem.Spec PySem PyProof.Rows
/-! ### l.count(x) over data -/
theorem cnt_p (ds : List PyData) (d : PyData) : ds.countP (fun y => PyData.eqv y d) = cntD ds d := by
  unfold cntD
  rw [List.countP_eq_length_filter]
def rCntD (K : PySem.W.Frag) : V → List V → Hp → VK → Prop := fun x xs H Q => ∃ (p : Addr) (ys : List V) (y : V) (ds : List PyData) (d : PyData), x = .ref p ∧ xs = [y] ∧ SqL K H p ys ∧ DpAll K H ys ds ∧ Dp K H y d ∧ PyData.canLayAll0 ds = true ∧ PyData.canLay0 d = true ∧ d.depth ≤ 8 ∧ Q (.int (cntD ds d : Nat)) H
theorem mt_countD {X : Cx} (hu : X.A.units + 64 < cLine) : MtR X "list.count" (rCntD X.K) := by
  intro pins s σ H x xs v us Q I rx rxs h
  obtain ⟨p, ys, y, ds, d, rfl, rfl, hs, hD, hy, cl, cd, hdp, q⟩ := h
  cases rx
  obtain ⟨u, rfl, ry⟩ := rxs.one
  obtain ⟨bs, r1⟩ := Dp.reads I d y u hy ry
  obtain ⟨its, rv, ⟨⟨cls, dd, data, sl⟩, n, ho, hc, hdn, hdt⟩, hlen⟩ := I.list hs
  simp only at hc hdt
  subst hc hdt
  obtain ⟨as, h4⟩ := Dp.readsAll I ds _ its hD rv
  have hroom : X.A.units + 1 + min (PyData.depthAll ds) d.depth < cLine := by
    have h2 : min (PyData.depthAll ds) d.depth ≤ d.depth := Nat.min_le_right _ _
    omega
  have hmap : its.map (SeqAt.readOf s.heap) = ds := SeqAt.readsAll_map ds its as cl h4
  refine call_meets PySem.F.slot_list_count ⟨_, ho, rfl⟩ PySem.F.entry_list_count (PySem.F.args_list_count_2 _ _)
    (SeqAt.list_countAt p its.toArray n dd sl u (fun u => PyData.eqv (SeqAt.readOf s.heap u) d)) ⟨ho, SeqAt.items_eqAt (vs := its.toArray) (show ReadsAll s.heap its.toArray.toList ds as from h4) r1 cl cd hroom, ?_⟩
  have ec : its.toArray.toList.countP (fun u => PyData.eqv (SeqAt.readOf s.heap u) d) = cntD ds d := by
    rw [← cnt_p, ← hmap, List.countP_map]
    rfl
  refine ⟨.int (cntD ds d : Nat), H, I.tok _, ⟨s.toks, ?_⟩, q⟩
  show Value.int ((its.toArray.toList.countP _ : Nat) : Int) s.toks = Value.int ((cntD ds d : Nat) : Int) s.toks
  rw [ec]
/-! ### the value that stands so often -/
def pickA (all : List PyData) (n : Nat) : List V → List PyData → V
  | x :: xs, d :: ds => if x ≠ .non ∧ n ≤ cntD all d then x else pickA all n xs ds
  | _, _ => .non
theorem canLayAll_of : ∀ (ds : List PyData), (∀ d ∈ ds, d.canLay0 = true) → PyData.canLayAll0 ds = true
  | [], _ => rfl
  | d :: r, h => by
    show (d.canLay0 && PyData.canLayAll0 r) = true
    rw [h d List.mem_cons_self, canLayAll_of r fun e he => h e (List.mem_cons_of_mem _ he)]
    rfl
def spAgrOf (K : PySem.W.Frag) : Sp := fun vs H Q _ => ∃ (a : Addr) (xs : List V) (ds : List PyData) (n : Nat), vs = [.ref a, .int n] ∧ SqL K H a xs ∧ DpAll K H xs ds ∧ (∀ d ∈ ds, d.canLay0 = true ∧ d.depth ≤ 8) ∧ Q (pickA ds n xs ds) H
section
variable {P : Program} {w : World} {K : PySem.W.Frag} {mg : Str → Option Value} {base : Heap}
theorem scAgrOf : FnScope ["values", "need", "value"] ["values", "need"] (defScope sAgreedOf) := ⟨rfl, rfl, rfl, by decide +kernel, rfl, by decide +kernel, by decide +kernel⟩
theorem ok_agrOf {f : Addr} {fd : FuncData} (F : Fun K "agreed_of" "agreed_of" sAgreedOf f fd) : FnOk P w K mg base CX0 1 f fd ["values", "need"] (spAgrOf K) := by
  refine F.ok scAgrOf (fun vs H Q E h => ?_) (fun cdv A outer s H vs Q E hr h => ?_)
  · obtain ⟨a, xs, ds, n, rfl, _⟩ := h
    rfl
  · have nd := scAgrOf.nd
    obtain ⟨a, xs, ds, n, rfl, hS, hD, hsh, q⟩ := h
    refine ⟨_, pss_cons (ps_for PassesOwn.never rfl (pi_list (pv 0)) (pg_name (i := 2) nd rfl (.inl rfl))
      (pss_one (ps_if (PW.pt (pw_and (pt_cmpR op_notN (pv 2) pe_non (nomark _)) (pw_and1 (pt_cmpR op_ge (pe_bm PySem.F.plainAttrs_list PySem.F.slot_list_count PySem.F.type_list_count (mt_countD hr.units) (pv 0) (pa_cons (pv 2) pa_nil)) (pv 1) (nomark _)))))
        (pss_one (ps_ret (pv 2)))
        pss_nil)))
      (pss_one (ps_ret pe_non)), ?_⟩
    have hl := dps_len hD
    refine ⟨_, rfl, a, rfl, ⟨_, hS⟩, for_list (xs := xs) (fun i σ H' => (∃ y, σ = [some (.ref a), some (.int n), y]) ∧ H' = H ∧ pickA ds n (xs.drop i) (ds.drop i) = pickA ds n xs ds) ⟨⟨_, rfl⟩, rfl, rfl⟩ (fun i σ H' _ h => by rw [h.2.1]; exact hS) (fun i x σ H' hx h => ?_) (fun σ H' h => ?_)⟩
    · obtain ⟨⟨y, rfl⟩, rfl, hno⟩ := h
      obtain ⟨d, hd, hxd⟩ := dps_get hD hx
      have hi : i < xs.length := (List.getElem?_eq_some_iff.mp hx).1
      have hi2 : i < ds.length := (List.getElem?_eq_some_iff.mp hd).1
      have ex : xs[i] = x := (List.getElem?_eq_some_iff.mp hx).2
      have ed : ds[i] = d := (List.getElem?_eq_some_iff.mp hd).2
      rw [List.drop_eq_getElem_cons hi, List.drop_eq_getElem_cons hi2, ex, ed] at hno
      have hno : (if x ≠ .non ∧ n ≤ cntD ds d then x else pickA ds n (xs.drop (i + 1)) (ds.drop (i + 1))) = pickA ds n xs ds := hno
      by_cases z : x = .non
      · rw [if_neg (fun y => y.1 z)] at hno
        refine ⟨_, rfl, rfl, false, congrArg V.bl (by rw [decide_eq_true z]; rfl), iteF ?_⟩
        exact ⟨⟨_, rfl⟩, rfl, hno⟩
      · refine ⟨_, rfl, rfl, true, congrArg V.bl (by rw [decide_eq_false z]; rfl), iteT ?_⟩
        refine ⟨_, rfl, .inl ⟨rfl, _, hS⟩, _, rfl, a, xs, x, ds, d, rfl, rfl, hS, hD, hxd, canLayAll_of _ fun e he => (hsh e he).1, (hsh d (List.mem_of_getElem? hd)).1, (hsh d (List.mem_of_getElem? hd)).2, _, rfl, _, _, rfl, rfl, _, rfl, ite2 (fun e => ?_) (fun e => ?_)⟩
        · have e := of_decide_eq_true e
          rw [if_pos ⟨z, by omega⟩] at hno
          refine ⟨_, rfl, ?_⟩
          rw [hno]
          exact q
        · rw [if_neg (fun y => e (decide_eq_true (by omega)))] at hno
          exact ⟨⟨_, rfl⟩, rfl, hno⟩
    · obtain ⟨⟨y, rfl⟩, rfl, hno⟩ := h
      rw [List.drop_length, hl, List.drop_length] at hno
      have hno : V.non = pickA ds n xs ds := hno
      rw [← hno] at q
      exact q
end
/-! ### among slots, numbers -/
theorem eqv_int (a b : Int) : PyData.eqv (.int a) (.int b) = decide (a = b) := rfl
theorem cnt_slot (n : Int) : ∀ l : List (Option Int), cntD (l.map slotD) (.int n) = (l.filterMap id).count n
  | [] => rfl
  | none :: r => by
    have ih := cnt_slot n r
    unfold cntD at ih ⊢
    rw [List.map_cons, List.filter_cons, if_neg (by show ¬ PyData.eqv PyData.none (.int n) = true; exact Bool.false_ne_true), ih]
    rfl
  | some m :: r => by
    have ih := cnt_slot n r
    unfold cntD at ih ⊢
    rw [List.map_cons, List.filter_cons, List.filterMap_cons]
    show (if PyData.eqv (.int m) (.int n) = true then _ else _ : List PyData).length = (m :: r.filterMap id).count n
    rw [eqv_int, List.count_cons]
    by_cases h : m = n
    · rw [decide_eq_true h, if_pos rfl, List.length_cons, ih, if_pos (by simp [h])]
    · rw [decide_eq_false h, if_neg Bool.false_ne_true, ih, if_neg (by simp [h])]
      rfl
theorem pick_slots (all : List (Option Int)) (n : Nat) : ∀ l : List (Option Int), pickA (all.map slotD) n (l.map slotV) (l.map slotD) = slotV ((l.filterMap id).find? fun x => decide (n ≤ (all.filterMap id).count x))
  | [] => rfl
  | none :: r => by
    rw [List.map_cons, List.map_cons]
    have e : pickA (all.map slotD) n (slotV none :: r.map slotV) (slotD none :: r.map slotD) = pickA (all.map slotD) n (r.map slotV) (r.map slotD) := if_neg (fun y => y.1 rfl)
    rw [e, pick_slots all n r]
    rfl
  | some m :: r => by
    rw [List.map_cons, List.map_cons, List.filterMap_cons]
    show (if V.int m ≠ .non ∧ n ≤ cntD (all.map slotD) (.int m) then V.int m else _) = slotV ((m :: r.filterMap id).find? _)
    rw [cnt_slot, List.find?_cons]
    by_cases h : n ≤ (all.filterMap id).count m
    · rw [if_pos ⟨fun z => (by cases z), h⟩, decide_eq_true h]
      rfl
    · rw [if_neg (fun y => h y.2), decide_eq_false h, pick_slots all n r]
theorem pick_slots' (l : List (Option Int)) (n : Nat) : pickA (l.map slotD) n (l.map slotV) (l.map slotD) = slotV (agreed (l.filterMap id) n) := pick_slots l n l
theorem slots_dp {K : PySem.W.Frag} {H : Hp} (l : List (Option Int)) : DpAll K H (l.map slotV) (l.map slotD) := dps_map (fun x => by cases x with
  | none => exact .non
  | some n => exact .int n) l
theorem slots_lay (l : List (Option Int)) : ∀ d ∈ l.map slotD, d.canLay0 = true ∧ d.depth ≤ 8 := fun d hd => by
  obtain ⟨x, _, rfl⟩ := List.mem_map.mp hd
  cases x with
  | none => exact ⟨rfl, Nat.zero_le _⟩
  | some n => exact ⟨rfl, Nat.zero_le _⟩
theorem fm_some (ns : List Int) : (ns.map some).filterMap id = ns := by
  rw [List.filterMap_map]
  exact List.filterMap_some
theorem map_some (ns : List Int) : (ns.map some).map slotV = ns.map V.int := by
  rw [List.map_map]
  rfl
/-! ### among states -/
def stL (s : List Int × List Int) : PyData := .tuple [.list (s.1.map .int), .list (s.2.map .int)]
theorem stL_lay (s : List Int × List Int) : (stL s).canLay0 = true ∧ (stL s).depth ≤ 8 := by
  obtain ⟨h1, h2⟩ := lays_map PyData.int 0 (fun x => ⟨rfl, Nat.le_refl _⟩) s.1
  obtain ⟨h3, h4⟩ := lays_map PyData.int 0 (fun x => ⟨rfl, Nat.le_refl _⟩) s.2
  constructor
  · show (PyData.canLayAll0 (s.1.map .int) && (PyData.canLayAll0 (s.2.map .int) && true)) = true
    rw [h1, h3]
    rfl
  · show max (PyData.depthAll (s.1.map .int) + 1) (max (PyData.depthAll (s.2.map .int) + 1) 0) + 1 ≤ 8
    omega
theorem cnt_gen0 {α : Type} [DecidableEq α] (f : α → PyData) (hf : ∀ a b, PyData.eqv (f a) (f b) = decide (a = b)) (s : α) : ∀ l : List α, cntD (l.map f) (f s) = l.count s
  | [] => rfl
  | x :: r => by
    have ih := cnt_gen0 f hf s r
    unfold cntD at ih ⊢
    rw [List.map_cons, List.filter_cons, List.count_cons, hf]
    by_cases h : x = s
    · rw [decide_eq_true h, if_pos rfl, List.length_cons, ih, if_pos (by simp [h])]
    · rw [decide_eq_false h, if_neg Bool.false_ne_true, ih, if_neg (by simp [h])]
      rfl
theorem eqv_intsB : ∀ as bs : List Int, PyData.eqvAll (as.map .int) (bs.map .int) = decide (as = bs)
  | [], [] => by simp [PyData.eqvAll]
  | [], _ :: _ => by simp [PyData.eqvAll]
  | _ :: _, [] => by simp [PyData.eqvAll]
  | a :: r, b :: u => by
    rw [List.map_cons, List.map_cons, PyData.eqvAll, eqv_intsB r u]
    rw [show PyData.eqv (.int a) (.int b) = decide (a = b) from rfl]
    simp
theorem eqv_stL (a b : List Int × List Int) : PyData.eqv (stL a) (stL b) = decide (a = b) := by
  obtain ⟨a1, a2⟩ := a
  obtain ⟨b1, b2⟩ := b
  show (PyData.eqvAll [.list (a1.map .int), .list (a2.map .int)] [.list (b1.map .int), .list (b2.map .int)]) = _
  rw [PyData.eqvAll, PyData.eqvAll, PyData.eqvAll]
  rw [show PyData.eqv (.list (a1.map .int)) (.list (b1.map .int)) = PyData.eqvAll (a1.map .int) (b1.map .int) from rfl, show PyData.eqv (.list (a2.map .int)) (.list (b2.map .int)) = PyData.eqvAll (a2.map .int) (b2.map .int) from rfl, eqv_intsB, eqv_intsB]
  simp
theorem pick_gen {α : Type} [DecidableEq α] (f : α → PyData) (hf : ∀ a b, PyData.eqv (f a) (f b) = decide (a = b)) (all : List α) (n : Nat) : ∀ (xs : List V) (l : List α), xs.length = l.length → (∀ x ∈ xs, x ≠ .non) →
    (l.find? (fun x => decide (n ≤ all.count x)) = none ∧ pickA (all.map f) n xs (l.map f) = .non) ∨ ∃ (i : Nat) (v : V) (s : α), xs[i]? = some v ∧ l[i]? = some s ∧ l.find? (fun x => decide (n ≤ all.count x)) = some s ∧ pickA (all.map f) n xs (l.map f) = v
  | [], [], _, _ => .inl ⟨rfl, rfl⟩
  | [], _ :: _, h, _ => by cases h
  | _ :: _, [], h, _ => by cases h
  | x :: xs, s :: l, h, hn => by
    have ih := pick_gen f hf all n xs l (by simpa using h) fun y hy => hn y (List.mem_cons_of_mem _ hy)
    rw [List.map_cons, List.find?_cons]
    have e : pickA (all.map f) n (x :: xs) (f s :: l.map f) = if x ≠ .non ∧ n ≤ cntD (all.map f) (f s) then x else pickA (all.map f) n xs (l.map f) := rfl
    rw [e, cnt_gen0 f hf s all]
    by_cases z : n ≤ all.count s
    · rw [if_pos ⟨hn x List.mem_cons_self, z⟩, decide_eq_true z]
      exact .inr ⟨0, x, s, rfl, rfl, rfl, rfl⟩
    · rw [if_neg (fun y => z y.2), decide_eq_false z]
      rcases ih with ⟨a, b⟩ | ⟨i, v, t, a, b, c, d⟩
      · exact .inl ⟨a, b⟩
      · exact .inr ⟨i + 1, v, t, a, b, c, d⟩
/-! ### the address that is agreed on -/
def fet (D : WD) : Option Int := match agreed D.heads (D.votes.getD (D.votes.length - 1) 0) with
  | some p => if p < D.tape.length then some p else none
  | none => none
def spFetched (K : PySem.W.Frag) (CW : Addr) : Sp := fun vs H Q _ => ∃ (x : Addr) (v : WV) (D : WD), vs = [.ref x] ∧ WL K CW H x v D ∧ 1 ≤ D.votes.length ∧ Q (slotV (fet D)) H
section
variable {P : Program} {w : World} {K : PySem.W.Frag} {mg : Str → Option Value} {base : Heap}
theorem scFetched : FnScope ["works", "at"] ["works"] (defScope sFetched) := ⟨rfl, rfl, rfl, by decide +kernel, rfl, by decide +kernel, by decide +kernel⟩
theorem ok_fetched {f C f0 : Addr} {fd : FuncData} (F : Fun K "fetched" "fetched" sFetched f fd) (Z : WC K mg C f0) (T : Bt mg) (D1 : Df P w K mg base 1 "agreed_of" ["values", "need"] (spAgrOf K)) : FnOk P w K mg base CX0 2 f fd ["works"] (spFetched K C) := by
  obtain ⟨f1, fd1, Gagreed_of, gagreed_of, kagreed_of, bagreed_of⟩ := D1
  refine F.ok scFetched (fun vs H Q E h => ?_) (fun cdv A outer s H vs Q E hr h => ?_)
  · obtain ⟨x, v, D, rfl, _⟩ := h
    rfl
  · have nd := scFetched.nd
    obtain ⟨x, v, D, rfl, L, hv, q⟩ := h
    refine ⟨_, pss_cons (ps_set (i := 1) nd rfl (.inl rfl) (pe_call Gagreed_of hr rfl gagreed_of kagreed_of bagreed_of .nil pass0 (pa_cons (pe_fld (pv 0) rfl) (pa_cons (pe_ix ix_tup (pe_fld (pv 0) rfl) (pe_un un_neg pe_int) (fun _ _ => rfl)) pa_nil))))
      (pss_cons (ps_if (PW.pt (pw_or (pt_cmpR op_isN (pv 1) pe_non (nomark _)) (pw_or1 (pt_cmpR op_ge (pv 1) (pe_callB call_len_seq (by rfl) T.len PySem.boot_len (pa_cons (pe_fld (pv 0) rfl) pa_nil)) (nomark _)))))
      (pss_one (ps_ret pe_non))
      pss_nil)
      (pss_one (ps_ret (pv 1)))), ?_⟩
    obtain ⟨ts, t1, t2⟩ := L.p.tape
    have hlt : ts.length = D.tape.length := by
      have := dps_len t2
      rw [List.length_map] at this
      exact this
    have hlv : (D.votes.map fun n : Nat => V.int (n : Int)).length = D.votes.length := List.length_map _
    have hat : atI (D.votes.map fun n : Nat => V.int (n : Int)) (-1) = some (.int ((D.votes.getD (D.votes.length - 1) 0 : Nat) : Int)) := by
      unfold atI
      have e : ixN (D.votes.map fun n : Nat => V.int (n : Int)).length (-1) = some (D.votes.length - 1) := by
        unfold ixN
        rw [hlv, if_neg (by omega), if_pos (by omega)]
        congr 1
        omega
      rw [e]
      show (D.votes.map fun n : Nat => V.int (n : Int))[D.votes.length - 1]? = _
      rw [List.getElem?_map, List.getD_eq_getElem?_getD, List.getElem?_eq_getElem (by omega)]
      rfl
    refine ⟨_, rfl, x, C, v.dw, _, _, rfl, L.ins, Z.cls, Z.n_heads, wl_heads v D, _, rfl, x, C, v.dw, _, _, rfl, L.ins, Z.cls, Z.n_votes, wl_votes v D, ?_⟩
    refine ⟨_, rfl, v.vt, _, -1, _, rfl, rfl, L.p.votes, hat, v.hd, (D.heads.map some).map slotV, (D.heads.map some).map slotD, D.votes.getD (D.votes.length - 1) 0, rfl, by rw [map_some]; exact SqL.of L.p.heads, slots_dp _, slots_lay _, ?_⟩
    rw [pick_slots', fm_some]
    have qf : fet D = match agreed D.heads (D.votes.getD (D.votes.length - 1) 0) with
      | some p => if p < D.tape.length then some p else none
      | none => none := rfl
    revert q
    rw [qf]
    cases hag : agreed D.heads (D.votes.getD (D.votes.length - 1) 0) with
    | none =>
      intro q
      refine ⟨_, rfl, rfl, _, rfl, iteT ?_⟩
      exact q
    | some p =>
      intro q
      refine ⟨_, rfl, rfl, false, rfl, iteF ?_⟩
      refine ⟨_, rfl, _, rfl, x, C, v.dw, _, _, rfl, L.ins, Z.cls, Z.n_tape, wl_tape v D, v.tp, _, rfl, .inr t1, _, _, rfl, rfl, ?_⟩
      rw [hlt]
      by_cases hp : p < (D.tape.length : Int)
      · refine ⟨false, congrArg V.bl (decide_eq_false (by omega)), iteF ?_⟩
        dsimp only at q
        rw [if_pos hp] at q
        exact ⟨_, rfl, q⟩
      · refine ⟨true, congrArg V.bl (decide_eq_true (by omega)), iteT ?_⟩
        dsimp only at q
        rw [if_neg hp] at q
        exact q
/-! ### is a cell a settle -/
def spIsSettle (K : PySem.W.Frag) : Sp := fun vs H Q _ => ∃ (a : Addr) (y : V) (xs : List V), vs = [.ref a] ∧ SqT K H a (y :: xs) ∧ ((∃ s, y = .str s ∧ Q (.bl true) H) ∨ ∃ n, y = .int n ∧ Q (.bl false) H)
theorem scIsSettle : FnScope ["cell"] ["cell"] (defScope sIsSettle) := ⟨rfl, rfl, rfl, by decide +kernel, rfl, by decide +kernel, by decide +kernel⟩
theorem ok_isSettle {f : Addr} {fd : FuncData} (F : Fun K "is_settle_cell" "is_settle_cell" sIsSettle f fd) (T : Bt mg) : FnOk P w K mg base CX0 1 f fd ["cell"] (spIsSettle K) := by
  refine F.ok scIsSettle (fun vs H Q E h => ?_) (fun cdv A outer s H vs Q E hr h => ?_)
  · obtain ⟨a, y, xs, rfl, _⟩ := h
    rfl
  · have nd := scIsSettle.nd
    obtain ⟨a, y, xs, rfl, hS, q⟩ := h
    refine ⟨_, pss_one (ps_ret (pe_callB call_isi (by rfl) T.isinstance (by decide +kernel) (pa_cons (pe_ix ix_tup (pv 0) pe_int (fun _ _ => rfl)) (pa_cons (pe_bltn (v := .ty "str") (u := .type "str") (by rfl) T.str (by decide +kernel) rfl) pa_nil)))), ?_⟩
    rcases q with ⟨s, rfl, q⟩ | ⟨n, rfl, q⟩
    · exact ⟨_, rfl, a, _, 0, _, rfl, rfl, hS, at_of (j := 0) rfl rfl, .str s, _, _, _, true, rfl, .ty _, .base (.str _), kit_ty (by decide +kernel), q⟩
    · exact ⟨_, rfl, a, _, 0, _, rfl, rfl, hS, at_of (j := 0) rfl rfl, .int n, _, _, _, false, rfl, .ty _, .base (.int _), kit_ty (by decide +kernel), q⟩
end
end Hue
namespace Hue
open L2 PySem.Spec PySem PyProof.Rows
/-! ### a range that is held -/
def rRange1 : List V → Hp → VK → Prop := fun vs H Q => ∃ j : Int, vs = [V.int j] ∧ ∀ p, H p = none → Q (.ref p) (upd H p (.rng 0 j))
theorem cr_range1 {X : Cx} : CallR X (.type "range") rRange1 := by
  intro pins s σ H vs us Q I r h
  obtain ⟨j, rfl, q⟩ := h
  obtain ⟨u, rfl, ru⟩ := r.one
  obtain ⟨t, rfl⟩ := ru
  refine call_range_1 ⟨.ref s.heap.objs.size, upd H s.heap.objs.size (.rng 0 j), I.laid (t' := s.toks + 1 + 1) (fun b o e => Heap.get?_push_of_some _ e) (Nat.le_refl _) ?_, rfl, q _ (I.hok.fresh (Nat.le_refl _))⟩
  exact ⟨_, _, _, Heap.get?_push_size _ rfl⟩
def iRngH (tl : TE) : TI := fun σ H R => tl σ H fun v H1 => ∃ (a : Addr) (n : Nat), v = .ref a ∧ H1 a = some (.rng 0 (n : Int)) ∧ n < 1000 ∧ R (Itr 0 n) H1
theorem pi_rng {X : Cx} {tg : Expr} {l : Expr} {tl : TE} (hl : PE X l tl) : PI X tg l (iRngH tl) := by
  refine ⟨fun pins s σ H R I h => ?_⟩
  refine thn (hl.run pins s σ H _ I h) fun v s1 ⟨x, H1, I1, r1, q1⟩ => ?_
  obtain ⟨a, n, e, ha, hn, q⟩ := q1
  subst e
  cases r1
  obtain ⟨t1, t2, t3, ho⟩ := I1.hok a _ ha
  refine wpAny_pyIter_range (show IsRange s1.heap a 0 (n : Int) 1 t1 t2 t3 from ho) (small_one (by omega) (by omega) (by omega) (by omega)) ?_
  refine ⟨s1.heap.objs.size, [s1.heap.objs.size], _, _, H1, rfl, I1.kept (t' := s1.toks) fun b o e => Heap.get?_push_of_some _ e, turn_range _ 0 n, ?_, fun b hb => ?_, q⟩
  · have e2 : ((n : Nat) : Int) - ((0 : Nat) : Int) = Builtin.Range.rangeSize 0 (n : Int) 1 := by
      rw [rangeSize_one]
      split <;> omega
    show IsRangeIter _ _ (0 + ((0 : Nat) : Int) * 1) (((n : Nat) : Int) - ((0 : Nat) : Int)) 1
    rw [e2]
    exact Heap.get?_push_size _ rfl
  · have e : b = s1.heap.objs.size := by simpa using hb
    subst e
    exact I1.fpOk (Nat.le_refl _) (I1.hok.fresh (Nat.le_refl _))
end Hue
namespace Hue
open L2 PySem.Spec PySem PyProof.Rows
theorem Chg.trans {F F1 F2 : Addr → Prop} {H H1 H2 : Hp} (a : Chg F H H1 F1) (b : Chg F1 H1 H2 F2) : Chg F H H2 F2 := by
  have back : ∀ x, H1 x = none → F x ∨ H x = none := fun x y => by
    cases e : H x with
    | none => exact .inr rfl
    | some o =>
      obtain ⟨u, hu⟩ := a.live x o e
      rw [hu] at y
      cases y
  refine ⟨fun x o h2 h => ?_, a.tk.trans b.tk, fun x h => ?_, fun x o h => ?_⟩
  · refine b.keep x o (fun z => ?_) (a.keep x o h2 h)
    rcases a.sub x z with y | y
    · exact h2 y
    · rw [h] at y
      cases y
  · rcases b.sub x h with y | y
    · exact a.sub x y
    · exact back x y
  · obtain ⟨u, hu⟩ := a.live x o h
    exact b.live x u hu
theorem Chg.same {F : Addr → Prop} {H H1 : Hp} (e : Same H H1) : Chg F H H1 F := ⟨fun b o _ h => e b o h, Tk.same e, fun _ h => .inl h, fun b o h => ⟨o, e b o h⟩⟩
/-- an object of its own is another one -/
theorem Chg.one {F : Addr → Prop} {H : Hp} {p : Addr} {o : HO} (h : F p) (t : Tk H (upd H p o)) : Chg F H (upd H p o) F := ⟨fun b u n e => by
    rw [upd_ne fun z => n (by rw [z]; exact h)]
    exact e, t, fun _ h => .inl h, fun b u e => by
    by_cases z : b = p
    · exact ⟨o, by rw [z]; exact upd_same⟩
    · exact ⟨u, by rw [upd_ne z]; exact e⟩⟩
theorem WV.F_w {v : WV} {w : Addr} : v.F w w := .inl rfl
theorem WV.F_l {v : WV} {w b : Addr} (h : b ∈ v.list) : v.F w b := .inr (.inr h)
theorem nd_swap {A B : List Addr} {a q : Addr} (h : (A ++ a :: B).Nodup) (n : q ∉ A ++ a :: B) : (A ++ q :: B).Nodup := by
  simp only [List.nodup_append, List.nodup_cons, List.mem_append, List.mem_cons, not_or] at h n ⊢
  obtain ⟨h1, ⟨h2, h3⟩, h4⟩ := h
  obtain ⟨n1, n2, n3⟩ := n
  refine ⟨h1, ⟨n3, h3⟩, fun x hx y hy => ?_⟩
  rcases hy with rfl | hy
  · exact fun z => n1 (by rw [← z]; exact hx)
  · exact h4 x hx y (.inr hy)
section
variable {K : PySem.W.Frag} {CW : Addr} {H H1 : Hp} {w : Addr} {v v' : WV} {D D' : WD}
theorem WL.new (L : WL K CW H w v D) {q : Addr} (hq : H q = none) : q ∉ v.list := fun z => by
  obtain ⟨xs, hx⟩ := L.lst z
  rw [hx] at hq
  cases hq
/-- attributes change, also to new lists -/
theorem WL.putNew (L : WL K CW H w v D) (k : Same H H1) (p : WP K H1 v' D') (ed : v'.dw = v.dw) (nd : v'.list.Nodup) (sub : ∀ b ∈ v'.list, b ∈ v.list ∨ H b = none) :
    WL K CW (upd H1 w (.ins CW v.dw (wfs v' D'))) w v' D' ∧ Chg (v.F w) H (upd H1 w (.ins CW v.dw (wfs v' D'))) (v'.F w) := by
  have L1 := L.same k
  refine ⟨L1.put p ed nd, ?_⟩
  have t : Tk H1 (upd H1 w (.ins CW v.dw (wfs v' D'))) := L1.tk_w _
  refine ⟨fun b o nb eb => ?_, (Tk.same k).trans t, fun b hb => ?_, fun b o eb => ?_⟩
  · rw [upd_ne fun z => nb (by rw [z]; exact WV.F_w)]
    exact k _ _ eb
  · rcases hb with rfl | rfl | hb
    · exact .inl WV.F_w
    · exact .inl (.inr (.inl ed))
    · rcases sub b hb with h | h
      · exact .inl (WV.F_l h)
      · exact .inr h
  · by_cases z : b = w
    · exact ⟨_, by rw [z]; exact upd_same⟩
    · exact ⟨o, by rw [upd_ne z]; exact k _ _ eb⟩
/-- new pointers -/
theorem WL.newHd (L : WL K CW H w v D) {q : Addr} {ps : List Int} (hq : H q = none) (h1 : H1 q = some (.lst (ps.map V.int))) (k : Same H H1) :
    WL K CW (upd H1 w (.ins CW v.dw (wfs { v with hd := q } { D with heads := ps }))) w { v with hd := q } { D with heads := ps } ∧ Chg (v.F w) H (upd H1 w (.ins CW v.dw (wfs { v with hd := q } { D with heads := ps }))) (({ v with hd := q } : WV).F w) := by
  have p := L.p.same k
  refine L.putNew k ⟨p.votes, p.tape, p.first, p.nums, p.banks, h1, p.slots, p.given, p.planned, p.shown, p.regs, p.bank⟩ rfl ?_ fun b hb => ?_
  · exact nd_swap (A := [v.nu, v.bk]) (B := v.sl :: v.gv :: v.pl :: v.sh :: (v.rs ++ v.bs)) L.nd (L.new hq)
  · simp only [WV.list, List.mem_cons, List.mem_append] at hb ⊢
    rcases hb with h | h | h | h | h | h | h | h | h <;> simp [h, hq]
/-- new slots -/
theorem WL.newSl (L : WL K CW H w v D) {q : Addr} {ps : List (Option Int)} (hq : H q = none) (h1 : H1 q = some (.lst (ps.map slotV))) (k : Same H H1) :
    WL K CW (upd H1 w (.ins CW v.dw (wfs { v with sl := q } { D with slots := ps }))) w { v with sl := q } { D with slots := ps } ∧ Chg (v.F w) H (upd H1 w (.ins CW v.dw (wfs { v with sl := q } { D with slots := ps }))) (({ v with sl := q } : WV).F w) := by
  have p := L.p.same k
  refine L.putNew k ⟨p.votes, p.tape, p.first, p.nums, p.banks, p.heads, h1, p.given, p.planned, p.shown, p.regs, p.bank⟩ rfl ?_ fun b hb => ?_
  · exact nd_swap (A := [v.nu, v.bk, v.hd]) (B := v.gv :: v.pl :: v.sh :: (v.rs ++ v.bs)) L.nd (L.new hq)
  · simp only [WV.list, List.mem_cons, List.mem_append] at hb ⊢
    rcases hb with h | h | h | h | h | h | h | h | h <;> simp [h, hq]
/-- another tape: a tuple that stands already -/
theorem WL.newTp (L : WL K CW H w v D) {q : Addr} {ys : List V} {zs : List Cel} (h1 : SqT K H1 q ys) (h2 : DpAll K H1 ys (zs.map celD)) (k : Same H H1) :
    WL K CW (upd H1 w (.ins CW v.dw (wfs { v with tp := q } { D with tape := zs }))) w { v with tp := q } { D with tape := zs } ∧ Chg (v.F w) H (upd H1 w (.ins CW v.dw (wfs { v with tp := q } { D with tape := zs }))) (({ v with tp := q } : WV).F w) := by
  have p := L.p.same k
  exact L.putNew k ⟨p.votes, ⟨ys, h1, h2⟩, p.first, p.nums, p.banks, p.heads, p.slots, p.given, p.planned, p.shown, p.regs, p.bank⟩ rfl L.nd fun b hb => .inl hb
/-- new registers -/
theorem WL.newNu (L : WL K CW H w v D) {q : Addr} {as : List Addr} {rs : List (List Int)} (hq : H q = none) (h1 : H1 q = some (.lst (as.map V.ref))) (n1 : as.Nodup) (n2 : ∀ a ∈ as, H a = none ∧ a ≠ q) (h2 : Each H1 as rs) (k : Same H H1) :
    WL K CW (upd H1 w (.ins CW v.dw (wfs { v with nu := q, rs := as } { D with regs := rs }))) w { v with nu := q, rs := as } { D with regs := rs } ∧ Chg (v.F w) H (upd H1 w (.ins CW v.dw (wfs { v with nu := q, rs := as } { D with regs := rs }))) (({ v with nu := q, rs := as } : WV).F w) := by
  have p := L.p.same k
  refine L.putNew k ⟨p.votes, p.tape, p.first, h1, p.banks, p.heads, p.slots, p.given, p.planned, p.shown, h2, p.bank⟩ rfl ?_ fun b hb => ?_
  · have z := L.nd
    have nq := L.new hq
    have nn : ∀ a ∈ as, a ∉ v.list := fun a ha => L.new (n2 a ha).1
    have y : (q :: v.bk :: v.hd :: v.sl :: v.gv :: v.pl :: v.sh :: v.bs).Nodup ∧ ∀ b ∈ (v.bk :: v.hd :: v.sl :: v.gv :: v.pl :: v.sh :: v.bs), b ∈ v.list := by
      have e : (v.nu :: v.bk :: v.hd :: v.sl :: v.gv :: v.pl :: v.sh :: v.bs).Sublist v.list := by
        unfold WV.list
        exact (((((((List.sublist_append_right v.rs v.bs).cons_cons _).cons_cons _).cons_cons _).cons_cons _).cons_cons _).cons_cons _).cons_cons _
      refine ⟨nd_swap (A := []) (B := v.bk :: v.hd :: v.sl :: v.gv :: v.pl :: v.sh :: v.bs) (z.sublist e) fun h => nq (e.subset h), fun b hb => e.subset ?_⟩
      simp only [List.mem_cons] at hb ⊢
      rcases hb with h | h | h | h | h | h | h <;> simp [h]
    have pm : (q :: v.bk :: v.hd :: v.sl :: v.gv :: v.pl :: v.sh :: (as ++ v.bs)).Perm (as ++ (q :: v.bk :: v.hd :: v.sl :: v.gv :: v.pl :: v.sh :: v.bs)) := by
      exact (List.perm_append_comm_assoc (l₁ := [q, v.bk, v.hd, v.sl, v.gv, v.pl, v.sh]) (l₂ := as) (l₃ := v.bs))
    refine pm.nodup_iff.mpr (List.nodup_append.mpr ⟨n1, y.1, fun a ha b hb e => ?_⟩)
    subst e
    have hb' : a = q ∨ a ∈ (v.bk :: v.hd :: v.sl :: v.gv :: v.pl :: v.sh :: v.bs) := by
      simp only [List.mem_cons] at hb ⊢
      rcases hb with h | h | h | h | h | h | h | h <;> simp [h]
    rcases hb' with h | h
    · exact (n2 a ha).2 h
    · exact nn a ha (y.2 a h)
  · simp only [WV.list, List.mem_cons, List.mem_append] at hb ⊢
    rcases hb with h | h | h | h | h | h | h | h | h
    all_goals first | (simp [h, hq]; done) | exact .inr (n2 b h).1
/-- new bank cells -/
theorem WL.newBk (L : WL K CW H w v D) {q : Addr} {as : List Addr} {rs : List (List Int)} (hq : H q = none) (h1 : H1 q = some (.lst (as.map V.ref))) (n1 : as.Nodup) (n2 : ∀ a ∈ as, H a = none ∧ a ≠ q) (h2 : Each H1 as rs) (k : Same H H1) :
    WL K CW (upd H1 w (.ins CW v.dw (wfs { v with bk := q, bs := as } { D with banks := rs }))) w { v with bk := q, bs := as } { D with banks := rs } ∧ Chg (v.F w) H (upd H1 w (.ins CW v.dw (wfs { v with bk := q, bs := as } { D with banks := rs }))) (({ v with bk := q, bs := as } : WV).F w) := by
  have p := L.p.same k
  refine L.putNew k ⟨p.votes, p.tape, p.first, p.nums, h1, p.heads, p.slots, p.given, p.planned, p.shown, p.regs, h2⟩ rfl ?_ fun b hb => ?_
  · have z := L.nd
    have nq := L.new hq
    have nn : ∀ a ∈ as, a ∉ v.list := fun a ha => L.new (n2 a ha).1
    have y : (v.nu :: q :: v.hd :: v.sl :: v.gv :: v.pl :: v.sh :: v.rs).Nodup ∧ ∀ b ∈ (v.nu :: v.hd :: v.sl :: v.gv :: v.pl :: v.sh :: v.rs), b ∈ v.list := by
      have e : (v.nu :: v.bk :: v.hd :: v.sl :: v.gv :: v.pl :: v.sh :: v.rs).Sublist v.list := by
        unfold WV.list
        exact (((((((List.sublist_append_left v.rs v.bs).cons_cons _).cons_cons _).cons_cons _).cons_cons _).cons_cons _).cons_cons _).cons_cons _
      refine ⟨nd_swap (A := [v.nu]) (B := v.hd :: v.sl :: v.gv :: v.pl :: v.sh :: v.rs) (z.sublist e) fun h => nq (e.subset h), fun b hb => e.subset ?_⟩
      simp only [List.mem_cons] at hb ⊢
      rcases hb with h | h | h | h | h | h | h <;> simp [h]
    have pm : (v.nu :: q :: v.hd :: v.sl :: v.gv :: v.pl :: v.sh :: (v.rs ++ as)).Perm (as ++ (v.nu :: q :: v.hd :: v.sl :: v.gv :: v.pl :: v.sh :: v.rs)) := by
      exact (List.perm_append_comm (l₁ := v.nu :: q :: v.hd :: v.sl :: v.gv :: v.pl :: v.sh :: v.rs) (l₂ := as))
    refine pm.nodup_iff.mpr (List.nodup_append.mpr ⟨n1, y.1, fun a ha b hb e => ?_⟩)
    subst e
    have hb' : a = q ∨ a ∈ (v.nu :: v.hd :: v.sl :: v.gv :: v.pl :: v.sh :: v.rs) := by
      simp only [List.mem_cons] at hb ⊢
      rcases hb with h | h | h | h | h | h | h | h <;> simp [h]
    rcases hb' with h | h
    · exact (n2 a ha).2 h
    · exact nn a ha (y.2 a h)
  · simp only [WV.list, List.mem_cons, List.mem_append] at hb ⊢
    rcases hb with h | h | h | h | h | h | h | h | h
    all_goals first | (simp [h, hq]; done) | exact .inr (n2 b h).1
end
def spDoOffer (K : PySem.W.Frag) (CW : Addr) : Sp := fun vs H Q _ => ∃ (x a : Addr) (v : WV) (D : WD) (i b : Nat) (r : List Int) (n : Int), vs = [.ref x, .int i, .ref a] ∧ WL K CW H x v D ∧ SqT K H a [.int i, .str "offer", .int b] ∧ D.regs[i]? = some r ∧ r[b]? = some n ∧ i < D.slots.length ∧
  ∀ H', WL K CW H' x v { D with slots := D.slots.set i (some n) } → Chg (v.F x) H H' (v.F x) → Q .non H'
section
variable {P : Program} {w : World} {K : PySem.W.Frag} {mg : Str → Option Value} {base : Heap}
theorem scDoOffer : FnScope ["works", "hue", "cell"] ["works", "hue", "cell"] (defScope sDoOffer) := ⟨rfl, rfl, rfl, by decide +kernel, rfl, by decide +kernel, by decide +kernel⟩
theorem WL.reg_at {CW : Addr} {H : Hp} {x : Addr} {v : WV} {D : WD} (L : WL K CW H x v D) {i : Nat} {r : List Int} (h : D.regs[i]? = some r) : ∃ a, v.rs[i]? = some a ∧ H a = some (.lst (r.map V.int)) := by
  have hl : i < v.rs.length := by
    rw [L.p.regs.1]
    exact (List.getElem?_eq_some_iff.mp h).1
  exact ⟨v.rs[i], List.getElem?_eq_getElem hl, L.p.regs.2 i _ r (List.getElem?_eq_getElem hl) h⟩
theorem atM {α : Type} {f : α → V} {xs : List α} {i : Nat} {y : α} (h : xs[i]? = some y) : atI (xs.map f) (i : Int) = some (f y) := atI_nat (by rw [List.getElem?_map, h]; rfl)
theorem ixN_in {n i : Nat} (h : i < n) : ixN n (i : Int) = some i := by
  unfold ixN
  rw [if_pos (by omega), if_pos (by omega), Int.toNat_natCast]
theorem ok_doOffer {f C f0 : Addr} {fd : FuncData} (F : Fun K "do_offer" "do_offer" sDoOffer f fd) (Z : WC K mg C f0) : FnOk P w K mg base CX0 1 f fd ["works", "hue", "cell"] (spDoOffer K C) := by
  refine F.ok scDoOffer (fun vs H Q E h => ?_) (fun cdv A outer s H vs Q E hr h => ?_)
  · obtain ⟨x, a, v, D, i, b, r, n, rfl, _⟩ := h
    rfl
  · have nd := scDoOffer.nd
    obtain ⟨x, a, v, D, i, b, r, n, rfl, L, hS, hr1, hr2, hi, q⟩ := h
    obtain ⟨ra, hra, hrl⟩ := L.reg_at hr1
    refine ⟨_, pss_one (ps_asg (pe_ix ix_list (pe_ix ix_list (pe_fld (pv 0) rfl) (pv 1) (fun _ _ => rfl)) (pe_ix ix_tup (pv 2) pe_int (fun _ _ => rfl)) (fun _ _ => rfl)) (pg_sub (pe_fld (pv 0) rfl) (pv 1) set_list)), ?_⟩
    refine ⟨_, rfl, x, C, v.dw, _, _, rfl, L.ins, Z.cls, Z.n_numbers, wl_numbers v D, _, rfl, v.nu, _, _, _, rfl, rfl, SqL.of L.p.nums, atM hra, _, rfl, a, _, 2, _, rfl, rfl, hS, at_of (j := 2) rfl rfl, ra, _, _, _, rfl, rfl, SqL.of hrl, atM hr2, ?_⟩
    refine ⟨_, rfl, x, C, v.dw, _, _, rfl, L.ins, Z.cls, Z.n_offers, wl_offers v D, _, rfl, v.sl, _, _, i, rfl, rfl, L.p.slots, ixN_in (by rw [List.length_map]; exact hi), ?_⟩
    have hm : v.sl ∈ v.list := by simp [WV.list]
    exact q _ (L.slot i (some n)) (Chg.one (WV.F_l hm) (L.mut hm).2)
/-! ### stop -/
def spDoStop (K : PySem.W.Frag) (CW : Addr) : Sp := fun vs H Q _ => ∃ (x a : Addr) (v : WV) (D : WD), vs = [.ref x, .ref a] ∧ WL K CW H x v D ∧ D.row.length + 1 ≤ 16000000 ∧
  ∀ H', WL K CW H' x v { D with row := D.row ++ [.stp], st := .stopped } → Chg (v.F x) H H' (v.F x) → Q (.bl true) H'
theorem scDoStop : FnScope ["works", "cell"] ["works", "cell"] (defScope sDoStop) := ⟨rfl, rfl, rfl, by decide +kernel, rfl, by decide +kernel, by decide +kernel⟩
theorem ok_doStop {f C f0 : Addr} {fd : FuncData} (F : Fun K "do_stop" "do_stop" sDoStop f fd) (Z : WC K mg C f0) : FnOk P w K mg base CX0 1 f fd ["works", "cell"] (spDoStop K C) := by
  refine F.ok scDoStop (fun vs H Q E h => ?_) (fun cdv A outer s H vs Q E hr h => ?_)
  · obtain ⟨x, a, v, D, rfl, _⟩ := h
    rfl
  · have nd := scDoStop.nd
    obtain ⟨x, a, v, D, rfl, L, hrow, q⟩ := h
    refine ⟨_, pss_cons (ps_expr (pe_bm PySem.F.plainAttrs_list PySem.F.slot_list_append PySem.F.type_list_append mt_append (pe_fld (pv 0) rfl) (pa_cons (pe_tup (pa_cons pe_str pa_nil)) pa_nil)))
      (pss_cons (ps_fld (pv 0) pe_str rfl)
      (pss_one (ps_ret pe_bl))), ?_⟩
    obtain ⟨xs, x1, x2⟩ := L.p.shown
    refine ⟨_, rfl, x, C, v.dw, _, _, rfl, L.ins, Z.cls, Z.n_shown, wl_shown _ _, ?_⟩
    refine ⟨.inl ⟨rfl, _, .inl (.inl x1)⟩, (show 1 ≤ sizeLine by decide), fun p hp => ?_⟩
    have s2 := same_new (o := .tup [V.str "stop"]) hp
    have L2 := L.same s2
    have hxl : xs.length = D.row.length := by
      have := dps_len x2
      rw [List.length_map] at this
      exact this
    refine ⟨_, _, _, rfl, rfl, s2 _ _ x1, Nat.lt_of_lt_of_le (show xs.length < 16000000 by omega) (by decide), ?_⟩
    have hm : v.sh ∈ v.list := by simp [WV.list]
    have L3 := L2.app (x := .stp) (s2 _ _ x1) (dps_same s2 _ _ x2) (.tup (.inl (.inl upd_same)) (.cons (.str _) .nil))
    have c3 := (Chg.same (F := v.F x) s2).trans (Chg.one (WV.F_l hm) (L2.mut (o := .lst (xs ++ [.ref p])) hm).2)
    refine ⟨_, rfl, x, C, v.dw, _, rfl, L3.ins, Z.cls, Z.n_word, wl_len _ _, ?_⟩
    rw [wp_stopped]
    exact q _ (L3.put (D' := { D with row := D.row ++ [.stp], st := .stopped }) ⟨L3.p.votes, L3.p.tape, L3.p.first, L3.p.nums, L3.p.banks, L3.p.heads, L3.p.slots, L3.p.given, L3.p.planned, L3.p.shown, L3.p.regs, L3.p.bank⟩ rfl L3.nd) (c3.trans (Chg.one WV.F_w (L3.tk_w _)))
/-! ### set -/
def spDoSet (K : PySem.W.Frag) (CW : Addr) : Sp := fun vs H Q _ => ∃ (x a : Addr) (v : WV) (D : WD) (i b : Nat) (r : List Int) (n : Int), vs = [.ref x, .int i, .ref a] ∧ WL K CW H x v D ∧ SqT K H a [.int i, .str "set", .int b, .int n] ∧ D.regs[i]? = some r ∧ b < r.length ∧
  ∀ H', WL K CW H' x v { D with regs := D.regs.set i (r.set b n) } → Chg (v.F x) H H' (v.F x) → Q .non H'
theorem scDoSet : FnScope ["works", "hue", "cell"] ["works", "hue", "cell"] (defScope sDoSet) := ⟨rfl, rfl, rfl, by decide +kernel, rfl, by decide +kernel, by decide +kernel⟩
theorem ok_doSet {f C f0 : Addr} {fd : FuncData} (F : Fun K "do_set" "do_set" sDoSet f fd) (Z : WC K mg C f0) : FnOk P w K mg base CX0 1 f fd ["works", "hue", "cell"] (spDoSet K C) := by
  refine F.ok scDoSet (fun vs H Q E h => ?_) (fun cdv A outer s H vs Q E hr h => ?_)
  · obtain ⟨x, a, v, D, i, b, r, n, rfl, _⟩ := h
    rfl
  · have nd := scDoSet.nd
    obtain ⟨x, a, v, D, i, b, r, n, rfl, L, hS, hr1, hb, q⟩ := h
    obtain ⟨ra, hra, hrl⟩ := L.reg_at hr1
    refine ⟨_, pss_one (ps_asg (pe_ix ix_tup (pv 2) pe_int (fun _ _ => rfl)) (pg_sub (pe_ix ix_list (pe_fld (pv 0) rfl) (pv 1) (fun _ _ => rfl)) (pe_ix ix_tup (pv 2) pe_int (fun _ _ => rfl)) set_list)), ?_⟩
    refine ⟨_, rfl, a, _, 3, _, rfl, rfl, hS, at_of (j := 3) rfl rfl, ?_⟩
    refine ⟨_, rfl, x, C, v.dw, _, _, rfl, L.ins, Z.cls, Z.n_numbers, wl_numbers v D, _, rfl, v.nu, _, _, _, rfl, rfl, SqL.of L.p.nums, atM hra, _, rfl, a, _, 2, _, rfl, rfl, hS, at_of (j := 2) rfl rfl, ra, _, _, b, rfl, rfl, hrl, ixN_in (by rw [List.length_map]; exact hb), ?_⟩
    have hm : ra ∈ v.list := by simp [WV.list, List.mem_of_getElem? hra]
    have z := L.reg (r.set b n) hra
    rw [List.map_set] at z
    exact q _ z (Chg.one (WV.F_l hm) (L.mut hm).2)
end
end Hue
namespace Hue
open L2 PySem.Spec PySem PyProof.Rows
def noSl (D : WD) : WD := { D with slots := List.replicate D.votes.length none }
def ptA (D : WD) (p : Int) : WD := { D with heads := List.replicate D.votes.length p }
def spEmpty (K : PySem.W.Frag) (CW : Addr) : Sp := fun vs H Q _ => ∃ (x : Addr) (v : WV) (D : WD), vs = [.ref x] ∧ WL K CW H x v D ∧ D.votes.length ≤ 5 ∧ ∀ H' v', WL K CW H' x v' (noSl D) → Chg (v.F x) H H' (v'.F x) → Q .non H'
def spPoint (K : PySem.W.Frag) (CW : Addr) : Sp := fun vs H Q _ => ∃ (x : Addr) (v : WV) (D : WD) (p : Nat), vs = [.ref x, .int p] ∧ WL K CW H x v D ∧ D.votes.length ≤ 5 ∧ ∀ H' v', WL K CW H' x v' (ptA D p) → Chg (v.F x) H H' (v'.F x) → Q .non H'
section
variable {P : Program} {w : World} {K : PySem.W.Frag} {mg : Str → Option Value} {base : Heap}
theorem few_rep {n : Nat} (h : n ≤ 5) : -(2 ^ 63) ≤ (n : Int) ∧ (n : Int) < 2 ^ 63 ∧ ∀ y : V, [y].length * ((n : Int)).toNat ≤ sizeLine := by
  have a1 : (-(2 ^ 63) : Int) ≤ 0 := by decide
  have a2 : (5 : Int) < 2 ^ 63 := by decide
  refine ⟨by omega, by omega, fun y => ?_⟩
  rw [Int.toNat_natCast]
  have : (5 : Nat) ≤ sizeLine := by decide
  show 1 * n ≤ sizeLine
  omega
theorem scEmpty : FnScope ["works"] ["works"] (defScope sEmptySlots) := ⟨rfl, rfl, rfl, by decide +kernel, rfl, by decide +kernel, by decide +kernel⟩
theorem ok_empty {f C f0 : Addr} {fd : FuncData} (F : Fun K "empty_slots" "empty_slots" sEmptySlots f fd) (Z : WC K mg C f0) (T : Bt mg) : FnOk P w K mg base CX0 1 f fd ["works"] (spEmpty K C) := by
  refine F.ok scEmpty (fun vs H Q E h => ?_) (fun cdv A outer s H vs Q E hr h => ?_)
  · obtain ⟨x, v, D, rfl, _⟩ := h
    rfl
  · have nd := scEmpty.nd
    obtain ⟨x, v, D, rfl, L, h5, q⟩ := h
    obtain ⟨b1, b2, b3⟩ := few_rep h5
    have hlv : (D.votes.map fun n : Nat => V.int (n : Int)).length = D.votes.length := List.length_map _
    refine ⟨_, pss_one (ps_fld (pv 0) (pe_op op_rep (pe_lst (pa_cons pe_non pa_nil)) (pe_callB call_len_seq (by rfl) T.len PySem.boot_len (pa_cons (pe_fld (pv 0) rfl) pa_nil))) rfl), ?_⟩
    refine ⟨(by show 1 ≤ sizeLine; decide), fun q3 hq3 => ?_⟩
    have s3 := same_new (o := .lst [V.non]) hq3
    have L3 := L.same s3
    refine ⟨_, rfl, x, C, v.dw, _, _, rfl, L3.ins, Z.cls, Z.n_votes, wl_votes v D, v.vt, _, rfl, .inr L3.p.votes, q3, _, [.non], rfl, rfl, upd_same, by rw [hlv]; exact b1, by rw [hlv]; exact b2, by rw [hlv]; exact b3 _, fun q4 hq4 => ?_⟩
    rw [hlv, Int.toNat_natCast, List.flatten_replicate_singleton]
    have s4 := same_new (o := .lst (List.replicate D.votes.length V.non)) hq4
    have s34 := s3.trans s4
    have h4 : (upd (upd H q3 (.lst [V.non])) q4 (.lst (List.replicate D.votes.length V.non))) q4 = some (.lst ((List.replicate D.votes.length (none : Option Int)).map slotV)) := by
      rw [List.map_replicate]
      exact upd_same
    obtain ⟨L5, c5⟩ := L.newSl (s3.free hq4) h4 s34
    have L4 := L.same s34
    refine ⟨_, rfl, x, C, v.dw, _, rfl, L4.ins, Z.cls, Z.n_offers, wl_len v D, ?_⟩
    rw [wp_offers]
    exact q _ _ L5 c5
theorem scPoint : FnScope ["works", "address"] ["works", "address"] (defScope sPointAll) := ⟨rfl, rfl, rfl, by decide +kernel, rfl, by decide +kernel, by decide +kernel⟩
theorem ok_point {f C f0 : Addr} {fd : FuncData} (F : Fun K "point_all" "point_all" sPointAll f fd) (Z : WC K mg C f0) (T : Bt mg) : FnOk P w K mg base CX0 1 f fd ["works", "address"] (spPoint K C) := by
  refine F.ok scPoint (fun vs H Q E h => ?_) (fun cdv A outer s H vs Q E hr h => ?_)
  · obtain ⟨x, v, D, p, rfl, _⟩ := h
    rfl
  · have nd := scPoint.nd
    obtain ⟨x, v, D, p, rfl, L, h5, q⟩ := h
    obtain ⟨b1, b2, b3⟩ := few_rep h5
    have hlv : (D.votes.map fun n : Nat => V.int (n : Int)).length = D.votes.length := List.length_map _
    refine ⟨_, pss_one (ps_fld (pv 0) (pe_op op_rep (pe_lst (pa_cons (pv 1) pa_nil)) (pe_callB call_len_seq (by rfl) T.len PySem.boot_len (pa_cons (pe_fld (pv 0) rfl) pa_nil))) rfl), ?_⟩
    refine ⟨_, rfl, (by show 1 ≤ sizeLine; decide), fun q3 hq3 => ?_⟩
    have s3 := same_new (o := .lst [V.int (p : Int)]) hq3
    have L3 := L.same s3
    refine ⟨_, rfl, x, C, v.dw, _, _, rfl, L3.ins, Z.cls, Z.n_votes, wl_votes v D, v.vt, _, rfl, .inr L3.p.votes, q3, _, [.int (p : Int)], rfl, rfl, upd_same, by rw [hlv]; exact b1, by rw [hlv]; exact b2, by rw [hlv]; exact b3 _, fun q4 hq4 => ?_⟩
    rw [hlv, Int.toNat_natCast, List.flatten_replicate_singleton]
    have s4 := same_new (o := .lst (List.replicate D.votes.length (V.int (p : Int)))) hq4
    have s34 := s3.trans s4
    have h4 : (upd (upd H q3 (.lst [V.int (p : Int)])) q4 (.lst (List.replicate D.votes.length (V.int (p : Int))))) q4 = some (.lst ((List.replicate D.votes.length (p : Int)).map V.int)) := by
      rw [List.map_replicate]
      exact upd_same
    obtain ⟨L5, c5⟩ := L.newHd (s3.free hq4) h4 s34
    have L4 := L.same s34
    refine ⟨_, rfl, x, C, v.dw, _, rfl, L4.ins, Z.cls, Z.n_heads, wl_len v D, ?_⟩
    rw [wp_heads]
    exact q _ _ L5 c5
/-! ### settled -/
def agS (D : WD) (wd : Nat) : Option Int := agreed ((D.slots.take wd).filterMap id) (D.votes.getD (wd - 1) 0)
def setD (D : WD) : Option Int → WD
  | none => D
  | some _ => noSl D
def spSettled (K : PySem.W.Frag) (CW : Addr) : Sp := fun vs H Q _ => ∃ (x : Addr) (v : WV) (D : WD) (wd : Nat), vs = [.ref x, .int wd] ∧ WL K CW H x v D ∧ D.votes.length ≤ 5 ∧ 1 ≤ wd ∧ wd ≤ D.votes.length ∧ D.slots.length = D.votes.length ∧
  ∀ H' v', WL K CW H' x v' (setD D (agS D wd)) → Chg (v.F x) H H' (v'.F x) → Q (slotV (agS D wd)) H'
theorem cut_to0 (xs : List V) (n : Nat) (h : n ≤ xs.length) : cutV xs none (some (n : Int)) = xs.take n := by
  unfold cutV
  rw [HT.sIx_none, HT.sIx_nat xs.length xs.length n, List.drop_zero, Nat.sub_zero, Nat.min_eq_left h]
theorem scSettled : FnScope ["works", "width", "number"] ["works", "width"] (defScope sSettled) := ⟨rfl, rfl, rfl, by decide +kernel, rfl, by decide +kernel, by decide +kernel⟩
theorem ok_settled {f C f0 : Addr} {fd : FuncData} (F : Fun K "settled" "settled" sSettled f fd) (Z : WC K mg C f0) (T : Bt mg) (D1 : Df P w K mg base 1 "agreed_of" ["values", "need"] (spAgrOf K)) (D2 : Df P w K mg base 1 "empty_slots" ["works"] (spEmpty K C)) : FnOk P w K mg base CX0 2 f fd ["works", "width"] (spSettled K C) := by
  obtain ⟨f1, fd1, Gagreed_of, gagreed_of, kagreed_of, bagreed_of⟩ := D1
  obtain ⟨f2, fd2, Gempty_slots, gempty_slots, kempty_slots, bempty_slots⟩ := D2
  refine F.ok scSettled (fun vs H Q E h => ?_) (fun cdv A outer s H vs Q E hr h => ?_)
  · obtain ⟨x, v, D, wd, rfl, _⟩ := h
    rfl
  · have nd := scSettled.nd
    obtain ⟨x, v, D, wd, rfl, L, h5, hw1, hw2, hls, q⟩ := h
    refine ⟨_, pss_cons (ps_set (i := 2) nd rfl (.inl rfl) (pe_call Gagreed_of hr rfl gagreed_of kagreed_of bagreed_of .nil pass0 (pa_cons (pe_slice sl_list (pe_fld (pv 0) rfl) po_none (po_some (pv 1))) (pa_cons (pe_ix ix_tup (pe_fld (pv 0) rfl) (pe_op op_sub (pv 1) pe_int) (fun _ _ => rfl)) pa_nil))))
      (pss_cons (ps_if (pt_cmpR op_notN (pv 2) pe_non (nomark _))
      (pss_one (ps_expr (pe_call Gempty_slots hr rfl gempty_slots kempty_slots bempty_slots .nil pass0 (pa_cons (pv 0) pa_nil))))
      pss_nil)
      (pss_one (ps_ret (pv 2)))), ?_⟩
    have hls' : (D.slots.map slotV).length = D.slots.length := List.length_map _
    refine ⟨_, rfl, x, C, v.dw, _, _, rfl, L.ins, Z.cls, Z.n_offers, wl_offers v D, _, rfl, _, rfl, v.sl, _, rfl, SqL.of L.p.slots, fun l hl => ?_⟩
    rw [cut_to0 _ wd (by rw [hls']; omega), ← List.map_take]
    have s1 := same_new (o := .lst ((D.slots.take wd).map slotV)) hl
    have L1 := L.same s1
    have hat : atI (D.votes.map fun n : Nat => V.int (n : Int)) ((wd : Int) - 1) = some (.int ((D.votes.getD (wd - 1) 0 : Nat) : Int)) := by
      have e : ((wd : Int) - 1) = ((wd - 1 : Nat) : Int) := by omega
      rw [e]
      refine atI_nat ?_
      rw [List.getElem?_map, List.getD_eq_getElem?_getD, List.getElem?_eq_getElem (by omega)]
      rfl
    refine ⟨_, rfl, x, C, v.dw, _, _, rfl, L1.ins, Z.cls, Z.n_votes, wl_votes v D, _, rfl, _, _, rfl, rfl, v.vt, _, _, _, rfl, rfl, L1.p.votes, hat, ?_⟩
    refine ⟨l, (D.slots.take wd).map slotV, (D.slots.take wd).map slotD, _, rfl, SqL.of upd_same, slots_dp _, slots_lay _, ?_⟩
    rw [pick_slots']
    have c1 := Chg.same (F := v.F x) s1
    cases ha : agS D wd with
    | none =>
      have ha' : agreed ((D.slots.take wd).filterMap id) (D.votes.getD (wd - 1) 0) = none := ha
      rw [ha'] 
      rw [ha] at q
      exact ⟨_, rfl, rfl, _, rfl, iteF ⟨_, rfl, q _ _ L1 c1⟩⟩
    | some n =>
      have ha' : agreed ((D.slots.take wd).filterMap id) (D.votes.getD (wd - 1) 0) = some n := ha
      rw [ha'] 
      rw [ha] at q
      refine ⟨_, rfl, rfl, true, rfl, iteT ⟨_, rfl, x, v, D, rfl, L1, h5, fun H' v' L2 c2 => ⟨_, rfl, q _ _ L2 (c1.trans c2)⟩⟩⟩
end
end Hue
namespace Hue
open L2 PySem.Spec PySem PyProof.Rows
def shwD (D : WD) (q wd : Nat) : WD := match agS D wd with
  | none => D
  | some n => { noSl D with row := D.row ++ [.shw q n] }
def trnD (D : WD) (g wd : Nat) : WD := match agS D wd with
  | none => D
  | some n => if n ≠ 0 then ptA (noSl D) g else noSl D
def spDoShow (K : PySem.W.Frag) (CW : Addr) : Sp := fun vs H Q _ => ∃ (x a : Addr) (v : WV) (D : WD) (q wd : Nat), vs = [.ref x, .ref a] ∧ WL K CW H x v D ∧ SqT K H a [.str "show", .int q, .int wd] ∧ D.votes.length ≤ 5 ∧ 1 ≤ wd ∧ wd ≤ D.votes.length ∧ D.slots.length = D.votes.length ∧ D.row.length + 1 ≤ 16000000 ∧
  ∀ H' v', WL K CW H' x v' (shwD D q wd) → Chg (v.F x) H H' (v'.F x) → Q (.bl (agS D wd).isSome) H'
def spDoTurn (K : PySem.W.Frag) (CW : Addr) : Sp := fun vs H Q _ => ∃ (x a : Addr) (v : WV) (D : WD) (g wd : Nat), vs = [.ref x, .ref a] ∧ WL K CW H x v D ∧ SqT K H a [.str "turn", .int g, .int wd] ∧ D.votes.length ≤ 5 ∧ 1 ≤ wd ∧ wd ≤ D.votes.length ∧ D.slots.length = D.votes.length ∧
  ∀ H' v', WL K CW H' x v' (trnD D g wd) → Chg (v.F x) H H' (v'.F x) → Q (.bl (agS D wd).isSome) H'
def spDoGoto (K : PySem.W.Frag) (CW : Addr) : Sp := fun vs H Q _ => ∃ (x a : Addr) (v : WV) (D : WD) (g : Nat), vs = [.ref x, .ref a] ∧ WL K CW H x v D ∧ SqT K H a [.str "goto", .int g] ∧ D.votes.length ≤ 5 ∧
  ∀ H' v', WL K CW H' x v' (ptA D g) → Chg (v.F x) H H' (v'.F x) → Q (.bl true) H'
section
variable {P : Program} {w : World} {K : PySem.W.Frag} {mg : Str → Option Value} {base : Heap}
theorem scDoShow : FnScope ["works", "cell", "number"] ["works", "cell"] (defScope sDoShow) := ⟨rfl, rfl, rfl, by decide +kernel, rfl, by decide +kernel, by decide +kernel⟩
theorem ok_doShow {f C f0 : Addr} {fd : FuncData} (F : Fun K "do_show" "do_show" sDoShow f fd) (Z : WC K mg C f0) (D1 : Df P w K mg base 2 "settled" ["works", "width"] (spSettled K C)) : FnOk P w K mg base CX0 3 f fd ["works", "cell"] (spDoShow K C) := by
  obtain ⟨f1, fd1, Gsettled, gsettled, ksettled, bsettled⟩ := D1
  refine F.ok scDoShow (fun vs H Q E h => ?_) (fun cdv A outer s H vs Q E hr h => ?_)
  · obtain ⟨x, a, v, D, q, wd, rfl, _⟩ := h
    rfl
  · have nd := scDoShow.nd
    obtain ⟨x, a, v, D, q, wd, rfl, L, hS, h5, hw1, hw2, hls, hrow, qq⟩ := h
    refine ⟨_, pss_cons (ps_set (i := 2) nd rfl (.inl rfl) (pe_call Gsettled hr rfl gsettled ksettled bsettled .nil pass0 (pa_cons (pv 0) (pa_cons (pe_ix ix_tup (pv 1) pe_int (fun _ _ => rfl)) pa_nil))))
      (pss_cons (ps_if (pt_cmpR op_isN (pv 2) pe_non (nomark _))
      (pss_one (ps_ret pe_bl))
      pss_nil)
      (pss_cons (ps_expr (pe_bm PySem.F.plainAttrs_list PySem.F.slot_list_append PySem.F.type_list_append mt_append (pe_fld (pv 0) rfl) (pa_cons (pe_tup (pa_cons pe_str (pa_cons (pe_ix ix_tup (pv 1) pe_int (fun _ _ => rfl)) (pa_cons (pv 2) pa_nil)))) pa_nil)))
      (pss_one (ps_ret pe_bl)))), ?_⟩
    refine ⟨_, rfl, _, rfl, a, _, 2, _, rfl, rfl, hS, at_of (j := 2) rfl rfl, x, v, D, wd, rfl, L, h5, hw1, hw2, hls, fun H' v' L1 c1 => ?_⟩
    cases ha : agS D wd with
    | none =>
      rw [ha] at L1 qq
      have e : shwD D q wd = D := by
        unfold shwD
        rw [ha]
      rw [e] at qq
      refine ⟨_, rfl, rfl, _, rfl, iteT ?_⟩
      exact qq _ _ L1 c1
    | some n =>
      rw [ha] at L1 qq
      have e : shwD D q wd = { noSl D with row := D.row ++ [.shw q n] } := by
        unfold shwD
        rw [ha]
      rw [e] at qq
      refine ⟨_, rfl, rfl, false, rfl, iteF ?_⟩
      have hS1 := c1.tk.seq hS
      have L1 : WL K C H' x v' (noSl D) := L1
      obtain ⟨xs, x1, x2⟩ := L1.p.shown
      have hxl : xs.length = D.row.length := by
        have := dps_len x2
        rw [List.length_map] at this
        exact this
      refine ⟨_, rfl, x, C, v'.dw, _, _, rfl, L1.ins, Z.cls, Z.n_shown, wl_shown _ _, ?_⟩
      refine ⟨.inl ⟨rfl, _, .inl (.inl x1)⟩, _, rfl, a, _, 1, _, rfl, rfl, hS1, at_of (j := 1) rfl rfl, _, rfl, (show 3 ≤ sizeLine by decide), fun p hp => ?_⟩
      have s2 := same_new (o := .tup [V.str "show", V.int (q : Int), slotV (some n)]) hp
      have L2 := L1.same s2
      refine ⟨_, _, _, rfl, rfl, s2 _ _ x1, Nat.lt_of_lt_of_le (show xs.length < 16000000 by omega) (by decide), ?_⟩
      have hm : v'.sh ∈ v'.list := by simp [WV.list]
      have L3 := L2.app (x := .shw q n) (s2 _ _ x1) (dps_same s2 _ _ x2) (.tup (.inl (.inl upd_same)) (.cons (.str _) (.cons (.int _) (.cons (.int _) .nil))))
      exact qq _ _ L3 ((c1.trans (Chg.same s2)).trans (Chg.one (WV.F_l hm) (L2.mut (o := .lst (xs ++ [.ref p])) hm).2))
theorem scDoTurn : FnScope ["works", "cell", "number"] ["works", "cell"] (defScope sDoTurn) := ⟨rfl, rfl, rfl, by decide +kernel, rfl, by decide +kernel, by decide +kernel⟩
theorem ok_doTurn {f C f0 : Addr} {fd : FuncData} (F : Fun K "do_turn" "do_turn" sDoTurn f fd) (Z : WC K mg C f0) (D1 : Df P w K mg base 2 "settled" ["works", "width"] (spSettled K C)) (D2 : Df P w K mg base 2 "point_all" ["works", "address"] (spPoint K C)) : FnOk P w K mg base CX0 3 f fd ["works", "cell"] (spDoTurn K C) := by
  obtain ⟨f1, fd1, Gsettled, gsettled, ksettled, bsettled⟩ := D1
  obtain ⟨f2, fd2, Gpoint_all, gpoint_all, kpoint_all, bpoint_all⟩ := D2
  refine F.ok scDoTurn (fun vs H Q E h => ?_) (fun cdv A outer s H vs Q E hr h => ?_)
  · obtain ⟨x, a, v, D, q, wd, rfl, _⟩ := h
    rfl
  · have nd := scDoTurn.nd
    obtain ⟨x, a, v, D, g, wd, rfl, L, hS, h5, hw1, hw2, hls, qq⟩ := h
    refine ⟨_, pss_cons (ps_set (i := 2) nd rfl (.inl rfl) (pe_call Gsettled hr rfl gsettled ksettled bsettled .nil pass0 (pa_cons (pv 0) (pa_cons (pe_ix ix_tup (pv 1) pe_int (fun _ _ => rfl)) pa_nil))))
      (pss_cons (ps_if (pt_cmpR op_isN (pv 2) pe_non (nomark _))
      (pss_one (ps_ret pe_bl))
      pss_nil)
      (pss_cons (ps_if (pt_cmpR op_ne (pv 2) pe_int (nomark _))
      (pss_one (ps_expr (pe_call Gpoint_all hr rfl gpoint_all kpoint_all bpoint_all .nil pass0 (pa_cons (pv 0) (pa_cons (pe_ix ix_tup (pv 1) pe_int (fun _ _ => rfl)) pa_nil)))))
      pss_nil)
      (pss_one (ps_ret pe_bl)))), ?_⟩
    refine ⟨_, rfl, _, rfl, a, _, 2, _, rfl, rfl, hS, at_of (j := 2) rfl rfl, x, v, D, wd, rfl, L, h5, hw1, hw2, hls, fun H' v' L1 c1 => ?_⟩
    cases ha : agS D wd with
    | none =>
      rw [ha] at L1 qq
      have e : trnD D g wd = D := by
        unfold trnD
        rw [ha]
      rw [e] at qq
      refine ⟨_, rfl, rfl, _, rfl, iteT ?_⟩
      exact qq _ _ L1 c1
    | some n =>
      rw [ha] at L1 qq
      have L1 : WL K C H' x v' (noSl D) := L1
      have e : trnD D g wd = if n ≠ 0 then ptA (noSl D) g else noSl D := by
        unfold trnD
        rw [ha]
      rw [e] at qq
      refine ⟨_, rfl, rfl, false, rfl, iteF ?_⟩
      have hS1 := c1.tk.seq hS
      by_cases z : n = 0
      · subst z
        rw [if_neg (fun y => y rfl)] at qq
        refine ⟨_, rfl, rfl, false, rfl, iteF ?_⟩
        exact qq _ _ L1 c1
      · rw [if_pos z] at qq
        refine ⟨_, rfl, rfl, true, congrArg V.bl ?_, iteT ?_⟩
        · show (!decide (V.int n = V.int 0)) = true
          rw [decide_eq_false (fun y => z (by cases y; rfl))]
          rfl
        · refine ⟨_, rfl, _, rfl, a, _, 1, _, rfl, rfl, hS1, at_of (j := 1) rfl rfl, x, v', noSl D, g, rfl, L1, h5, fun H2 v2 L2 c2 => ?_⟩
          exact qq _ _ L2 (c1.trans c2)
theorem scDoGoto : FnScope ["works", "cell"] ["works", "cell"] (defScope sDoGoto) := ⟨rfl, rfl, rfl, by decide +kernel, rfl, by decide +kernel, by decide +kernel⟩
theorem ok_doGoto {f C f0 : Addr} {fd : FuncData} (F : Fun K "do_goto" "do_goto" sDoGoto f fd) (Z : WC K mg C f0) (D2 : Df P w K mg base 2 "point_all" ["works", "address"] (spPoint K C)) : FnOk P w K mg base CX0 3 f fd ["works", "cell"] (spDoGoto K C) := by
  obtain ⟨f2, fd2, Gpoint_all, gpoint_all, kpoint_all, bpoint_all⟩ := D2
  refine F.ok scDoGoto (fun vs H Q E h => ?_) (fun cdv A outer s H vs Q E hr h => ?_)
  · obtain ⟨x, a, v, D, g, rfl, _⟩ := h
    rfl
  · have nd := scDoGoto.nd
    obtain ⟨x, a, v, D, g, rfl, L, hS, h5, qq⟩ := h
    refine ⟨_, pss_cons (ps_expr (pe_call Gpoint_all hr rfl gpoint_all kpoint_all bpoint_all .nil pass0 (pa_cons (pv 0) (pa_cons (pe_ix ix_tup (pv 1) pe_int (fun _ _ => rfl)) pa_nil))))
      (pss_one (ps_ret pe_bl)), ?_⟩
    refine ⟨_, rfl, _, rfl, a, _, 1, _, rfl, rfl, hS, at_of (j := 1) rfl rfl, x, v, D, g, rfl, L, h5, fun H' v' L1 c1 => ?_⟩
    exact qq _ _ L1 c1
end
end Hue
namespace Hue
open L2 PySem.Spec PySem PyProof.Rows
def agM (D : WD) : Option (List Int × List Int) := agreed (D.regs.zip D.banks) (D.votes.getD (D.votes.length - 1) 0)
def mrkW (D : WD) (r b : List Int) : WD := noSl { D with regs := List.replicate D.votes.length r, banks := List.replicate D.votes.length b, tape := D.cells }
def mrkD (D : WD) : WD := match agM D with
  | none => D
  | some s => mrkW D s.1 s.2
def spStateOf (K : PySem.W.Frag) (CW : Addr) : Sp := fun vs H Q _ => ∃ (x : Addr) (v : WV) (D : WD) (i : Nat) (ra ba : Addr), vs = [.ref x, .int i] ∧ WL K CW H x v D ∧ v.rs[i]? = some ra ∧ v.bs[i]? = some ba ∧ ∀ p, H p = none → Q (.ref p) (upd H p (.tup [.ref ra, .ref ba]))
def spDoMark (K : PySem.W.Frag) (CW : Addr) : Sp := fun vs H Q _ => ∃ (x a : Addr) (v : WV) (D : WD), vs = [.ref x, .ref a] ∧ WL K CW H x v D ∧ D.votes.length ≤ 5 ∧ 1 ≤ D.votes.length ∧ D.regs.length = D.votes.length ∧ D.banks.length = D.votes.length ∧
  ∀ H' v', WL K CW H' x v' (mrkD D) → Chg (v.F x) H H' (v'.F x) → Q (.bl (agM D).isSome) H'
section
variable {P : Program} {w : World} {K : PySem.W.Frag} {mg : Str → Option Value} {base : Heap}
theorem dps_of_get {H : Hp} : ∀ {vs : List V} {ds : List PyData}, vs.length = ds.length → (∀ (j : Nat) (y : V) (d : PyData), vs[j]? = some y → ds[j]? = some d → Dp K H y d) → DpAll K H vs ds
  | [], [], _, _ => .nil
  | [], _ :: _, h, _ => by cases h
  | _ :: _, [], h, _ => by cases h
  | _ :: _, _ :: _, h, f => .cons (f 0 _ _ rfl rfl) (dps_of_get (by simpa using h) fun j y d hy hd => f (j + 1) y d hy hd)
theorem scStateOf : FnScope ["works", "hue"] ["works", "hue"] (defScope sStateOf) := ⟨rfl, rfl, rfl, by decide +kernel, rfl, by decide +kernel, by decide +kernel⟩
theorem ok_stateOf {f C f0 : Addr} {fd : FuncData} (F : Fun K "state_of" "state_of" sStateOf f fd) (Z : WC K mg C f0) : FnOk P w K mg base CX0 1 f fd ["works", "hue"] (spStateOf K C) := by
  refine F.ok scStateOf (fun vs H Q E h => ?_) (fun cdv A outer s H vs Q E hr h => ?_)
  · obtain ⟨x, v, D, i, ra, ba, rfl, _⟩ := h
    rfl
  · have nd := scStateOf.nd
    obtain ⟨x, v, D, i, ra, ba, rfl, L, hra, hba, q⟩ := h
    refine ⟨_, pss_one (ps_ret (pe_tup (pa_cons (pe_ix ix_list (pe_fld (pv 0) rfl) (pv 1) (fun _ _ => rfl)) (pa_cons (pe_ix ix_list (pe_fld (pv 0) rfl) (pv 1) (fun _ _ => rfl)) pa_nil)))), ?_⟩
    refine ⟨_, rfl, x, C, v.dw, _, _, rfl, L.ins, Z.cls, Z.n_numbers, wl_numbers v D, _, rfl, v.nu, _, _, _, rfl, rfl, SqL.of L.p.nums, atM hra, _, rfl, x, C, v.dw, _, _, rfl, L.ins, Z.cls, Z.n_banks, wl_banks v D, _, rfl, v.bk, _, _, _, rfl, rfl, SqL.of L.p.banks, atM hba, (show 2 ≤ sizeLine by decide), fun p hp => ?_⟩
    exact q p hp
abbrev NMk : List Str := ["works", "cell", "hues", "state", "numbers", "bank", "_", "hue"]
theorem scDoMark : FnScope NMk ["works", "cell"] (defScope sDoMark) := ⟨rfl, rfl, rfl, by decide +kernel, rfl, by decide +kernel, by decide +kernel⟩
theorem ok_doMark {f C f0 : Addr} {fd : FuncData} (F : Fun K "do_mark" "do_mark" sDoMark f fd) (Z : WC K mg C f0) (T : Bt mg) (D1 : Df P w K mg base 2 "agreed_of" ["values", "need"] (spAgrOf K)) (D2 : Df P w K mg base 2 "empty_slots" ["works"] (spEmpty K C)) (D3 : Df P w K mg base 2 "state_of" ["works", "hue"] (spStateOf K C)) : FnOk P w K mg base CX0 3 f fd ["works", "cell"] (spDoMark K C) := by
  obtain ⟨f1, fd1, Gagreed_of, gagreed_of, kagreed_of, bagreed_of⟩ := D1
  obtain ⟨f2, fd2, Gempty_slots, gempty_slots, kempty_slots, bempty_slots⟩ := D2
  obtain ⟨f3, fd3, Gstate_of, gstate_of, kstate_of, bstate_of⟩ := D3
  refine F.ok scDoMark (fun vs H Q E h => ?_) (fun cdv A outer s H vs Q E hr h => ?_)
  · obtain ⟨x, a, v, D, rfl, _⟩ := h
    rfl
  · have nd := scDoMark.nd
    obtain ⟨x, a, v, D, rfl, L, h5, h1, hrl, hbl, qq⟩ := h
    refine ⟨_, pss_cons (ps_set (i := 2) nd rfl (.inl rfl) (pe_callTy cr_range1 (by rfl) T.range (by decide +kernel) (pa_cons (pe_callB call_len_seq (by rfl) T.len PySem.boot_len (pa_cons (pe_fld (pv 0) rfl) pa_nil)) pa_nil)))
      (pss_cons (ps_set (i := 3) nd rfl (.inl rfl) (pe_call Gagreed_of hr rfl gagreed_of kagreed_of bagreed_of .nil pass0 (pa_cons (pe_lc (own := [("hue", 7)]) (g := gName 7) (by rfl) nd (pi_rng (pv 2)) (blkOk_by (own := [("hue", 7)]) (N := NMk) (sc := defScope sDoMark) (by decide +kernel)) (fun _ _ _ _ _ => pg_name (i := 7) nd rfl (Or.inl rfl))
          (fun _ _ _ _ _ => pts_nil)
          (fun _ _ _ _ _ => pe_call Gstate_of hr rfl gstate_of kstate_of bstate_of .nil pass0 (pa_cons (pv 0) (pa_cons (pv 7) pa_nil)))) (pa_cons (pe_ix ix_tup (pe_fld (pv 0) rfl) (pe_un un_neg pe_int) (fun _ _ => rfl)) pa_nil))))
      (pss_cons (ps_if (pt_cmpR op_isN (pv 3) pe_non (nomark _))
      (pss_one (ps_ret pe_bl))
      pss_nil)
      (pss_cons (ps_asg (pv 3) (pg_tup (by rfl) (pgs_cons (pg_name (i := 4) nd rfl (.inr rfl)) (pgs_cons (pg_name (i := 5) nd rfl (.inr rfl)) pgs_nil))))
      (pss_cons (ps_fld (pv 0) (pe_lc (own := [("_", 6)]) (g := gName 6) (by rfl) nd (pi_rng (pv 2)) (blkOk_by (own := [("_", 6)]) (N := NMk) (sc := defScope sDoMark) (by decide +kernel)) (fun _ _ _ _ _ => pg_name (i := 6) nd rfl (Or.inl rfl))
          (fun _ _ _ _ _ => pts_nil)
          (fun _ _ _ _ _ => pe_callTy (T := "list") (r := rListK K) (by exact call_list_of) (by rfl) T.list (by decide +kernel) (pa_cons (pv 4) pa_nil))) rfl)
      (pss_cons (ps_fld (pv 0) (pe_lc (own := [("_", 6)]) (g := gName 6) (by rfl) nd (pi_rng (pv 2)) (blkOk_by (own := [("_", 6)]) (N := NMk) (sc := defScope sDoMark) (by decide +kernel)) (fun _ _ _ _ _ => pg_name (i := 6) nd rfl (Or.inl rfl))
          (fun _ _ _ _ _ => pts_nil)
          (fun _ _ _ _ _ => pe_callTy (T := "list") (r := rListK K) (by exact call_list_of) (by rfl) T.list (by decide +kernel) (pa_cons (pv 5) pa_nil))) rfl)
      (pss_cons (ps_fld (pv 0) (pe_fld (pv 0) rfl) rfl)
      (pss_cons (ps_expr (pe_call Gempty_slots hr rfl gempty_slots kempty_slots bempty_slots .nil pass0 (pa_cons (pv 0) pa_nil)))
      (pss_one (ps_ret pe_bl))))))))), ?_⟩
    have hlv : (D.votes.map fun n : Nat => V.int (n : Int)).length = D.votes.length := List.length_map _
    have hrs : v.rs.length = D.votes.length := by rw [L.p.regs.1, hrl]
    have hbs : v.bs.length = D.votes.length := by rw [L.p.bank.1, hbl]
    -- the range
    refine ⟨_, rfl, x, C, v.dw, _, _, rfl, L.ins, Z.cls, Z.n_votes, wl_votes v D, v.vt, _, rfl, .inr L.p.votes, _, rfl, fun rg0 hrg => ?_⟩
    rw [hlv]
    have sA := same_new (o := .rng 0 ((D.votes.length : Nat) : Int)) hrg
    generalize hHA : upd H rg0 (.rng 0 ((D.votes.length : Nat) : Int)) = HA at *
    have hArg : HA rg0 = some (.rng 0 ((D.votes.length : Nat) : Int)) := by rw [← hHA]; exact upd_same
    have LA := L.same sA
    -- all states
    refine ⟨_, rfl, rg0, D.votes.length, rfl, hArg, by omega, fun st hst => ?_⟩
    refine lc_range (lo := 0) (n := D.votes.length) (fun i H' => ∃ ps : List Addr, H' st = some (.lst (ps.map V.ref)) ∧ ps.length = i ∧ (∀ (j : Nat) (p ra ba : Addr), ps[j]? = some p → v.rs[j]? = some ra → v.bs[j]? = some ba → p ≠ st ∧ H' p = some (.tup [.ref ra, .ref ba])) ∧ Same HA H')
      ⟨[], upd_same, rfl, fun j p ra ba h => by simp at h, same_new hst⟩ (fun i H' hi hh => ?_) (fun H' hh => ?_)
    · obtain ⟨ps, e1, e2, e3, k⟩ := hh
      have hra : v.rs[i]? = some v.rs[i] := List.getElem?_eq_getElem (by omega)
      have hba : v.bs[i]? = some v.bs[i] := List.getElem?_eq_getElem (by omega)
      refine ⟨rfl, _, rfl, _, rfl, x, v, D, i, v.rs[i], v.bs[i], by rw [Int.zero_add]; rfl, LA.same k, hra, hba, fun p hp => ?_⟩
      have sp := same_new (o := .tup [V.ref v.rs[i], V.ref v.bs[i]]) hp
      have np : p ≠ st := fun y => by
        rw [y, e1] at hp
        cases hp
      refine ⟨_, sp _ _ e1, small1000 (by rw [List.length_map]; omega), ps ++ [p], by rw [upd_same, List.map_append]; rfl, by rw [List.length_append, e2]; rfl, fun j p' ra ba hj hr' hb' => ?_, fun b o e => ?_⟩
      · by_cases z : j < ps.length
        · rw [List.getElem?_append_left z] at hj
          obtain ⟨g1, g2⟩ := e3 j p' ra ba hj hr' hb'
          refine ⟨g1, ?_⟩
          rw [upd_ne g1]
          exact sp _ _ g2
        · have hjl : j < (ps ++ [p]).length := (List.getElem?_eq_some_iff.mp hj).1
          rw [List.length_append] at hjl
          have hjl : j < ps.length + 1 := hjl
          have ej : j = ps.length := by omega
          subst ej
          rw [List.getElem?_append_right (Nat.le_refl _), Nat.sub_self] at hj
          have hj : p = p' := by simpa using hj
          subst hj
          have hr' : v.rs[i]? = some ra := by rw [← e2]; exact hr'
          have hb' : v.bs[i]? = some ba := by rw [← e2]; exact hb'
          rw [hra] at hr'
          rw [hba] at hb'
          cases hr'
          cases hb'
          refine ⟨np, ?_⟩
          rw [upd_ne np]
          exact upd_same
      · rw [upd_ne (ne_of_none e hst)]
        exact sp _ _ (k b o e)
    obtain ⟨ps, p1, p2, p3, kB⟩ := hh
    have LB := LA.same kB
    generalize H' = HB at *
    have sB := sA.trans kB
    have hat : atI (D.votes.map fun n : Nat => V.int (n : Int)) (-1) = some (.int ((D.votes.getD (D.votes.length - 1) 0 : Nat) : Int)) := by
      unfold atI
      have e : ixN (D.votes.map fun n : Nat => V.int (n : Int)).length (-1) = some (D.votes.length - 1) := by
        unfold ixN
        rw [hlv, if_neg (by omega), if_pos (by omega)]
        congr 1
        omega
      rw [e]
      show (D.votes.map fun n : Nat => V.int (n : Int))[D.votes.length - 1]? = _
      rw [List.getElem?_map, List.getD_eq_getElem?_getD, List.getElem?_eq_getElem (by omega)]
      rfl
    refine ⟨_, rfl, x, C, v.dw, _, _, rfl, LB.ins, Z.cls, Z.n_votes, wl_votes v D, ?_⟩
    have hzl : (D.regs.zip D.banks).length = D.votes.length := by rw [List.length_zip, hrl, hbl, Nat.min_self]
    have hrsP : ∀ j, j < D.votes.length → ∃ p ra ba, ps[j]? = some p ∧ v.rs[j]? = some ra ∧ v.bs[j]? = some ba ∧ HB p = some (.tup [.ref ra, .ref ba]) ∧ ∃ r b, D.regs[j]? = some r ∧ D.banks[j]? = some b ∧ HB ra = some (.lst (r.map V.int)) ∧ HB ba = some (.lst (b.map V.int)) ∧ (D.regs.zip D.banks)[j]? = some (r, b) := fun j hj => by
      have a1 : ps[j]? = some ps[j] := List.getElem?_eq_getElem (by omega)
      have a2 : v.rs[j]? = some v.rs[j] := List.getElem?_eq_getElem (by omega)
      have a3 : v.bs[j]? = some v.bs[j] := List.getElem?_eq_getElem (by omega)
      have a4 : D.regs[j]? = some D.regs[j] := List.getElem?_eq_getElem (by omega)
      have a5 : D.banks[j]? = some D.banks[j] := List.getElem?_eq_getElem (by omega)
      refine ⟨_, _, _, a1, a2, a3, (p3 j _ _ _ a1 a2 a3).2, _, _, a4, a5, LB.p.regs.2 j _ _ a2 a4, LB.p.bank.2 j _ _ a3 a5, ?_⟩
      rw [List.getElem?_zip_eq_some]
      exact ⟨a4, a5⟩
    have dpst : DpAll K HB (ps.map V.ref) ((D.regs.zip D.banks).map stL) := by
      refine dps_of_get (by rw [List.length_map, List.length_map, p2, hzl]) fun j y d hy hd => ?_
      rw [List.getElem?_map] at hy hd
      obtain ⟨p, hp, rfl⟩ := Option.map_eq_some_iff.mp hy
      obtain ⟨s, hs, rfl⟩ := Option.map_eq_some_iff.mp hd
      have hj : j < D.votes.length := by
        have := (List.getElem?_eq_some_iff.mp hp).1
        omega
      obtain ⟨p', ra, ba, c1, c2, c3, c4, r, b, d1, d2, d3, d4, d5⟩ := hrsP j hj
      rw [hp] at c1
      cases c1
      rw [hs] at d5
      cases d5
      exact .tup (.inl (.inl c4)) (.cons (.lst (SqL.of d3) (dp_ints r)) (.cons (.lst (SqL.of d4) (dp_ints b)) .nil))
    refine ⟨_, rfl, v.vt, _, -1, _, rfl, rfl, LB.p.votes, hat, st, ps.map V.ref, (D.regs.zip D.banks).map stL, _, rfl, SqL.of p1, dpst, fun d hd => ?_, ?_⟩
    · obtain ⟨s, _, rfl⟩ := List.mem_map.mp hd
      exact stL_lay s
    rcases pick_gen stL eqv_stL (D.regs.zip D.banks) (D.votes.getD (D.votes.length - 1) 0) (ps.map V.ref) (D.regs.zip D.banks) (by rw [List.length_map, p2, hzl]) (fun y hy => by
      obtain ⟨p, _, rfl⟩ := List.mem_map.mp hy
      exact fun z => by cases z) with ⟨g1, g2⟩ | ⟨j, y, s, g1, g2, g3, g4⟩
    · rw [g2]
      have qag : agM D = none := g1
      have em : mrkD D = D := by
        unfold mrkD
        rw [qag]
      rw [qag, em] at qq
      refine ⟨_, rfl, rfl, true, rfl, iteT ?_⟩
      exact qq _ _ LB (Chg.same sB)
    rw [g4]
    have qag : agM D = some s := g3
    have em : mrkD D = mrkW D s.1 s.2 := by
      unfold mrkD
      rw [qag]
    rw [qag, em] at qq
    rw [List.getElem?_map] at g1
    obtain ⟨p, hp, rfl⟩ := Option.map_eq_some_iff.mp g1
    have hj : j < D.votes.length := by
      have := (List.getElem?_eq_some_iff.mp hp).1
      omega
    obtain ⟨p', ra, ba, c1, c2, c3, c4, r, b, d1, d2, d3, d4, d5⟩ := hrsP j hj
    rw [hp] at c1
    cases c1
    rw [g2] at d5
    cases d5
    refine ⟨_, rfl, rfl, false, rfl, iteF ?_⟩
    refine ⟨_, rfl, p, _, rfl, .inl (.inl c4), rfl, _, _, rfl, _, _, rfl, rfl, ?_⟩
    -- numbers
    refine ⟨_, rfl, rg0, D.votes.length, rfl, kB _ _ hArg, by omega, fun nu hnu => ?_⟩
    refine lc_range (lo := 0) (n := D.votes.length) (fun i H' => ∃ ds : List Addr, H' nu = some (.lst (ds.map V.ref)) ∧ ds.length = i ∧ ds.Nodup ∧ (∀ d ∈ ds, HB d = none ∧ d ≠ nu ∧ H' d = some (.lst (r.map V.int))) ∧ Same HB H')
      ⟨[], upd_same, rfl, List.nodup_nil, fun d hd => absurd hd List.not_mem_nil, same_new hnu⟩ (fun i H' hi hh => ?_) (fun H' hh => ?_)
    · obtain ⟨ds, e1, e2, e3, e4, k⟩ := hh
      refine ⟨rfl, _, rfl, ra, _, rfl, .inl (SqL.of (k _ _ d3)), fun p15 hp15 => ?_⟩
      have s15 := same_new (o := .lst (r.map V.int)) hp15
      have e1' := s15 _ _ e1
      have n15 : p15 ≠ nu := fun y => by
        rw [y, e1] at hp15
        cases hp15
      have h13n : HB p15 = none := Same.free k hp15
      refine ⟨_, e1', small1000 (by rw [List.length_map]; omega), ds ++ [p15], by rw [upd_same, List.map_append]; rfl, by rw [List.length_append, e2]; rfl, ?_, fun d hd => ?_, fun b o e => ?_⟩
      · refine List.nodup_append.mpr ⟨e3, by simp, fun u hu v hv' => ?_⟩
        rw [List.mem_singleton.mp hv']
        intro y
        have := (e4 u hu).2.2
        rw [y] at this
        rw [this] at hp15
        cases hp15
      · rcases List.mem_append.mp hd with y | y
        · obtain ⟨f1, f2, f3⟩ := e4 d y
          refine ⟨f1, f2, ?_⟩
          rw [upd_ne f2]
          exact s15 _ _ f3
        · rw [List.mem_singleton.mp y]
          refine ⟨h13n, n15, ?_⟩
          rw [upd_ne n15, upd_same]
      · rw [upd_ne (ne_of_none e hnu)]
        exact s15 _ _ (k b o e)
    obtain ⟨rs, r1, r2, r3, r4, kr⟩ := hh
    have hx' := kr _ _ LB.ins
    refine ⟨_, rfl, x, C, v.dw, _, rfl, hx', Z.cls, Z.n_numbers, wl_len v D, ?_⟩
    have ep : putF "numbers" (V.ref nu) (wfs v D) = wfs { v with nu := nu } D := wp_numbers v D nu
    rw [ep]
    have ep2 : wfs { v with nu := nu } D = wfs { v with nu := nu, rs := rs } { D with regs := List.replicate D.votes.length r } := rfl
    rw [ep2]
    obtain ⟨LC, cC⟩ := LB.newNu (H1 := H') (as := rs) (rs := List.replicate D.votes.length r) hnu r1 r3 (fun d hd => ⟨(r4 d hd).1, (r4 d hd).2.1⟩) ⟨by rw [r2, List.length_replicate], fun i d y hd hy => by
      rw [List.eq_of_mem_replicate (List.mem_of_getElem? hy)]
      exact (r4 d (List.mem_of_getElem? hd)).2.2⟩ kr
    generalize hHC : upd H' x (.ins C v.dw (wfs { v with nu := nu, rs := rs } { D with regs := List.replicate D.votes.length r })) = HC at *
    have hrgC : HC rg0 = some (.rng 0 ((D.votes.length : Nat) : Int)) := by
      rw [← hHC, upd_ne (fun z => by rw [z, LA.ins] at hArg; cases hArg)]
      exact kr _ _ (kB _ _ hArg)
    -- bank cells
    have hbC : HC ba = some (.lst (b.map V.int)) := LC.p.bank.2 j ba b c3 d2
    refine ⟨_, rfl, rg0, D.votes.length, rfl, hrgC, by omega, fun bk hbk => ?_⟩
    refine lc_range (lo := 0) (n := D.votes.length) (fun i H' => ∃ ds : List Addr, H' bk = some (.lst (ds.map V.ref)) ∧ ds.length = i ∧ ds.Nodup ∧ (∀ d ∈ ds, HC d = none ∧ d ≠ bk ∧ H' d = some (.lst (b.map V.int))) ∧ Same HC H')
      ⟨[], upd_same, rfl, List.nodup_nil, fun d hd => absurd hd List.not_mem_nil, same_new hbk⟩ (fun i H' hi hh => ?_) (fun H'' hh => ?_)
    · obtain ⟨ds, e1, e2, e3, e4, k⟩ := hh
      refine ⟨rfl, _, rfl, ba, _, rfl, .inl (SqL.of (k _ _ hbC)), fun p15 hp15 => ?_⟩
      have s15 := same_new (o := .lst (b.map V.int)) hp15
      have e1' := s15 _ _ e1
      have n15 : p15 ≠ bk := fun y => by
        rw [y, e1] at hp15
        cases hp15
      have h13n : HC p15 = none := Same.free k hp15
      refine ⟨_, e1', small1000 (by rw [List.length_map]; omega), ds ++ [p15], by rw [upd_same, List.map_append]; rfl, by rw [List.length_append, e2]; rfl, ?_, fun d hd => ?_, fun b o e => ?_⟩
      · refine List.nodup_append.mpr ⟨e3, by simp, fun u hu v hv' => ?_⟩
        rw [List.mem_singleton.mp hv']
        intro y
        have := (e4 u hu).2.2
        rw [y] at this
        rw [this] at hp15
        cases hp15
      · rcases List.mem_append.mp hd with y | y
        · obtain ⟨f1, f2, f3⟩ := e4 d y
          refine ⟨f1, f2, ?_⟩
          rw [upd_ne f2]
          exact s15 _ _ f3
        · rw [List.mem_singleton.mp y]
          refine ⟨h13n, n15, ?_⟩
          rw [upd_ne n15, upd_same]
      · rw [upd_ne (ne_of_none e hbk)]
        exact s15 _ _ (k b o e)
    obtain ⟨us, u1, u2, u3, u4, ku⟩ := hh
    have hx'' := ku _ _ LC.ins
    refine ⟨_, rfl, x, C, v.dw, _, rfl, hx'', Z.cls, Z.n_banks, wl_len _ _, ?_⟩
    have ep3 : putF "banks" (V.ref bk) (wfs { v with nu := nu, rs := rs } { D with regs := List.replicate D.votes.length r }) = wfs { v with nu := nu, rs := rs, bk := bk, bs := us } { D with regs := List.replicate D.votes.length r, banks := List.replicate D.votes.length b } := wp_banks _ _ bk
    rw [ep3]
    obtain ⟨LD, cD⟩ := LC.newBk (H1 := H'') (as := us) (rs := List.replicate D.votes.length b) hbk u1 u3 (fun d hd => ⟨(u4 d hd).1, (u4 d hd).2.1⟩) ⟨by rw [u2, List.length_replicate], fun i d y hd hy => by
      rw [List.eq_of_mem_replicate (List.mem_of_getElem? hy)]
      exact (u4 d (List.mem_of_getElem? hd)).2.2⟩ ku
    generalize hHD : upd H'' x (.ins C v.dw (wfs { v with nu := nu, rs := rs, bk := bk, bs := us } { D with regs := List.replicate D.votes.length r, banks := List.replicate D.votes.length b })) = HD at *
    -- tape
    obtain ⟨fs, f1, f2⟩ := LD.p.first
    refine ⟨_, rfl, x, C, v.dw, _, _, rfl, LD.ins, Z.cls, Z.n_first_tape, wl_first_tape _ _, _, rfl, x, C, v.dw, _, rfl, LD.ins, Z.cls, Z.n_tape, wl_len _ _, ?_⟩
    have ep4 := wp_tape { v with nu := nu, rs := rs, bk := bk, bs := us } { D with regs := List.replicate D.votes.length r, banks := List.replicate D.votes.length b } v.ft
    dsimp only at ep4 ⊢
    rw [ep4]
    obtain ⟨LE, cE⟩ := LD.newTp (q := v.ft) (zs := D.cells) f1 f2 (fun _ _ e => e)
    refine ⟨_, rfl, x, _, _, rfl, LE, h5, fun HF v2 LF cF => ?_⟩
    exact qq _ _ LF ((((((Chg.same sB).trans cC).trans cD).trans cE)).trans cF)
end
end Hue
namespace Hue
open L2 PySem.Spec PySem PyProof.Rows
/-! ### the words -/
def spWorth : Sp := fun vs H Q _ => ∃ (wd : Wd) (a b : Int) (m : Nat), vs = [.str (wdS wd), .int a, .int b, .int m] ∧ 0 < m ∧ m ≤ 10000 ∧ 0 ≤ a ∧ a < m ∧ 0 ≤ b ∧ b < m ∧ Q (.int (wd.val m a b)) H
section
variable {P : Program} {w : World} {K : PySem.W.Frag} {mg : Str → Option Value} {base : Heap}
theorem scWorth : FnScope ["word", "one", "other", "size"] ["word", "one", "other", "size"] (defScope sWorth) := ⟨rfl, rfl, rfl, by decide +kernel, rfl, by decide +kernel, by decide +kernel⟩
theorem ok_worth {f : Addr} {fd : FuncData} (F : Fun K "worth" "worth" sWorth f fd) (T : Bt mg) : FnOk P w K mg base CX0 1 f fd ["word", "one", "other", "size"] spWorth := by
  refine F.ok scWorth (fun vs H Q E h => ?_) (fun cdv A outer s H vs Q E hr h => ?_)
  · obtain ⟨wd, a, b, m, rfl, _⟩ := h
    rfl
  · have nd := scWorth.nd
    obtain ⟨wd, a, b, m, rfl, hm, hm2, ha, ha2, hb, hb2, q⟩ := h
    refine ⟨_, pss_cons (ps_if (pt_cmpR op_eq (pv 0) pe_str (nomark _))
      (pss_one (ps_ret (pe_op op_mod (pe_op op_add (pv 1) (pv 2)) (pv 3))))
      pss_nil)
      (pss_cons (ps_if (pt_cmpR op_eq (pv 0) pe_str (nomark _))
      (pss_one (ps_ret (pe_op op_mod (pe_op op_sub (pv 1) (pv 2)) (pv 3))))
      pss_nil)
      (pss_cons (ps_if (pt_cmpR op_eq (pv 0) pe_str (nomark _))
      (pss_one (ps_ret (pe_op op_mod (pe_op op_mul (pv 1) (pv 2)) (pv 3))))
      pss_nil)
      (pss_cons (ps_if (pt_cmpR op_eq (pv 0) pe_str (nomark _))
      (pss_cons (ps_if (pt_cmpR op_eq (pv 2) pe_int (nomark _))
        (pss_one (ps_ret pe_int))
        pss_nil)
        (pss_one (ps_ret (pe_op op_mod (pv 1) (pv 2)))))
      pss_nil)
      (pss_cons (ps_if (pt_cmpR op_eq (pv 0) pe_str (nomark _))
      (pss_one (ps_ret (pe_callTy call_int1 (by rfl) T.int (by decide +kernel) (pa_cons (pe_cmpR op_lt (pv 1) (pv 2) (nomark _)) pa_nil))))
      pss_nil)
      (pss_one (ps_ret (pe_callTy call_int1 (by rfl) T.int (by decide +kernel) (pa_cons (pe_cmpR op_eq (pv 1) (pv 2) (nomark _)) pa_nil)))))))), ?_⟩
    have hmi : (0 : Int) < (m : Int) := by omega
    cases wd with
    | plus =>
      refine ⟨_, rfl, rfl, true, rfl, iteT ?_⟩
      exact ⟨_, rfl, _, rfl, _, _, rfl, rfl, _, rfl, _, _, rfl, rfl, hmi, q⟩
    | minus =>
      refine ⟨_, rfl, rfl, false, rfl, iteF ?_⟩
      refine ⟨_, rfl, rfl, true, rfl, iteT ?_⟩
      exact ⟨_, rfl, _, rfl, _, _, rfl, rfl, _, rfl, _, _, rfl, rfl, hmi, q⟩
    | times =>
      refine ⟨_, rfl, rfl, false, rfl, iteF ?_⟩
      refine ⟨_, rfl, rfl, false, rfl, iteF ?_⟩
      refine ⟨_, rfl, rfl, true, rfl, iteT ?_⟩
      have h64 : (10000 : Int) < 2 ^ 64 := by decide
      have h0 : (-(2 ^ 64) : Int) < 0 := by decide
      refine ⟨_, rfl, _, rfl, _, _, rfl, rfl, .inl ⟨by omega, by omega⟩, _, rfl, _, _, rfl, rfl, hmi, q⟩
    | rest =>
      refine ⟨_, rfl, rfl, false, rfl, iteF ?_⟩
      refine ⟨_, rfl, rfl, false, rfl, iteF ?_⟩
      refine ⟨_, rfl, rfl, false, rfl, iteF ?_⟩
      refine ⟨_, rfl, rfl, true, rfl, iteT ?_⟩
      have e : (Wd.rest).val m a b = if b = 0 then 0 else a % b := rfl
      rw [e] at q
      by_cases z : b = 0
      · subst z
        rw [if_pos rfl] at q
        refine ⟨_, rfl, rfl, true, rfl, iteT ?_⟩
        exact q
      · rw [if_neg z] at q
        refine ⟨_, rfl, rfl, false, congrArg V.bl (decide_eq_false fun y => z (by cases y; rfl)), iteF ?_⟩
        exact ⟨_, rfl, _, rfl, _, _, rfl, rfl, (by omega : (0 : Int) < b), q⟩
    | less =>
      refine ⟨_, rfl, rfl, false, rfl, iteF ?_⟩
      refine ⟨_, rfl, rfl, false, rfl, iteF ?_⟩
      refine ⟨_, rfl, rfl, false, rfl, iteF ?_⟩
      refine ⟨_, rfl, rfl, false, rfl, iteF ?_⟩
      refine ⟨_, rfl, rfl, true, rfl, iteT ?_⟩
      refine ⟨_, rfl, _, rfl, _, _, rfl, rfl, .inr ⟨_, rfl, ?_⟩⟩
      have e : (Wd.less).val m a b = if a < b then 1 else 0 := rfl
      rw [e] at q
      by_cases z : a < b
      · rw [if_pos z] at q
        rw [decide_eq_true z]
        exact q
      · rw [if_neg z] at q
        rw [decide_eq_false z]
        exact q
    | same =>
      refine ⟨_, rfl, rfl, false, rfl, iteF ?_⟩
      refine ⟨_, rfl, rfl, false, rfl, iteF ?_⟩
      refine ⟨_, rfl, rfl, false, rfl, iteF ?_⟩
      refine ⟨_, rfl, rfl, false, rfl, iteF ?_⟩
      refine ⟨_, rfl, rfl, false, rfl, iteF ?_⟩
      refine ⟨_, rfl, _, rfl, rfl, .inr ⟨_, rfl, ?_⟩⟩
      have e : (Wd.same).val m a b = if a = b then 1 else 0 := rfl
      rw [e] at q
      by_cases z : a = b
      · subst z
        rw [if_pos rfl] at q
        rw [decide_eq_true rfl]
        exact q
      · rw [if_neg z] at q
        rw [decide_eq_false (fun y => z (by cases y; rfl))]
        exact q
end
end Hue
namespace Hue
open L2 PySem.Spec PySem PyProof.Rows
/-! ### words, get, put as actions -/
def spDoWord (K : PySem.W.Frag) (CW : Addr) : Sp := fun vs H Q _ => ∃ (x a : Addr) (v : WV) (D : WD) (i b c d : Nat) (wd : Wd) (r : List Int) (n o : Int), vs = [.ref x, .int i, .ref a] ∧ WL K CW H x v D ∧ SqT K H a [.int i, .str (wdS wd), .int b, .int c, .int d] ∧ D.regs[i]? = some r ∧ b < r.length ∧ r[c]? = some n ∧ r[d]? = some o ∧ 0 < D.size ∧ D.size ≤ 10000 ∧ 0 ≤ n ∧ n < D.size ∧ 0 ≤ o ∧ o < D.size ∧
  ∀ H', WL K CW H' x v { D with regs := D.regs.set i (r.set b (wd.val D.size n o)) } → Chg (v.F x) H H' (v.F x) → Q .non H'
def spDoGet (K : PySem.W.Frag) (CW : Addr) : Sp := fun vs H Q _ => ∃ (x a : Addr) (v : WV) (D : WD) (i b c bs ln : Nat) (r k : List Int) (n y : Int), vs = [.ref x, .int i, .ref a] ∧ WL K CW H x v D ∧ SqT K H a [.int i, .str "get", .int b, .int c, .int bs, .int ln] ∧ D.regs[i]? = some r ∧ D.banks[i]? = some k ∧ b < r.length ∧ r[c]? = some n ∧ 0 < ln ∧ k[bs + (n % (ln : Int)).toNat]? = some y ∧
  ∀ H', WL K CW H' x v { D with regs := D.regs.set i (r.set b y) } → Chg (v.F x) H H' (v.F x) → Q .non H'
def spDoPut (K : PySem.W.Frag) (CW : Addr) : Sp := fun vs H Q _ => ∃ (x a : Addr) (v : WV) (D : WD) (i b c bs ln : Nat) (r k : List Int) (n y : Int), vs = [.ref x, .int i, .ref a] ∧ WL K CW H x v D ∧ SqT K H a [.int i, .str "put", .int b, .int c, .int bs, .int ln] ∧ D.regs[i]? = some r ∧ D.banks[i]? = some k ∧ r[b]? = some y ∧ r[c]? = some n ∧ 0 < ln ∧ bs + (n % (ln : Int)).toNat < k.length ∧
  ∀ H', WL K CW H' x v { D with banks := D.banks.set i (k.set (bs + (n % (ln : Int)).toNat) y) } → Chg (v.F x) H H' (v.F x) → Q .non H'
section
variable {P : Program} {w : World} {K : PySem.W.Frag} {mg : Str → Option Value} {base : Heap}
theorem WL.bnk_at0 {CW : Addr} {H : Hp} {x : Addr} {v : WV} {D : WD} (L : WL K CW H x v D) {i : Nat} {r : List Int} (h : D.banks[i]? = some r) : ∃ a, v.bs[i]? = some a ∧ H a = some (.lst (r.map V.int)) := by
  have hl : i < v.bs.length := by
    rw [L.p.bank.1]
    exact (List.getElem?_eq_some_iff.mp h).1
  exact ⟨v.bs[i], List.getElem?_eq_getElem hl, L.p.bank.2 i _ r (List.getElem?_eq_getElem hl) h⟩
theorem scDoWord : FnScope ["works", "hue", "cell", "numbers"] ["works", "hue", "cell"] (defScope sDoWord) := ⟨rfl, rfl, rfl, by decide +kernel, rfl, by decide +kernel, by decide +kernel⟩
theorem ok_doWord {f C f0 : Addr} {fd : FuncData} (F : Fun K "do_word" "do_word" sDoWord f fd) (Z : WC K mg C f0) (D1 : Df P w K mg base 1 "worth" ["word", "one", "other", "size"] spWorth) : FnOk P w K mg base CX0 2 f fd ["works", "hue", "cell"] (spDoWord K C) := by
  obtain ⟨f1, fd1, Gworth, gworth, kworth, bworth⟩ := D1
  refine F.ok scDoWord (fun vs H Q E h => ?_) (fun cdv A outer s H vs Q E hr h => ?_)
  · obtain ⟨x, a, v, D, i, b, c, d, wd, r, n, o, rfl, _⟩ := h
    rfl
  · have nd := scDoWord.nd
    obtain ⟨x, a, v, D, i, b, c, d, wd, r, n, o, rfl, L, hS, hr1, hb, hc, hd, hm, hm2, hn, hn2, ho, ho2, q⟩ := h
    obtain ⟨ra, hra, hrl⟩ := L.reg_at hr1
    refine ⟨_, pss_cons (ps_set (i := 3) nd rfl (.inl rfl) (pe_ix ix_list (pe_fld (pv 0) rfl) (pv 1) (fun _ _ => rfl)))
      (pss_one (ps_asg (pe_call Gworth hr rfl gworth kworth bworth .nil pass0 (pa_cons (pe_ix ix_tup (pv 2) pe_int (fun _ _ => rfl)) (pa_cons (pe_ix ix_list (pv 3) (pe_ix ix_tup (pv 2) pe_int (fun _ _ => rfl)) (fun _ _ => rfl)) (pa_cons (pe_ix ix_list (pv 3) (pe_ix ix_tup (pv 2) pe_int (fun _ _ => rfl)) (fun _ _ => rfl)) (pa_cons (pe_fld (pv 0) rfl) pa_nil))))) (pg_sub (pv 3) (pe_ix ix_tup (pv 2) pe_int (fun _ _ => rfl)) set_list))), ?_⟩
    refine ⟨_, rfl, x, C, v.dw, _, _, rfl, L.ins, Z.cls, Z.n_numbers, wl_numbers v D, _, rfl, v.nu, _, _, _, rfl, rfl, SqL.of L.p.nums, atM hra, ?_⟩
    refine ⟨_, rfl, a, _, 1, _, rfl, rfl, hS, at_of (j := 1) rfl rfl, _, rfl, _, rfl, a, _, 3, _, rfl, rfl, hS, at_of (j := 3) rfl rfl, ra, _, _, _, rfl, rfl, SqL.of hrl, atM hc, _, rfl, _, rfl, a, _, 4, _, rfl, rfl, hS, at_of (j := 4) rfl rfl, ra, _, _, _, rfl, rfl, SqL.of hrl, atM hd, _, rfl, x, C, v.dw, _, _, rfl, L.ins, Z.cls, Z.n_size, wl_size v D, ?_⟩
    refine ⟨wd, n, o, D.size, rfl, hm, hm2, hn, hn2, ho, ho2, ?_⟩
    refine ⟨_, rfl, _, rfl, a, _, 2, _, rfl, rfl, hS, at_of (j := 2) rfl rfl, ra, _, _, b, rfl, rfl, hrl, ixN_in (by rw [List.length_map]; exact hb), ?_⟩
    have hmm : ra ∈ v.list := by simp [WV.list, List.mem_of_getElem? hra]
    have z := L.reg (r.set b (wd.val D.size n o)) hra
    rw [List.map_set] at z
    exact q _ z (Chg.one (WV.F_l hmm) (L.mut hmm).2)
theorem scDoGet : FnScope ["works", "hue", "cell", "numbers"] ["works", "hue", "cell"] (defScope sDoGet) := ⟨rfl, rfl, rfl, by decide +kernel, rfl, by decide +kernel, by decide +kernel⟩
theorem ok_doGet {f C f0 : Addr} {fd : FuncData} (F : Fun K "do_get" "do_get" sDoGet f fd) (Z : WC K mg C f0) : FnOk P w K mg base CX0 1 f fd ["works", "hue", "cell"] (spDoGet K C) := by
  refine F.ok scDoGet (fun vs H Q E h => ?_) (fun cdv A outer s H vs Q E hr h => ?_)
  · obtain ⟨x, a, v, D, i, b, c, bs, ln, r, k, n, y, rfl, _⟩ := h
    rfl
  · have nd := scDoGet.nd
    obtain ⟨x, a, v, D, i, b, c, bs, ln, r, k, n, y, rfl, L, hS, hr1, hk1, hb, hc, hln, hy, q⟩ := h
    obtain ⟨ra, hra, hrl⟩ := L.reg_at hr1
    obtain ⟨ba, hba, hbl⟩ := L.bnk_at0 hk1
    refine ⟨_, pss_cons (ps_set (i := 3) nd rfl (.inl rfl) (pe_ix ix_list (pe_fld (pv 0) rfl) (pv 1) (fun _ _ => rfl)))
      (pss_one (ps_asg (pe_ix ix_list (pe_ix ix_list (pe_fld (pv 0) rfl) (pv 1) (fun _ _ => rfl)) (pe_op op_add (pe_ix ix_tup (pv 2) pe_int (fun _ _ => rfl)) (pe_op op_mod (pe_ix ix_list (pv 3) (pe_ix ix_tup (pv 2) pe_int (fun _ _ => rfl)) (fun _ _ => rfl)) (pe_ix ix_tup (pv 2) pe_int (fun _ _ => rfl)))) (fun _ _ => rfl)) (pg_sub (pv 3) (pe_ix ix_tup (pv 2) pe_int (fun _ _ => rfl)) set_list))), ?_⟩
    have hl0 : (0 : Int) < (ln : Int) := by omega
    have hmod := Int.emod_nonneg n (show (ln : Int) ≠ 0 by omega)
    have eix : (bs : Int) + n % (ln : Int) = ((bs + (n % (ln : Int)).toNat : Nat) : Int) := by omega
    refine ⟨_, rfl, x, C, v.dw, _, _, rfl, L.ins, Z.cls, Z.n_numbers, wl_numbers v D, _, rfl, v.nu, _, _, _, rfl, rfl, SqL.of L.p.nums, atM hra, ?_⟩
    refine ⟨_, rfl, x, C, v.dw, _, _, rfl, L.ins, Z.cls, Z.n_banks, wl_banks v D, _, rfl, v.bk, _, _, _, rfl, rfl, SqL.of L.p.banks, atM hba, ?_⟩
    refine ⟨_, rfl, a, _, 4, _, rfl, rfl, hS, at_of (j := 4) rfl rfl, _, rfl, _, rfl, a, _, 3, _, rfl, rfl, hS, at_of (j := 3) rfl rfl, ra, _, _, _, rfl, rfl, SqL.of hrl, atM hc, _, rfl, a, _, 5, _, rfl, rfl, hS, at_of (j := 5) rfl rfl, _, _, rfl, rfl, hl0, _, _, rfl, rfl, ba, _, _, _, rfl, rfl, SqL.of hbl, (by rw [eix]; exact atM hy), ?_⟩
    refine ⟨_, rfl, _, rfl, a, _, 2, _, rfl, rfl, hS, at_of (j := 2) rfl rfl, ra, _, _, b, rfl, rfl, hrl, ixN_in (by rw [List.length_map]; exact hb), ?_⟩
    have hmm : ra ∈ v.list := by simp [WV.list, List.mem_of_getElem? hra]
    have z := L.reg (r.set b y) hra
    rw [List.map_set] at z
    exact q _ z (Chg.one (WV.F_l hmm) (L.mut hmm).2)
theorem scDoPut : FnScope ["works", "hue", "cell", "numbers"] ["works", "hue", "cell"] (defScope sDoPut) := ⟨rfl, rfl, rfl, by decide +kernel, rfl, by decide +kernel, by decide +kernel⟩
theorem ok_doPut {f C f0 : Addr} {fd : FuncData} (F : Fun K "do_put" "do_put" sDoPut f fd) (Z : WC K mg C f0) : FnOk P w K mg base CX0 1 f fd ["works", "hue", "cell"] (spDoPut K C) := by
  refine F.ok scDoPut (fun vs H Q E h => ?_) (fun cdv A outer s H vs Q E hr h => ?_)
  · obtain ⟨x, a, v, D, i, b, c, bs, ln, r, k, n, y, rfl, _⟩ := h
    rfl
  · have nd := scDoPut.nd
    obtain ⟨x, a, v, D, i, b, c, bs, ln, r, k, n, y, rfl, L, hS, hr1, hk1, hy, hc, hln, hlt, q⟩ := h
    obtain ⟨ra, hra, hrl⟩ := L.reg_at hr1
    obtain ⟨ba, hba, hbl⟩ := L.bnk_at0 hk1
    refine ⟨_, pss_cons (ps_set (i := 3) nd rfl (.inl rfl) (pe_ix ix_list (pe_fld (pv 0) rfl) (pv 1) (fun _ _ => rfl)))
      (pss_one (ps_asg (pe_ix ix_list (pv 3) (pe_ix ix_tup (pv 2) pe_int (fun _ _ => rfl)) (fun _ _ => rfl)) (pg_sub (pe_ix ix_list (pe_fld (pv 0) rfl) (pv 1) (fun _ _ => rfl)) (pe_op op_add (pe_ix ix_tup (pv 2) pe_int (fun _ _ => rfl)) (pe_op op_mod (pe_ix ix_list (pv 3) (pe_ix ix_tup (pv 2) pe_int (fun _ _ => rfl)) (fun _ _ => rfl)) (pe_ix ix_tup (pv 2) pe_int (fun _ _ => rfl)))) set_list))), ?_⟩
    have hl0 : (0 : Int) < (ln : Int) := by omega
    have hmod := Int.emod_nonneg n (show (ln : Int) ≠ 0 by omega)
    have eix : (bs : Int) + n % (ln : Int) = ((bs + (n % (ln : Int)).toNat : Nat) : Int) := by omega
    refine ⟨_, rfl, x, C, v.dw, _, _, rfl, L.ins, Z.cls, Z.n_numbers, wl_numbers v D, _, rfl, v.nu, _, _, _, rfl, rfl, SqL.of L.p.nums, atM hra, ?_⟩
    refine ⟨_, rfl, _, rfl, a, _, 2, _, rfl, rfl, hS, at_of (j := 2) rfl rfl, ra, _, _, _, rfl, rfl, SqL.of hrl, atM hy, ?_⟩
    refine ⟨_, rfl, x, C, v.dw, _, _, rfl, L.ins, Z.cls, Z.n_banks, wl_banks v D, _, rfl, v.bk, _, _, _, rfl, rfl, SqL.of L.p.banks, atM hba, ?_⟩
    refine ⟨_, rfl, a, _, 4, _, rfl, rfl, hS, at_of (j := 4) rfl rfl, _, rfl, _, rfl, a, _, 3, _, rfl, rfl, hS, at_of (j := 3) rfl rfl, ra, _, _, _, rfl, rfl, SqL.of hrl, atM hc, _, rfl, a, _, 5, _, rfl, rfl, hS, at_of (j := 5) rfl rfl, _, _, rfl, rfl, hl0, _, _, rfl, rfl, ba, _, _, _, rfl, rfl, hbl, (by rw [eix]; exact ixN_in (by rw [List.length_map]; exact hlt)), ?_⟩
    have hmm : ba ∈ v.list := by simp [WV.list, List.mem_of_getElem? hba]
    have z := L.bnk (k.set (bs + (n % (ln : Int)).toNat) y) hba
    rw [List.map_set] at z
    exact q _ z (Chg.one (WV.F_l hmm) (L.mut hmm).2)
end
end Hue
namespace Hue
open L2 PySem.Spec PySem PyProof.Rows
/-! ### take -/
def tkR (rs : List (List Int)) (i b : Nat) (n : Int) : List (List Int) := rs.mapIdx fun j r => if j < i then r.set b n else r
theorem tkR_zero (rs : List (List Int)) (b : Nat) (n : Int) : tkR rs 0 b n = rs := by
  refine List.ext_getElem? fun j => ?_
  unfold tkR
  rw [List.getElem?_mapIdx]
  cases rs[j]? <;> rfl
theorem tkR_len (rs : List (List Int)) (i b : Nat) (n : Int) : (tkR rs i b n).length = rs.length := List.length_mapIdx
theorem tkR_get {rs : List (List Int)} {i b j : Nat} {n : Int} {r : List Int} (h : rs[j]? = some r) : (tkR rs i b n)[j]? = some (if j < i then r.set b n else r) := by
  unfold tkR
  rw [List.getElem?_mapIdx, h]
  rfl
theorem tkR_succ {rs : List (List Int)} {i b : Nat} {n : Int} {r : List Int} (h : rs[i]? = some r) : (tkR rs i b n).set i (r.set b n) = tkR rs (i + 1) b n := by
  refine List.ext_getElem? fun j => ?_
  rw [List.getElem?_set]
  by_cases z : i = j
  · subst z
    rw [if_pos rfl, if_pos (by rw [tkR_len]; exact (List.getElem?_eq_some_iff.mp h).1), tkR_get h, if_pos (Nat.lt_succ_self _)]
  · rw [if_neg z]
    cases e : rs[j]? with
    | none =>
      unfold tkR
      rw [List.getElem?_mapIdx, List.getElem?_mapIdx, e]
      rfl
    | some r' =>
      rw [tkR_get e, tkR_get e]
      by_cases y : j < i
      · rw [if_pos y, if_pos (by omega)]
      · rw [if_neg y, if_neg (by omega)]
def tkN (D : WD) : Int := (D.given.drop D.taken).headD 0 % (D.size : Int)
def tkD (D : WD) (b wd : Nat) : WD := { D with regs := tkR D.regs wd b (tkN D), taken := if D.taken < D.given.length then D.taken + 1 else D.taken, row := D.row ++ [.tak (tkN D)] }
def spDoTake (K : PySem.W.Frag) (CW : Addr) : Sp := fun vs H Q _ => ∃ (x a : Addr) (v : WV) (D : WD) (b wd : Nat), vs = [.ref x, .ref a] ∧ WL K CW H x v D ∧ SqT K H a [.str "take", .int b, .int wd] ∧ b < 8 ∧ wd ≤ D.regs.length ∧ wd ≤ 5 ∧ (∀ r ∈ D.regs, r.length = 8) ∧ 2 ≤ D.size ∧ D.size ≤ 10000 ∧ D.row.length + 1 ≤ 16000000 ∧
  ∀ H', WL K CW H' x v (tkD D b wd) → Chg (v.F x) H H' (v.F x) → Q (.bl true) H'
section
variable {P : Program} {w : World} {K : PySem.W.Frag} {mg : Str → Option Value} {base : Heap}
theorem scDoTake : FnScope ["works", "cell", "number", "hue"] ["works", "cell"] (defScope sDoTake) := ⟨rfl, rfl, rfl, by decide +kernel, rfl, by decide +kernel, by decide +kernel⟩
abbrev NTk : List Str := ["works", "cell", "number", "hue"]
theorem blk_take {f C f0 : Addr} {cdv : Value} {A : Around} {outer : List Env} {s : Shared} {H0 : Hp} {E : XK} (Z : WC K mg C f0) (T : Bt mg) :
    ∃ t, PSs (cxOf CX0 P w K mg base NTk "do_take" (defScope sDoTake) f cdv A outer s H0 E).nox ((defBody sDoTake).drop 2) t ∧
      ∀ (x a : Addr) (v : WV) (D : WD) (b wd : Nat) (n : Int) (H : Hp) (R : Ends) (y : Option V), WL K C H x v D → SqT K H a [.str "take", .int b, .int wd] → b < 8 → wd ≤ D.regs.length → wd ≤ 5 → (∀ r ∈ D.regs, r.length = 8) → D.row.length + 1 ≤ 16000000 →
        (∀ H', WL K C H' x v { D with regs := tkR D.regs wd b n, row := D.row ++ [.tak n] } → Chg (v.F x) H H' (v.F x) → R.rt (.bl true) H') → t R [some (.ref x), some (.ref a), some (.int n), y] H := by
  have nd := scDoTake.nd
  refine ⟨_, pss_cons (ps_for PassesOwn.never rfl (pi_range1 (by rfl) T.range (pa_cons (pe_ix ix_tup (pv 1) pe_int (fun _ _ => rfl)) pa_nil)) (pg_name (i := 3) nd rfl (.inl rfl))
      (pss_one (ps_asg (pv 2) (pg_sub (pe_ix ix_list (pe_fld (pv 0) rfl) (pv 3) (fun _ _ => rfl)) (pe_ix ix_tup (pv 1) pe_int (fun _ _ => rfl)) set_list))))
      (pss_cons (ps_expr (pe_bm PySem.F.plainAttrs_list PySem.F.slot_list_append PySem.F.type_list_append mt_append (pe_fld (pv 0) rfl) (pa_cons (pe_tup (pa_cons pe_str (pa_cons (pv 2) pa_nil))) pa_nil)))
      (pss_one (ps_ret pe_bl))), ?_⟩
  intro x a v D b wd n H R y L hS hb hw hw5 h8 hrow q
  refine ⟨_, rfl, a, _, 2, _, rfl, rfl, hS, at_of (j := 2) rfl rfl, (wd : Int), rfl, by omega, by omega, ?_⟩
  rw [show ((wd : Int)).toNat = wd from Int.toNat_natCast wd]
  refine for_range (lo := 0) (n := wd) (fun i σ H' => (∃ y, σ = [some (.ref x), some (.ref a), some (.int n), y]) ∧ WL K C H' x v { D with regs := tkR D.regs i b n } ∧ Chg (v.F x) H H' (v.F x)) ⟨⟨y, rfl⟩, by rw [tkR_zero]; exact L, Chg.refl _ _⟩ (fun i σ H' hi h => ?_) (fun σ H' h => ?_)
  · obtain ⟨⟨y, rfl⟩, L1, c1⟩ := h
    have hil : i < D.regs.length := by omega
    have hr : D.regs[i]? = some D.regs[i] := List.getElem?_eq_getElem hil
    have hr1 := tkR_get (i := i) (b := b) (n := n) hr
    rw [if_neg (Nat.lt_irrefl i)] at hr1
    obtain ⟨ra, hra, hrl⟩ := L1.reg_at hr1
    have e0 : V.int (0 + (i : Int)) = V.int (i : Int) := by rw [Int.zero_add]
    refine ⟨_, rfl, _, rfl, x, C, v.dw, _, _, rfl, L1.ins, Z.cls, Z.n_numbers, wl_numbers _ _, _, rfl, v.nu, _, 0 + (i : Int), _, rfl, rfl, SqL.of L1.p.nums, ?_, _, rfl, a, _, 1, _, rfl, rfl, c1.tk.seq hS, at_of (j := 1) rfl rfl, ra, _, _, b, rfl, rfl, hrl, ixN_in (by rw [List.length_map, h8 _ (List.getElem_mem hil)]; exact hb), ⟨_, rfl⟩, ?_, ?_⟩
    · rw [Int.zero_add]
      exact atM hra
    · have z := L1.reg (D.regs[i].set b n) hra
      rw [tkR_succ hr, List.map_set] at z
      exact z
    · exact c1.trans (Chg.one (WV.F_l (by simp [WV.list, List.mem_of_getElem? hra])) (L1.mut (by simp [WV.list, List.mem_of_getElem? hra])).2)
  · obtain ⟨⟨y, rfl⟩, L1, c1⟩ := h
    obtain ⟨xs, x1, x2⟩ := L1.p.shown
    refine ⟨_, rfl, x, C, v.dw, _, _, rfl, L1.ins, Z.cls, Z.n_shown, wl_shown _ _, ?_⟩
    refine ⟨.inl ⟨rfl, _, .inl (.inl x1)⟩, _, rfl, (show 2 ≤ sizeLine by decide), fun p hp => ?_⟩
    have s2 := same_new (o := .tup [V.str "take", V.int n]) hp
    have L2 := L1.same s2
    have hxl : xs.length = D.row.length := by
      have := dps_len x2
      rw [List.length_map] at this
      exact this
    refine ⟨_, _, _, rfl, rfl, s2 _ _ x1, Nat.lt_of_lt_of_le (show xs.length < 16000000 by omega) (by decide), ?_⟩
    have hm : v.sh ∈ v.list := by simp [WV.list]
    refine q _ (L2.app (s2 _ _ x1) (dps_same s2 _ _ x2) (.tup (.inl (.inl upd_same)) (.cons (.str _) (.cons (.int _) .nil)))) ((c1.trans (Chg.same s2)).trans (Chg.one (WV.F_l hm) (L2.mut hm).2))
theorem ok_doTake {f C f0 : Addr} {fd : FuncData} (F : Fun K "do_take" "do_take" sDoTake f fd) (Z : WC K mg C f0) (T : Bt mg) : FnOk P w K mg base CX0 1 f fd ["works", "cell"] (spDoTake K C) := by
  refine F.ok scDoTake (fun vs H Q E h => ?_) (fun cdv A outer s H vs Q E hr h => ?_)
  · obtain ⟨x, a, v, D, b, wd, rfl, _⟩ := h
    rfl
  · have nd := scDoTake.nd
    obtain ⟨x, a, v, D, b, wd, rfl, L, hS, hb, hw, hw5, h8, hz, hz2, hrow, q⟩ := h
    obtain ⟨tR, pR, qR⟩ := blk_take (P := P) (w := w) (base := base) (f := f) (cdv := cdv) (A := A) (outer := outer) (s := s) (H0 := H) (E := E) Z T
    refine ⟨_, pss_cons (ps_set (i := 2) nd rfl (.inl rfl) pe_int)
      (pss_cons (ps_if (pt_cmpR op_lt (pe_fld (pv 0) rfl) (pe_callB call_len_seq (by rfl) T.len PySem.boot_len (pa_cons (pe_fld (pv 0) rfl) pa_nil)) (nomark _))
      (pss_cons (ps_set (i := 2) nd rfl (.inl rfl) (pe_op op_modN (pe_ix ix_list (pe_fld (pv 0) rfl) (pe_fld (pv 0) rfl) (fun _ _ => rfl)) (pe_fld (pv 0) rfl)))
        (pss_one (ps_fldaug (pv 0) pe_int in_add)))
      pss_nil)
       pR), ?_⟩
    have hlg : (D.given.map V.int).length = D.given.length := List.length_map _
    refine ⟨_, rfl, x, C, v.dw, _, _, rfl, L.ins, Z.cls, Z.n_taken, wl_taken v D, _, rfl, x, C, v.dw, _, _, rfl, L.ins, Z.cls, Z.n_given, wl_given v D, v.gv, _, rfl, .inl (SqL.of L.p.given), _, _, rfl, rfl, _, rfl, ite2 (fun e => ?_) (fun e => ?_)⟩
    · have e := of_decide_eq_true e
      rw [hlg] at e
      have e' : D.taken < D.given.length := by omega
      have hg : D.given[D.taken]? = some D.given[D.taken] := List.getElem?_eq_getElem e'
      refine ⟨_, rfl, x, C, v.dw, _, _, rfl, L.ins, Z.cls, Z.n_given, wl_given v D, _, rfl, x, C, v.dw, _, _, rfl, L.ins, Z.cls, Z.n_taken, wl_taken v D, v.gv, _, _, _, rfl, rfl, SqL.of L.p.given, atM hg, _, rfl, x, C, v.dw, _, _, rfl, L.ins, Z.cls, Z.n_size, wl_size v D, _, _, rfl, rfl, by omega, ?_⟩
      have en : D.given[D.taken].fmod (D.size : Int) = tkN D := by
        unfold tkN
        rw [List.drop_eq_getElem_cons e', Int.fmod_eq_emod_of_nonneg _ (by omega)]
        rfl
      refine ⟨_, rfl, x, C, v.dw, _, _, rfl, L.ins, Z.cls, Z.n_taken, wl_taken v D, _, _, rfl, rfl, v.dw, _, L.ins, wl_len v D, ?_⟩
      have ep : putF "taken" (V.int ((D.taken : Int) + 1)) (wfs v D) = wfs v { D with taken := D.taken + 1 } := wp_taken v D (D.taken + 1)
      rw [ep]
      have L1 : WL K C _ x v { D with taken := D.taken + 1 } := L.put (D' := { D with taken := D.taken + 1 }) ⟨L.p.votes, L.p.tape, L.p.first, L.p.nums, L.p.banks, L.p.heads, L.p.slots, L.p.given, L.p.planned, L.p.shown, L.p.regs, L.p.bank⟩ rfl L.nd
      refine qR x a v { D with taken := D.taken + 1 } b wd (D.given[D.taken].fmod (D.size : Int)) _ _ _ L1 ((L.tk_w _).seq hS) hb hw hw5 h8 hrow fun H' L2 c2 => q H' ?_ ((Chg.one WV.F_w (L.tk_w _)).trans c2)
      have z : tkD D b wd = { D with regs := tkR D.regs wd b (tkN D), taken := D.taken + 1, row := D.row ++ [.tak (tkN D)] } := by
        unfold tkD
        rw [if_pos e']
      rw [z, ← en]
      exact L2
    · have e : ¬ D.taken < D.given.length := fun z => e (decide_eq_true (by rw [hlg]; omega))
      have en : tkN D = 0 := by
        unfold tkN
        rw [List.drop_eq_nil_of_le (by omega)]
        show (0 : Int) % _ = 0
        exact Int.zero_emod _
      refine qR x a v D b wd 0 _ _ _ L hS hb hw hw5 h8 hrow fun H' L2 c2 => q H' ?_ c2
      have z : tkD D b wd = { D with regs := tkR D.regs wd b 0, row := D.row ++ [.tak 0] } := by
        unfold tkD
        rw [if_neg e, en]
      rw [z]
      exact L2
end
end Hue
namespace Hue
open L2 PySem.Spec PySem PyProof.Rows
/-! ### a cell is done -/
/-- the two tables of actions -/
structure GA (K : PySem.W.Frag) (w : World) (mg : Str → Option Value) (aD aG : Addr) (eD : Array DictEntry) (nD : Nat) (eG : Array DictEntry) (nG : Nat) (fO fE fGe fPu fS fH fU fG fM fT : Addr) : Prop where
  gDOING : mg "DOING" = some (.ref aD)
  dD : KDict K w aD eD nD
  gSETTLING : mg "SETTLING" = some (.ref aG)
  dG : KDict K w aG eG nG
  offer : PySem.W.nsIn K aD "offer" = some (some (.ref fO))
  set : PySem.W.nsIn K aD "set" = some (some (.ref fE))
  get : PySem.W.nsIn K aD "get" = some (some (.ref fGe))
  put : PySem.W.nsIn K aD "put" = some (some (.ref fPu))
  take : PySem.W.nsIn K aG "take" = some (some (.ref fT))
  stop : PySem.W.nsIn K aG "stop" = some (some (.ref fS))
  show_ : PySem.W.nsIn K aG "show" = some (some (.ref fH))
  turn_ : PySem.W.nsIn K aG "turn" = some (some (.ref fU))
  goto_ : PySem.W.nsIn K aG "goto" = some (some (.ref fG))
  mark_ : PySem.W.nsIn K aG "mark" = some (some (.ref fM))
  neD : [fO, fE, fGe, fPu].Nodup
  neG : [fS, fH, fU, fG, fM, fT].Nodup
def selG (K : PySem.W.Frag) (C fS fH fU fG fM fT a : Addr) : Option Sp := if a = fS then some (spDoStop K C) else if a = fH then some (spDoShow K C) else if a = fU then some (spDoTurn K C) else if a = fG then some (spDoGoto K C) else if a = fM then some (spDoMark K C) else if a = fT then some (spDoTake K C) else none
def selD (K : PySem.W.Frag) (C fO fE fGe fPu a : Addr) : Option Sp := if a = fO then some (spDoOffer K C) else if a = fE then some (spDoSet K C) else if a = fGe then some (spDoGet K C) else if a = fPu then some (spDoPut K C) else none
section
variable {K : PySem.W.Frag} {C fS fH fU fG fM fT fO fE fGe fPu : Addr}
theorem selG_fS (n : [fS, fH, fU, fG, fM, fT].Nodup) : selG K C fS fH fU fG fM fT fS = some (spDoStop K C) := if_pos rfl
theorem selG_fH (n : [fS, fH, fU, fG, fM, fT].Nodup) : selG K C fS fH fU fG fM fT fH = some (spDoShow K C) := by
  simp only [List.nodup_cons, List.mem_cons, not_or] at n
  unfold selG
  rw [if_neg (Ne.symm n.1.1), if_pos rfl]
theorem selG_fU (n : [fS, fH, fU, fG, fM, fT].Nodup) : selG K C fS fH fU fG fM fT fU = some (spDoTurn K C) := by
  simp only [List.nodup_cons, List.mem_cons, not_or] at n
  unfold selG
  rw [if_neg (Ne.symm n.1.2.1), if_neg (Ne.symm n.2.1.1), if_pos rfl]
theorem selG_fG (n : [fS, fH, fU, fG, fM, fT].Nodup) : selG K C fS fH fU fG fM fT fG = some (spDoGoto K C) := by
  simp only [List.nodup_cons, List.mem_cons, not_or] at n
  unfold selG
  rw [if_neg (Ne.symm n.1.2.2.1), if_neg (Ne.symm n.2.1.2.1), if_neg (Ne.symm n.2.2.1.1), if_pos rfl]
theorem selG_fM (n : [fS, fH, fU, fG, fM, fT].Nodup) : selG K C fS fH fU fG fM fT fM = some (spDoMark K C) := by
  simp only [List.nodup_cons, List.mem_cons, not_or] at n
  unfold selG
  rw [if_neg (Ne.symm n.1.2.2.2.1), if_neg (Ne.symm n.2.1.2.2.1), if_neg (Ne.symm n.2.2.1.2.1), if_neg (Ne.symm n.2.2.2.1.1), if_pos rfl]
theorem selG_fT (n : [fS, fH, fU, fG, fM, fT].Nodup) : selG K C fS fH fU fG fM fT fT = some (spDoTake K C) := by
  simp only [List.nodup_cons, List.mem_cons, not_or] at n
  unfold selG
  rw [if_neg (Ne.symm n.1.2.2.2.2.1), if_neg (Ne.symm n.2.1.2.2.2.1), if_neg (Ne.symm n.2.2.1.2.2.1), if_neg (Ne.symm n.2.2.2.1.2.1), if_neg (Ne.symm n.2.2.2.2.1.1), if_pos rfl]
theorem selD_fE (n : [fO, fE, fGe, fPu].Nodup) : selD K C fO fE fGe fPu fE = some (spDoSet K C) := by
  simp only [List.nodup_cons, List.mem_cons, not_or] at n
  unfold selD
  rw [if_neg (Ne.symm n.1.1), if_pos rfl]
theorem selD_fGe (n : [fO, fE, fGe, fPu].Nodup) : selD K C fO fE fGe fPu fGe = some (spDoGet K C) := by
  simp only [List.nodup_cons, List.mem_cons, not_or] at n
  unfold selD
  rw [if_neg (Ne.symm n.1.2.1), if_neg (Ne.symm n.2.1.1), if_pos rfl]
theorem selD_fPu (n : [fO, fE, fGe, fPu].Nodup) : selD K C fO fE fGe fPu fPu = some (spDoPut K C) := by
  simp only [List.nodup_cons, List.mem_cons, not_or] at n
  unfold selD
  rw [if_neg (Ne.symm n.1.2.2.1), if_neg (Ne.symm n.2.1.2.1), if_neg (Ne.symm n.2.2.1.1), if_pos rfl]
end
structure DOk (c : Code) (D : WD) : Prop where
  votes : D.votes = c.votes
  size : D.size = c.size
  cells : D.cells = c.cells
  lt : D.tape.length = c.cells.length
  lr : D.regs.length = c.h
  lb : D.banks.length = c.h
  lh : D.heads.length = c.h
  ls : D.slots.length = c.h
  r8 : ∀ r ∈ D.regs, r.length = 8
  bl : ∀ b ∈ D.banks, b.length = c.bank.length
  tp : ∀ z ∈ D.tape, celOk c z ∧ easy z
  pos : ∀ p ∈ D.heads, 0 ≤ p
  rv : ∀ r ∈ D.regs, ∀ n ∈ r, 0 ≤ n ∧ n < D.size
  bv : ∀ b ∈ D.banks, ∀ n ∈ b, 0 ≤ n ∧ n < D.size
def ptD (D : WD) (p : Int) : WD := { D with heads := List.replicate D.heads.length p }
def regD (D : WD) (i b : Nat) : Int := (D.regs.getD i []).getD b 0
/-- what a cell does with the data -/
def cellD (D : WD) (p : Nat) : Cel → WD
  | .ins i (.offer b) => { ptD D ((p : Int) + 1) with slots := D.slots.set i (some (regD D i b)) }
  | .ins i (.set b n) => { ptD D ((p : Int) + 1) with regs := D.regs.set i ((D.regs.getD i []).set b n) }
  | .ins i (.op wd b c d) => { ptD D ((p : Int) + 1) with regs := D.regs.set i ((D.regs.getD i []).set b (wd.val D.size (regD D i c) (regD D i d))) }
  | .ins i (.get b c bs ln) => { ptD D ((p : Int) + 1) with regs := D.regs.set i ((D.regs.getD i []).set b ((D.banks.getD i []).getD (bs + (regD D i c % (ln : Int)).toNat) 0)) }
  | .ins i (.put b c bs ln) => { ptD D ((p : Int) + 1) with banks := D.banks.set i ((D.banks.getD i []).set (bs + (regD D i c % (ln : Int)).toNat) (regD D i b)) }
  | .tak b wd => tkD (ptD D ((p : Int) + 1)) b wd
  | .stp => { ptD D ((p : Int) + 1) with row := D.row ++ [.stp], st := .stopped }
  | .gto g => ptA (ptD D ((p : Int) + 1)) g
  | .shw q wd => if (agS D wd).isSome then shwD (ptD D ((p : Int) + 1)) q wd else D
  | .trn g wd => if (agS D wd).isSome then trnD (ptD D ((p : Int) + 1)) g wd else D
  | .mrk => if (agM D).isSome then mrkD (ptD D ((p : Int) + 1)) else D
def cellB (D : WD) : Cel → Bool
  | .shw _ wd => (agS D wd).isSome
  | .trn _ wd => (agS D wd).isSome
  | .mrk => (agM D).isSome
  | _ => true
def spDoCell (K : PySem.W.Frag) (CW : Addr) : Sp := fun vs H Q _ => ∃ (x : Addr) (v : WV) (D : WD) (c : Code) (p : Nat) (z : Cel), vs = [.ref x, .int p] ∧ WL K CW H x v D ∧ c.Ok ∧ DOk c D ∧ D.tape[p]? = some z ∧ D.row.length + 1 ≤ 16000000 ∧
  ∀ H' v', WL K CW H' x v' (cellD D p z) → Chg (v.F x) H H' (v'.F x) → Q (.bl (cellB D z)) H'
section
variable {P : Program} {w : World} {K : PySem.W.Frag} {mg : Str → Option Value} {base : Heap}
/-- the pointers that stood ahead stand again -/
theorem WL.oldHd {CW : Addr} {H H1 H' : Hp} {x : Addr} {v v1 v' : WV} {D D' : WD} (L : WL K CW H x v D) (c5 : Chg (v.F x) H H1 (v1.F x)) (h1 : H1 v.hd = some (.lst (D.heads.map V.int))) (n1 : ¬ v1.F x v.hd) (L' : WL K CW H' x v' D') (c6 : Chg (v1.F x) H1 H' (v'.F x)) :
    WL K CW (upd H' x (.ins CW v'.dw (wfs { v' with hd := v.hd } { D' with heads := D.heads }))) x { v' with hd := v.hd } { D' with heads := D.heads } ∧ Chg (v.F x) H (upd H' x (.ins CW v'.dw (wfs { v' with hd := v.hd } { D' with heads := D.heads }))) (({ v' with hd := v.hd } : WV).F x) := by
  have h2 : H' v.hd = some (.lst (D.heads.map V.int)) := c6.keep _ _ n1 h1
  have n2 : ¬ v'.F x v.hd := fun z => by
    rcases c6.sub _ z with y | y
    · exact n1 y
    · rw [h1] at y
      cases y
  have n3 : v.hd ∉ v'.list := fun z => n2 (WV.F_l z)
  have p := L'.p
  have hm : v.hd ∈ v.list := by simp [WV.list]
  refine ⟨L'.put ⟨p.votes, p.tape, p.first, p.nums, p.banks, h2, p.slots, p.given, p.planned, p.shown, p.regs, p.bank⟩ rfl ?_, ?_⟩
  · exact nd_swap (A := [v'.nu, v'.bk]) (B := v'.sl :: v'.gv :: v'.pl :: v'.sh :: (v'.rs ++ v'.bs)) L'.nd n3
  · have c := c5.trans c6
    have t : Tk H' (upd H' x (.ins CW v'.dw (wfs { v' with hd := v.hd } { D' with heads := D.heads }))) := L'.tk_w _
    refine ⟨fun b o nb eb => ?_, c.tk.trans t, fun b hb => ?_, fun b o eb => ?_⟩
    · rw [upd_ne fun z => nb (by rw [z]; exact WV.F_w)]
      exact c.keep _ _ nb eb
    · have : b = v.hd ∨ v'.F x b := by
        rcases hb with rfl | rfl | hb
        · exact .inr (.inl rfl)
        · exact .inr (.inr (.inl rfl))
        · simp only [WV.list, List.mem_cons, List.mem_append] at hb
          rcases hb with h | h | h | h | h | h | h | h | h
          all_goals first | exact .inl h | exact .inr (WV.F_l (by simp [WV.list, h]))
      rcases this with rfl | h
      · exact .inl (WV.F_l hm)
      · exact c.sub _ h
    · by_cases z : b = x
      · exact ⟨_, by rw [z]; exact upd_same⟩
      · obtain ⟨u, hu⟩ := c.live b o eb
        exact ⟨u, by rw [upd_ne z]; exact hu⟩
theorem scDoCell : FnScope ["works", "at", "cell", "behind", "before", "action"] ["works", "at"] (defScope sDoCell) := ⟨rfl, rfl, rfl, by decide +kernel, rfl, by decide +kernel, by decide +kernel⟩
theorem ok_doCell {f C f0 fO fE fGe fPu fS fH fU fG fM fT aW aT aI aS aD aG : Addr} {eI eS eD eG : Array DictEntry} {nI nS nD nG : Nat} {fd : FuncData} (F : Fun K "do_cell" "do_cell" sDoCell f fd) (Z : WC K mg C f0) (T : Bt mg) (G0 : GD K w mg aW aT aI aS eI nI eS nS) (G : GA K w mg aD aG eD nD eG nG fO fE fGe fPu fS fH fU fG fM fT)
    (A1 : ∀ f sp, selG K C fS fH fU fG fM fT f = some sp → Held P w K mg base 3 f sp) (A2 : ∀ f sp, selD K C fO fE fGe fPu f = some sp → Held P w K mg base 3 f sp)
    (D1 : Df P w K mg base 3 "is_settle_cell" ["cell"] (spIsSettle K)) (D2 : Df P w K mg base 3 "do_word" ["works", "hue", "cell"] (spDoWord K C)) : FnOk P w K mg base CX0 4 f fd ["works", "at"] (spDoCell K C) := by
  obtain ⟨f1, fd1, Gis_settle_cell, gis_settle_cell, kis_settle_cell, bis_settle_cell⟩ := D1
  obtain ⟨f2, fd2, Gdo_word, gdo_word, kdo_word, bdo_word⟩ := D2
  refine F.ok scDoCell (fun vs H Q E h => ?_) (fun cdv A outer s H vs Q E hr h => ?_)
  · obtain ⟨x, v, D, c, p, z, rfl, _⟩ := h
    rfl
  · have nd := scDoCell.nd
    obtain ⟨x, v, D, c, p, z, rfl, L, cok, dok, hz, hrow, q⟩ := h
    refine ⟨_, pss_cons (ps_set (i := 2) nd rfl (.inl rfl) (pe_ix ix_tup (pe_fld (pv 0) rfl) (pv 1) (fun _ _ => rfl)))
      (pss_cons (ps_set (i := 3) nd rfl (.inl rfl) (pe_op op_rep (pe_lst (pa_cons (pe_op op_add (pv 1) pe_int) pa_nil)) (pe_callB call_len_seq (by rfl) T.len PySem.boot_len (pa_cons (pe_fld (pv 0) rfl) pa_nil))))
      (pss_cons (ps_if (pt_val (pe_call Gis_settle_cell hr rfl gis_settle_cell kis_settle_cell bis_settle_cell .nil pass0 (pa_cons (pv 2) pa_nil)))
      (pss_cons (ps_set (i := 4) nd rfl (.inl rfl) (pe_fld (pv 0) rfl))
        (pss_cons (ps_fld (pv 0) (pv 3) rfl)
        (pss_cons (ps_set (i := 5) nd rfl (.inl rfl) (pe_ix ix_kdict (pe_gref G.gSETTLING rfl) (pe_ix ix_tup (pv 2) pe_int (fun _ _ => rfl)) (fun _ _ => rfl)))
        (pss_cons (ps_if (pt_not (pt_val (pe_callA (i := 5) A1 hr rfl (Or.inl rfl) (pa_cons (pv 0) (pa_cons (pv 2) pa_nil)))))
        (pss_cons (ps_fld (pv 0) (pv 4) rfl)
          (pss_one (ps_ret pe_bl)))
        pss_nil)
        (pss_one (ps_ret pe_bl))))))
      pss_nil)
      (pss_cons (ps_fld (pv 0) (pv 3) rfl)
      (pss_cons (ps_if (pt_cmpR op_in_seq (pe_ix ix_tup (pv 2) pe_int (fun _ _ => rfl)) (pe_gref G0.gWORDS rfl) (by with_unfolding_all rfl))
      (pss_one (ps_expr (pe_call Gdo_word hr rfl gdo_word kdo_word bdo_word .nil pass0 (pa_cons (pv 0) (pa_cons (pe_ix ix_tup (pv 2) pe_int (fun _ _ => rfl)) (pa_cons (pv 2) pa_nil))))))
      (pss_cons (ps_set (i := 5) nd rfl (.inl rfl) (pe_ix ix_kdict (pe_gref G.gDOING rfl) (pe_ix ix_tup (pv 2) pe_int (fun _ _ => rfl)) (fun _ _ => rfl)))
        (pss_one (ps_expr (pe_callA (i := 5) A2 hr rfl (Or.inl rfl) (pa_cons (pv 0) (pa_cons (pe_ix ix_tup (pv 2) pe_int (fun _ _ => rfl)) (pa_cons (pv 2) pa_nil))))))))
      (pss_one (ps_ret pe_bl)))))), ?_⟩
    obtain ⟨zok, ez⟩ := dok.tp z (List.mem_of_getElem? hz)
    obtain ⟨ts, t1, t2⟩ := L.p.tape
    have hp : p < D.tape.length := (List.getElem?_eq_some_iff.mp hz).1
    have hlt : ts.length = D.tape.length := by
      have := dps_len t2
      rw [List.length_map] at this
      exact this
    have htp : ts[p]? = some ts[p] := List.getElem?_eq_getElem (by omega)
    obtain ⟨d, hd1, hd2⟩ := dps_get t2 htp
    rw [List.getElem?_map, hz] at hd1
    cases hd1
    obtain ⟨a, ea, hS⟩ := dp_cel hd2
    have hlh : (D.heads.map V.int).length = c.h := by rw [List.length_map, dok.lh]
    have hh : 1 ≤ c.h ∧ c.h ≤ 5 := ⟨cok.votes.1, cok.votes.2.1⟩
    have hvl : D.votes.length = c.h := by rw [dok.votes]; rfl
    obtain ⟨b1, b2, b3⟩ := few_rep hh.2
    refine ⟨_, rfl, x, C, v.dw, _, _, rfl, L.ins, Z.cls, Z.n_tape, wl_tape v D, _, rfl, v.tp, _, _, _, rfl, rfl, t1, atI_nat htp, ?_⟩
    rw [ea]
    refine ⟨_, rfl, _, _, rfl, rfl, (by show 1 ≤ sizeLine; decide), fun q3 hq3 => ?_⟩
    have s3 := same_new (o := .lst [V.int ((p : Int) + 1)]) hq3
    have L3 := L.same s3
    refine ⟨_, rfl, x, C, v.dw, _, _, rfl, L3.ins, Z.cls, Z.n_heads, wl_heads v D, v.hd, _, rfl, .inl (SqL.of L3.p.heads), q3, _, [.int ((p : Int) + 1)], rfl, rfl, upd_same, by rw [hlh]; exact b1, by rw [hlh]; exact b2, by rw [hlh]; exact b3 _, fun q4 hq4 => ?_⟩
    rw [hlh, Int.toNat_natCast, List.flatten_replicate_singleton]
    have s4 := same_new (o := .lst (List.replicate c.h (V.int ((p : Int) + 1)))) hq4
    have s34 := s3.trans s4
    have h4 : (upd (upd H q3 (.lst [V.int ((p : Int) + 1)])) q4 (.lst (List.replicate c.h (V.int ((p : Int) + 1))))) q4 = some (.lst ((List.replicate c.h ((p : Int) + 1)).map V.int)) := by
      rw [List.map_replicate]
      exact upd_same
    have hq4' : H q4 = none := s3.free hq4
    generalize hH4 : upd (upd H q3 (.lst [V.int ((p : Int) + 1)])) q4 (.lst (List.replicate c.h (V.int ((p : Int) + 1)))) = H4 at *
    have L4 := L.same s34
    have hS4 := (Tk.same s34).seq hS
    have e0 : List.replicate c.h ((p : Int) + 1) = (ptD D ((p : Int) + 1)).heads := by
      show _ = List.replicate D.heads.length ((p : Int) + 1)
      rw [dok.lh]
    rw [e0] at h4
    obtain ⟨L5, c5⟩ := L.newHd (H1 := H4) hq4' h4 s34
    have ep : putF "heads" (V.ref q4) (wfs v D) = wfs { v with hd := q4 } (ptD D ((p : Int) + 1)) := wp_heads v D q4
    have L5 : WL K C _ x { v with hd := q4 } (ptD D ((p : Int) + 1)) := L5
    have hls5 : (ptD D ((p : Int) + 1)).slots.length = (ptD D ((p : Int) + 1)).votes.length := dok.ls.trans hvl.symm
    have hv5 : (ptD D ((p : Int) + 1)).votes.length ≤ 5 := by
      show D.votes.length ≤ 5
      omega
    have h5d : ∀ W : Hp, W = upd H4 x (.ins C v.dw (wfs { v with hd := q4 } (ptD D ((p : Int) + 1)))) → W v.hd = some (.lst (D.heads.map V.int)) ∧ ¬ ({ v with hd := q4 } : WV).F x v.hd := fun W hW => by
      have hm : v.hd ∈ v.list := by simp [WV.list]
      obtain ⟨nx, ndw⟩ := L.new_w hm
      refine ⟨by rw [hW, upd_ne nx]; exact L4.p.heads, fun z => ?_⟩
      rcases z with z | z | z
      · exact nx z
      · exact ndw z
      · have nq : v.hd ≠ q4 := ne_of_none L.p.heads hq4'
        have y := L.nd
        unfold WV.list at y z
        simp only [List.nodup_cons, List.mem_cons, List.mem_append, not_or, List.nodup_append] at y z
        obtain ⟨⟨b2, b3, b4, b5, b6, b7, b8, b9⟩, ⟨c3, c4, c5, c6, c7, c8, c9⟩, ⟨d4, d5, d6, d7, d8, d9⟩, _⟩ := y
        rcases z with z | z | z | z | z | z | z | z | z
        · exact b3 z.symm
        · exact c3 z.symm
        · exact nq z
        · exact d4 z
        · exact d5 z
        · exact d6 z
        · exact d7 z
        · exact d8 z
        · exact d9 z
    have h5e := h5d _ rfl
    cases z with
    | shw qq wd =>
      obtain ⟨_, hw1, hw2⟩ : qq ≤ 5 ∧ 1 ≤ wd ∧ wd ≤ c.h := zok
      refine ⟨_, rfl, a, _, _, rfl, hS4, .inl ⟨_, rfl, _, rfl, iteT ?_⟩⟩
      refine ⟨_, rfl, x, C, v.dw, _, _, rfl, L4.ins, Z.cls, Z.n_heads, wl_heads v D, ?_⟩
      refine ⟨_, rfl, _, rfl, x, C, v.dw, _, rfl, L4.ins, Z.cls, Z.n_heads, wl_len v D, ?_⟩
      rw [ep]
      have hS5 := c5.tk.seq hS
      refine ⟨_, rfl, a, _, 0, _, rfl, rfl, hS5, at_of (j := 0) rfl rfl, aG, _, .ref fH, rfl, rfl, ⟨eG, nG, _, G.dG.at_, G.dG.lit, G.show_, rfl⟩, ?_⟩
      refine ⟨fH, spDoShow K C, rfl, selG_fH G.neG, _, rfl, _, rfl, ?_⟩
      refine ⟨x, a, { v with hd := q4 }, (ptD D ((p : Int) + 1)), qq, wd, rfl, L5, hS5, hv5, hw1, by show wd ≤ D.votes.length; omega, hls5, hrow, fun H' v' L6 c6 => ?_⟩
      have e6 : agS (ptD D ((p : Int) + 1)) wd = agS D wd := rfl
      rw [e6]
      cases hb : agS D wd with
      | none =>
        have hb' : agS (ptD D ((p : Int) + 1)) wd = none := hb
        refine ⟨_, rfl, iteT ?_⟩
        rw [show shwD (ptD D ((p : Int) + 1)) qq wd = (ptD D ((p : Int) + 1)) by unfold shwD; rw [hb']] at L6
        obtain ⟨L7, c7⟩ := L.oldHd c5 h5e.1 h5e.2 L6 c6
        refine ⟨_, rfl, _, rfl, x, C, v'.dw, _, rfl, L6.ins, Z.cls, Z.n_heads, wl_len _ _, ?_⟩
        rw [wp_heads]
        have e : cellB D (.shw qq wd) = false := by
          show (agS D wd).isSome = false
          rw [hb]
          rfl
        have e2 : cellD D p (.shw qq wd) = D := by
          show (if (agS D wd).isSome = true then _ else D) = D
          rw [hb]
          rfl
        rw [e, e2] at q
        exact q _ _ L7 c7
      | some n =>
        refine ⟨_, rfl, iteF ?_⟩
        have e : cellB D (.shw qq wd) = true := by
          show (agS D wd).isSome = true
          rw [hb]
          rfl
        have e2 : cellD D p (.shw qq wd) = shwD (ptD D ((p : Int) + 1)) qq wd := by
          show (if (agS D wd).isSome = true then _ else D) = _
          rw [hb]
          rfl
        rw [e, e2] at q
        exact q _ _ L6 (c5.trans c6)
    | trn g wd =>
      obtain ⟨_, hw1, hw2⟩ : g < c.cells.length ∧ 1 ≤ wd ∧ wd ≤ c.h := zok
      refine ⟨_, rfl, a, _, _, rfl, hS4, .inl ⟨_, rfl, _, rfl, iteT ?_⟩⟩
      refine ⟨_, rfl, x, C, v.dw, _, _, rfl, L4.ins, Z.cls, Z.n_heads, wl_heads v D, ?_⟩
      refine ⟨_, rfl, _, rfl, x, C, v.dw, _, rfl, L4.ins, Z.cls, Z.n_heads, wl_len v D, ?_⟩
      rw [ep]
      have hS5 := c5.tk.seq hS
      refine ⟨_, rfl, a, _, 0, _, rfl, rfl, hS5, at_of (j := 0) rfl rfl, aG, _, .ref fU, rfl, rfl, ⟨eG, nG, _, G.dG.at_, G.dG.lit, G.turn_, rfl⟩, ?_⟩
      refine ⟨fU, spDoTurn K C, rfl, selG_fU G.neG, _, rfl, _, rfl, ?_⟩
      refine ⟨x, a, { v with hd := q4 }, (ptD D ((p : Int) + 1)), g, wd, rfl, L5, hS5, hv5, hw1, by show wd ≤ D.votes.length; omega, hls5, fun H' v' L6 c6 => ?_⟩
      have e6 : agS (ptD D ((p : Int) + 1)) wd = agS D wd := rfl
      rw [e6]
      cases hb : agS D wd with
      | none =>
        have hb' : agS (ptD D ((p : Int) + 1)) wd = none := hb
        refine ⟨_, rfl, iteT ?_⟩
        rw [show trnD (ptD D ((p : Int) + 1)) g wd = (ptD D ((p : Int) + 1)) by unfold trnD; rw [hb']] at L6
        obtain ⟨L7, c7⟩ := L.oldHd c5 h5e.1 h5e.2 L6 c6
        refine ⟨_, rfl, _, rfl, x, C, v'.dw, _, rfl, L6.ins, Z.cls, Z.n_heads, wl_len _ _, ?_⟩
        rw [wp_heads]
        have e : cellB D (.trn g wd) = false := by
          show (agS D wd).isSome = false
          rw [hb]
          rfl
        have e2 : cellD D p (.trn g wd) = D := by
          show (if (agS D wd).isSome = true then _ else D) = D
          rw [hb]
          rfl
        rw [e, e2] at q
        exact q _ _ L7 c7
      | some n =>
        refine ⟨_, rfl, iteF ?_⟩
        have e : cellB D (.trn g wd) = true := by
          show (agS D wd).isSome = true
          rw [hb]
          rfl
        have e2 : cellD D p (.trn g wd) = trnD (ptD D ((p : Int) + 1)) g wd := by
          show (if (agS D wd).isSome = true then _ else D) = _
          rw [hb]
          rfl
        rw [e, e2] at q
        exact q _ _ L6 (c5.trans c6)
    | mrk =>
      refine ⟨_, rfl, a, _, _, rfl, hS4, .inl ⟨_, rfl, _, rfl, iteT ?_⟩⟩
      refine ⟨_, rfl, x, C, v.dw, _, _, rfl, L4.ins, Z.cls, Z.n_heads, wl_heads v D, ?_⟩
      refine ⟨_, rfl, _, rfl, x, C, v.dw, _, rfl, L4.ins, Z.cls, Z.n_heads, wl_len v D, ?_⟩
      rw [ep]
      have hS5 := c5.tk.seq hS
      refine ⟨_, rfl, a, _, 0, _, rfl, rfl, hS5, at_of (j := 0) rfl rfl, aG, _, .ref fM, rfl, rfl, ⟨eG, nG, _, G.dG.at_, G.dG.lit, G.mark_, rfl⟩, ?_⟩
      refine ⟨fM, spDoMark K C, rfl, selG_fM G.neG, _, rfl, _, rfl, ?_⟩
      refine ⟨x, a, { v with hd := q4 }, (ptD D ((p : Int) + 1)), rfl, L5, hv5, by show 1 ≤ D.votes.length; omega, by show D.regs.length = D.votes.length; rw [dok.lr, hvl], by show D.banks.length = D.votes.length; rw [dok.lb, hvl], fun H' v' L6 c6 => ?_⟩
      have e6 : agM (ptD D ((p : Int) + 1)) = agM D := rfl
      rw [e6]
      cases hb : agM D with
      | none =>
        have hb' : agM (ptD D ((p : Int) + 1)) = none := hb
        refine ⟨_, rfl, iteT ?_⟩
        rw [show mrkD (ptD D ((p : Int) + 1)) = (ptD D ((p : Int) + 1)) by unfold mrkD; rw [hb']] at L6
        obtain ⟨L7, c7⟩ := L.oldHd c5 h5e.1 h5e.2 L6 c6
        refine ⟨_, rfl, _, rfl, x, C, v'.dw, _, rfl, L6.ins, Z.cls, Z.n_heads, wl_len _ _, ?_⟩
        rw [wp_heads]
        have e : cellB D .mrk = false := by
          show (agM D).isSome = false
          rw [hb]
          rfl
        have e2 : cellD D p .mrk = D := by
          show (if (agM D).isSome = true then _ else D) = D
          rw [hb]
          rfl
        rw [e, e2] at q
        exact q _ _ L7 c7
      | some n =>
        refine ⟨_, rfl, iteF ?_⟩
        have e : cellB D .mrk = true := by
          show (agM D).isSome = true
          rw [hb]
          rfl
        have e2 : cellD D p .mrk = mrkD (ptD D ((p : Int) + 1)) := by
          show (if (agM D).isSome = true then _ else D) = _
          rw [hb]
          rfl
        rw [e, e2] at q
        exact q _ _ L6 (c5.trans c6)
    | gto g =>
      refine ⟨_, rfl, a, _, _, rfl, hS4, .inl ⟨_, rfl, _, rfl, iteT ?_⟩⟩
      refine ⟨_, rfl, x, C, v.dw, _, _, rfl, L4.ins, Z.cls, Z.n_heads, wl_heads v D, ?_⟩
      refine ⟨_, rfl, _, rfl, x, C, v.dw, _, rfl, L4.ins, Z.cls, Z.n_heads, wl_len v D, ?_⟩
      rw [ep]
      have hS5 := c5.tk.seq hS
      refine ⟨_, rfl, a, _, 0, _, rfl, rfl, hS5, at_of (j := 0) rfl rfl, aG, _, .ref fG, rfl, rfl, ⟨eG, nG, _, G.dG.at_, G.dG.lit, G.goto_, rfl⟩, ?_⟩
      refine ⟨fG, spDoGoto K C, rfl, selG_fG G.neG, _, rfl, _, rfl, ?_⟩
      refine ⟨x, a, { v with hd := q4 }, (ptD D ((p : Int) + 1)), g, rfl, L5, hS5, hv5, fun H' v' L6 c6 => ⟨_, rfl, iteF ?_⟩⟩
      exact q _ _ L6 (c5.trans c6)
    | stp =>
      refine ⟨_, rfl, a, _, _, rfl, hS4, .inl ⟨_, rfl, _, rfl, iteT ?_⟩⟩
      refine ⟨_, rfl, x, C, v.dw, _, _, rfl, L4.ins, Z.cls, Z.n_heads, wl_heads v D, ?_⟩
      refine ⟨_, rfl, _, rfl, x, C, v.dw, _, rfl, L4.ins, Z.cls, Z.n_heads, wl_len v D, ?_⟩
      rw [ep]
      have hS5 := c5.tk.seq hS
      refine ⟨_, rfl, a, _, 0, _, rfl, rfl, hS5, at_of (j := 0) rfl rfl, aG, _, .ref fS, rfl, rfl, ⟨eG, nG, _, G.dG.at_, G.dG.lit, G.stop, rfl⟩, ?_⟩
      refine ⟨fS, spDoStop K C, rfl, selG_fS G.neG, _, rfl, _, rfl, ?_⟩
      refine ⟨x, a, { v with hd := q4 }, (ptD D ((p : Int) + 1)), rfl, L5, hrow, fun H' L6 c6 => ⟨_, rfl, iteF ?_⟩⟩
      exact q _ _ L6 (c5.trans c6)
    | ins i k =>
      cases k with
      | offer b =>
        obtain ⟨hi, hb⟩ : i < c.h ∧ b < 8 := zok
        have hri : i < D.regs.length := by rw [dok.lr]; exact hi
        have hrb : b < D.regs[i].length := by rw [dok.r8 _ (List.getElem_mem hri)]; exact hb
        have er : D.regs[i][b] = regD D i b := by
          unfold regD
          rw [List.getD_eq_getElem?_getD, List.getD_eq_getElem?_getD, List.getElem?_eq_getElem hri]
          show _ = (D.regs[i][b]?).getD 0
          rw [List.getElem?_eq_getElem hrb]
          rfl
        refine ⟨_, rfl, a, _, _, rfl, hS4, .inr ⟨_, rfl, _, rfl, iteF ?_⟩⟩
        refine ⟨_, rfl, _, rfl, x, C, v.dw, _, rfl, L4.ins, Z.cls, Z.n_heads, wl_len v D, ?_⟩
        rw [ep]
        have hS5 := c5.tk.seq hS
        refine ⟨_, rfl, a, _, 1, _, rfl, rfl, hS5, at_of (j := 1) rfl rfl, aW, _, rfl, .inr (G0.words _), rfl, rfl, false, congrArg V.bl (by decide +kernel), iteF ?_⟩
        refine ⟨_, rfl, a, _, 1, _, rfl, rfl, hS5, at_of (j := 1) rfl rfl, aD, _, .ref fO, rfl, rfl, ⟨eD, nD, _, G.dD.at_, G.dD.lit, G.offer, rfl⟩, ?_⟩
        refine ⟨fO, spDoOffer K C, rfl, if_pos rfl, _, rfl, _, rfl, a, _, 0, _, rfl, rfl, hS5, at_of (j := 0) rfl rfl, _, rfl, ?_⟩
        refine ⟨x, a, { v with hd := q4 }, ptD D ((p : Int) + 1), i, b, D.regs[i], D.regs[i][b], rfl, L5, hS5, List.getElem?_eq_getElem hri, List.getElem?_eq_getElem hrb, by show i < D.slots.length; rw [dok.ls]; exact hi, fun H' L6 c6 => ?_⟩
        rw [er] at L6
        exact q _ _ L6 (c5.trans c6)
      | set b n =>
        obtain ⟨hi, hb, hn⟩ : i < c.h ∧ b < 8 ∧ 0 ≤ n ∧ n < c.size := zok
        have hri : i < D.regs.length := by rw [dok.lr]; exact hi
        have hrb : b < D.regs[i].length := by rw [dok.r8 _ (List.getElem_mem hri)]; exact hb
        have er : D.regs.getD i [] = D.regs[i] := by
          rw [List.getD_eq_getElem?_getD, List.getElem?_eq_getElem hri]
          rfl
        refine ⟨_, rfl, a, _, _, rfl, hS4, .inr ⟨_, rfl, _, rfl, iteF ?_⟩⟩
        refine ⟨_, rfl, _, rfl, x, C, v.dw, _, rfl, L4.ins, Z.cls, Z.n_heads, wl_len v D, ?_⟩
        rw [ep]
        have hS5 := c5.tk.seq hS
        refine ⟨_, rfl, a, _, 1, _, rfl, rfl, hS5, at_of (j := 1) rfl rfl, aW, _, rfl, .inr (G0.words _), rfl, rfl, false, congrArg V.bl (by decide +kernel), iteF ?_⟩
        refine ⟨_, rfl, a, _, 1, _, rfl, rfl, hS5, at_of (j := 1) rfl rfl, aD, _, .ref fE, rfl, rfl, ⟨eD, nD, _, G.dD.at_, G.dD.lit, G.set, rfl⟩, ?_⟩
        refine ⟨fE, spDoSet K C, rfl, selD_fE G.neD, _, rfl, _, rfl, a, _, 0, _, rfl, rfl, hS5, at_of (j := 0) rfl rfl, _, rfl, ?_⟩
        refine ⟨x, a, { v with hd := q4 }, ptD D ((p : Int) + 1), i, b, D.regs[i], n, rfl, L5, hS5, List.getElem?_eq_getElem hri, hrb, fun H' L6 c6 => ?_⟩
        refine q _ _ ?_ (c5.trans c6)
        show WL K C H' x { v with hd := q4 } { ptD D ((p : Int) + 1) with regs := D.regs.set i ((D.regs.getD i []).set b n) }
        rw [er]
        exact L6
      | op wd b c0 d =>
        obtain ⟨hi, hb, hc, hd⟩ : i < c.h ∧ b < 8 ∧ c0 < 8 ∧ d < 8 := zok
        have hri : i < D.regs.length := by rw [dok.lr]; exact hi
        have h8 : D.regs[i].length = 8 := dok.r8 _ (List.getElem_mem hri)
        have er : D.regs.getD i [] = D.regs[i] := by
          rw [List.getD_eq_getElem?_getD, List.getElem?_eq_getElem hri]
          rfl
        have hrv := dok.rv _ (List.getElem_mem hri)
        have rg0 : ∀ k, k < 8 → D.regs[i][k]? = some (regD D i k) ∧ 0 ≤ regD D i k ∧ regD D i k < D.size := fun k hk => by
          have hkl : k < D.regs[i].length := by rw [h8]; exact hk
          have e1 : regD D i k = D.regs[i][k] := by
            unfold regD
            rw [er, List.getD_eq_getElem?_getD, List.getElem?_eq_getElem hkl]
            rfl
          refine ⟨by rw [e1]; exact List.getElem?_eq_getElem hkl, ?_⟩
          rw [e1]
          exact hrv _ (List.getElem_mem hkl)
        refine ⟨_, rfl, a, _, _, rfl, hS4, .inr ⟨_, rfl, _, rfl, iteF ?_⟩⟩
        refine ⟨_, rfl, _, rfl, x, C, v.dw, _, rfl, L4.ins, Z.cls, Z.n_heads, wl_len v D, ?_⟩
        rw [ep]
        have hS5 := c5.tk.seq hS
        refine ⟨_, rfl, a, _, 1, _, rfl, rfl, hS5, at_of (j := 1) rfl rfl, aW, _, rfl, .inr (G0.words _), rfl, rfl, true, congrArg V.bl (by cases wd <;> decide +kernel), iteT ?_⟩
        refine ⟨_, rfl, _, rfl, a, _, 0, _, rfl, rfl, hS5, at_of (j := 0) rfl rfl, _, rfl, ?_⟩
        obtain ⟨s1, s2, s3⟩ := rg0 c0 hc
        obtain ⟨t1', t2', t3'⟩ := rg0 d hd
        refine ⟨x, a, { v with hd := q4 }, ptD D ((p : Int) + 1), i, b, c0, d, wd, D.regs[i], regD D i c0, regD D i d, rfl, L5, hS5, List.getElem?_eq_getElem hri, by rw [h8]; exact hb, s1, t1', by show 0 < D.size; rw [dok.size]; have := cok.size.1; omega, by show D.size ≤ 10000; rw [dok.size]; exact cok.size.2, s2, s3, t2', t3', fun H' L6 c6 => ?_⟩
        refine q _ _ ?_ (c5.trans c6)
        show WL K C H' x { v with hd := q4 } { ptD D ((p : Int) + 1) with regs := D.regs.set i ((D.regs.getD i []).set b (wd.val D.size (regD D i c0) (regD D i d))) }
        rw [er]
        exact L6
      | get b c0 bs ln =>
        obtain ⟨hi, hb, hc, hl1, hl2⟩ : i < c.h ∧ b < 8 ∧ c0 < 8 ∧ 1 ≤ ln ∧ bs + ln ≤ c.bank.length := zok
        have hri : i < D.regs.length := by rw [dok.lr]; exact hi
        have h8 : D.regs[i].length = 8 := dok.r8 _ (List.getElem_mem hri)
        have er : D.regs.getD i [] = D.regs[i] := by
          rw [List.getD_eq_getElem?_getD, List.getElem?_eq_getElem hri]
          rfl
        have hrv := dok.rv _ (List.getElem_mem hri)
        have rg0 : ∀ k, k < 8 → D.regs[i][k]? = some (regD D i k) ∧ 0 ≤ regD D i k ∧ regD D i k < D.size := fun k hk => by
          have hkl : k < D.regs[i].length := by rw [h8]; exact hk
          have e1 : regD D i k = D.regs[i][k] := by
            unfold regD
            rw [er, List.getD_eq_getElem?_getD, List.getElem?_eq_getElem hkl]
            rfl
          refine ⟨by rw [e1]; exact List.getElem?_eq_getElem hkl, ?_⟩
          rw [e1]
          exact hrv _ (List.getElem_mem hkl)
        have hbi : i < D.banks.length := by rw [dok.lb]; exact hi
        have hbl : D.banks[i].length = c.bank.length := dok.bl _ (List.getElem_mem hbi)
        have eb : D.banks.getD i [] = D.banks[i] := by
          rw [List.getD_eq_getElem?_getD, List.getElem?_eq_getElem hbi]
          rfl
        have hln : 0 < ln := by omega
        have hmod1 := Int.emod_nonneg (regD D i c0) (show (ln : Int) ≠ 0 by omega)
        have hmod2 := Int.emod_lt_of_pos (regD D i c0) (show (0 : Int) < ln by omega)
        have hix : bs + (regD D i c0 % (ln : Int)).toNat < D.banks[i].length := by
          rw [hbl]
          omega
        refine ⟨_, rfl, a, _, _, rfl, hS4, .inr ⟨_, rfl, _, rfl, iteF ?_⟩⟩
        refine ⟨_, rfl, _, rfl, x, C, v.dw, _, rfl, L4.ins, Z.cls, Z.n_heads, wl_len v D, ?_⟩
        rw [ep]
        have hS5 := c5.tk.seq hS
        refine ⟨_, rfl, a, _, 1, _, rfl, rfl, hS5, at_of (j := 1) rfl rfl, aW, _, rfl, .inr (G0.words _), rfl, rfl, false, congrArg V.bl (by decide +kernel), iteF ?_⟩
        refine ⟨_, rfl, a, _, 1, _, rfl, rfl, hS5, at_of (j := 1) rfl rfl, aD, _, .ref fGe, rfl, rfl, ⟨eD, nD, _, G.dD.at_, G.dD.lit, G.get, rfl⟩, ?_⟩
        refine ⟨fGe, spDoGet K C, rfl, selD_fGe G.neD, _, rfl, _, rfl, a, _, 0, _, rfl, rfl, hS5, at_of (j := 0) rfl rfl, _, rfl, ?_⟩
        obtain ⟨s1, s2, s3⟩ := rg0 c0 hc
        refine ⟨x, a, { v with hd := q4 }, ptD D ((p : Int) + 1), i, b, c0, bs, ln, D.regs[i], D.banks[i], regD D i c0, _, rfl, L5, hS5, List.getElem?_eq_getElem hri, List.getElem?_eq_getElem hbi, by rw [h8]; exact hb, s1, hln, List.getElem?_eq_getElem hix, fun H' L6 c6 => ?_⟩
        refine q _ _ ?_ (c5.trans c6)
        show WL K C H' x { v with hd := q4 } { ptD D ((p : Int) + 1) with regs := D.regs.set i ((D.regs.getD i []).set b ((D.banks.getD i []).getD (bs + (regD D i c0 % (ln : Int)).toNat) 0)) }
        have eg : D.banks[i].getD (bs + (regD D i c0 % (ln : Int)).toNat) 0 = D.banks[i][bs + (regD D i c0 % (ln : Int)).toNat] := by
          rw [List.getD_eq_getElem?_getD, List.getElem?_eq_getElem hix]
          rfl
        rw [er, eb, eg]
        exact L6
      | put b c0 bs ln =>
        obtain ⟨hi, hb, hc, hl1, hl2⟩ : i < c.h ∧ b < 8 ∧ c0 < 8 ∧ 1 ≤ ln ∧ bs + ln ≤ c.bank.length := zok
        have hri : i < D.regs.length := by rw [dok.lr]; exact hi
        have h8 : D.regs[i].length = 8 := dok.r8 _ (List.getElem_mem hri)
        have er : D.regs.getD i [] = D.regs[i] := by
          rw [List.getD_eq_getElem?_getD, List.getElem?_eq_getElem hri]
          rfl
        have hrv := dok.rv _ (List.getElem_mem hri)
        have rg0 : ∀ k, k < 8 → D.regs[i][k]? = some (regD D i k) ∧ 0 ≤ regD D i k ∧ regD D i k < D.size := fun k hk => by
          have hkl : k < D.regs[i].length := by rw [h8]; exact hk
          have e1 : regD D i k = D.regs[i][k] := by
            unfold regD
            rw [er, List.getD_eq_getElem?_getD, List.getElem?_eq_getElem hkl]
            rfl
          refine ⟨by rw [e1]; exact List.getElem?_eq_getElem hkl, ?_⟩
          rw [e1]
          exact hrv _ (List.getElem_mem hkl)
        have hbi : i < D.banks.length := by rw [dok.lb]; exact hi
        have hbl : D.banks[i].length = c.bank.length := dok.bl _ (List.getElem_mem hbi)
        have eb : D.banks.getD i [] = D.banks[i] := by
          rw [List.getD_eq_getElem?_getD, List.getElem?_eq_getElem hbi]
          rfl
        have hln : 0 < ln := by omega
        have hmod1 := Int.emod_nonneg (regD D i c0) (show (ln : Int) ≠ 0 by omega)
        have hmod2 := Int.emod_lt_of_pos (regD D i c0) (show (0 : Int) < ln by omega)
        have hix : bs + (regD D i c0 % (ln : Int)).toNat < D.banks[i].length := by
          rw [hbl]
          omega
        refine ⟨_, rfl, a, _, _, rfl, hS4, .inr ⟨_, rfl, _, rfl, iteF ?_⟩⟩
        refine ⟨_, rfl, _, rfl, x, C, v.dw, _, rfl, L4.ins, Z.cls, Z.n_heads, wl_len v D, ?_⟩
        rw [ep]
        have hS5 := c5.tk.seq hS
        refine ⟨_, rfl, a, _, 1, _, rfl, rfl, hS5, at_of (j := 1) rfl rfl, aW, _, rfl, .inr (G0.words _), rfl, rfl, false, congrArg V.bl (by decide +kernel), iteF ?_⟩
        refine ⟨_, rfl, a, _, 1, _, rfl, rfl, hS5, at_of (j := 1) rfl rfl, aD, _, .ref fPu, rfl, rfl, ⟨eD, nD, _, G.dD.at_, G.dD.lit, G.put, rfl⟩, ?_⟩
        refine ⟨fPu, spDoPut K C, rfl, selD_fPu G.neD, _, rfl, _, rfl, a, _, 0, _, rfl, rfl, hS5, at_of (j := 0) rfl rfl, _, rfl, ?_⟩
        obtain ⟨s1, s2, s3⟩ := rg0 c0 hc
        refine ⟨x, a, { v with hd := q4 }, ptD D ((p : Int) + 1), i, b, c0, bs, ln, D.regs[i], D.banks[i], regD D i c0, regD D i b, rfl, L5, hS5, List.getElem?_eq_getElem hri, List.getElem?_eq_getElem hbi, (rg0 b hb).1, s1, hln, hix, fun H' L6 c6 => ?_⟩
        refine q _ _ ?_ (c5.trans c6)
        show WL K C H' x { v with hd := q4 } { ptD D ((p : Int) + 1) with banks := D.banks.set i ((D.banks.getD i []).set (bs + (regD D i c0 % (ln : Int)).toNat) (regD D i b)) }
        rw [eb]
        exact L6
    | tak b wd =>
      obtain ⟨hb, hw1, hw2⟩ : b < 8 ∧ 1 ≤ wd ∧ wd ≤ c.h := zok
      refine ⟨_, rfl, a, _, _, rfl, hS4, .inl ⟨_, rfl, _, rfl, iteT ?_⟩⟩
      refine ⟨_, rfl, x, C, v.dw, _, _, rfl, L4.ins, Z.cls, Z.n_heads, wl_heads v D, ?_⟩
      refine ⟨_, rfl, _, rfl, x, C, v.dw, _, rfl, L4.ins, Z.cls, Z.n_heads, wl_len v D, ?_⟩
      rw [ep]
      have hS5 := c5.tk.seq hS
      refine ⟨_, rfl, a, _, 0, _, rfl, rfl, hS5, at_of (j := 0) rfl rfl, aG, _, .ref fT, rfl, rfl, ⟨eG, nG, _, G.dG.at_, G.dG.lit, G.take, rfl⟩, ?_⟩
      refine ⟨fT, spDoTake K C, rfl, selG_fT G.neG, _, rfl, _, rfl, ?_⟩
      refine ⟨x, a, { v with hd := q4 }, ptD D ((p : Int) + 1), b, wd, rfl, L5, hS5, hb, by show wd ≤ D.regs.length; rw [dok.lr]; exact hw2, by omega, dok.r8, by show 2 ≤ D.size; rw [dok.size]; exact cok.size.1, by show D.size ≤ 10000; rw [dok.size]; exact cok.size.2, hrow, fun H' L6 c6 => ⟨_, rfl, iteF ?_⟩⟩
      exact q _ _ L6 (c5.trans c6)
end
end Hue
namespace Hue
open L2 PySem.Spec PySem PyProof.Rows
/-! ### one thing is set -/
def strD (D : WD) (i : Nat) : Plc → Nw → WD
  | .reg k, .num n => { D with regs := D.regs.set i ((D.regs.getD i []).set k n) }
  | .cel a, .num n => { D with banks := D.banks.set i ((D.banks.getD i []).set a n) }
  | .ptr, .num n => { D with heads := D.heads.set i n }
  | .slot, .num n => { D with slots := D.slots.set i (some n) }
  | .slot, .non => { D with slots := D.slots.set i none }
  | .code a, .ins k => { D with tape := D.tape.set a (.ins i k) }
  | _, _ => D
def spDoStrike (K : PySem.W.Frag) (CW : Addr) : Sp := fun vs H Q _ => ∃ (x : Addr) (vp vn : V) (v : WV) (D : WD) (c : Code) (i : Nat) (p : Plc) (nw : Nw), vs = [.ref x, .int i, vp, vn] ∧ WL K CW H x v D ∧ Dp K H vp (plcD p) ∧ Dp K H vn (nwD i nw) ∧ DOk c D ∧ i < c.h ∧ c.cells.length ≤ 4000 ∧ nwOk c i p nw ∧
  ∀ H' v', WL K CW H' x v' (strD D i p nw) → Chg (v.F x) H H' (v'.F x) → Q .non H'
theorem catW {K : PySem.W.Frag} {a b : Addr} {xs ys : List V} {H : Hp} {Q : VK} (ha : SqT K H a xs) (hb : SqT K H b ys) (hl : xs.length + ys.length ≤ sizeLine) (q : ∀ p H', Same H H' → SqT K H' p (xs ++ ys) → Q (.ref p) H') : rCatA K (.ref a) (.ref b) H Q := by
  refine ⟨a, b, xs, ys, rfl, rfl, ha, hb, hl, fun e => ?_, fun _ e => ?_, fun _ _ p hp => q p _ (same_new hp) (.inl (.inl upd_same))⟩
  · subst e
    exact q b H (fun _ _ z => z) hb
  · subst e
    exact q a H (fun _ _ z => z) (by rw [List.append_nil]; exact ha)
theorem sl_any {K : PySem.W.Frag} {a : Addr} {xs : List V} {lo hi : Option Int} {H : Hp} {Q : VK} (ha : SqT K H a xs) (q : ∀ p H', Same H H' → SqT K H' p (cutV xs lo hi) → Q (.ref p) H') : rSlA K (.ref a) lo hi H Q := by
  refine ⟨a, xs, rfl, ha, fun e => q a H (fun _ _ z => z) ?_, fun _ p hp => q p _ (same_new hp) (.inl (.inl upd_same))⟩
  unfold cutV
  rw [e.1, e.2, List.drop_zero, Nat.sub_zero, List.take_length]
  exact ha
theorem cut_take (xs : List V) {k : Nat} (h : k ≤ xs.length) : cutV xs none (some (k : Int)) = xs.take k := by
  unfold cutV
  rw [HT.sIx_none, show HT.sIx xs.length xs.length (some (k : Int)) = min k xs.length from HT.sIx_nat xs.length xs.length k]
  rw [List.drop_zero, Nat.sub_zero, Nat.min_eq_left h]
theorem cut_drop (xs : List V) {k : Nat} (h : k ≤ xs.length) : cutV xs (some (k : Int)) none = xs.drop k := by
  unfold cutV
  rw [HT.sIx_none, show HT.sIx xs.length 0 (some (k : Int)) = min k xs.length from HT.sIx_nat xs.length 0 k]
  rw [Nat.min_eq_left h]
  refine List.take_of_length_le ?_
  rw [List.length_drop]
  exact Nat.le_refl _
theorem set_cut (xs : List V) {k : Nat} (h : k < xs.length) (v : V) : xs.take k ++ [v] ++ xs.drop (k + 1) = xs.set k v := by
  rw [List.set_eq_take_append_cons_drop, if_pos h, List.append_assoc]
  rfl
section
variable {P : Program} {w : World} {K : PySem.W.Frag} {mg : Str → Option Value} {base : Heap}
theorem WL.bnk_at {CW : Addr} {H : Hp} {x : Addr} {v : WV} {D : WD} (L : WL K CW H x v D) {i : Nat} {r : List Int} (h : D.banks[i]? = some r) : ∃ a, v.bs[i]? = some a ∧ H a = some (.lst (r.map V.int)) := by
  have hl : i < v.bs.length := by
    rw [L.p.bank.1]
    exact (List.getElem?_eq_some_iff.mp h).1
  exact ⟨v.bs[i], List.getElem?_eq_getElem hl, L.p.bank.2 i _ r (List.getElem?_eq_getElem hl) h⟩
theorem scDoStrike : FnScope ["works", "hue", "place", "new"] ["works", "hue", "place", "new"] (defScope sDoStrike) := ⟨rfl, rfl, rfl, by decide +kernel, rfl, by decide +kernel, by decide +kernel⟩
theorem ok_doStrike {f C f0 : Addr} {fd : FuncData} (F : Fun K "do_strike" "do_strike" sDoStrike f fd) (Z : WC K mg C f0) : FnOk P w K mg base CX0 1 f fd ["works", "hue", "place", "new"] (spDoStrike K C) := by
  refine F.ok scDoStrike (fun vs H Q E h => ?_) (fun cdv A outer s H vs Q E hr h => ?_)
  · obtain ⟨x, vp, vn, v, D, c, i, p, nw, rfl, _⟩ := h
    rfl
  · have nd := scDoStrike.nd
    obtain ⟨x, vp, vn, v, D, c, i, p, nw, rfl, L, hP, hN, dok, hi, h4, hok, q⟩ := h
    obtain ⟨a, rfl, hS⟩ := dp_plc hP
    refine ⟨_, pss_one (ps_if (pt_cmpR op_eq (pe_ix ix_tup (pv 2) pe_int (fun _ _ => rfl)) pe_str (nomark _))
      (pss_one (ps_asg (pv 3) (pg_sub (pe_ix ix_list (pe_fld (pv 0) rfl) (pv 1) (fun _ _ => rfl)) (pe_ix ix_tup (pv 2) pe_int (fun _ _ => rfl)) set_list)))
      (pss_one (ps_if (pt_cmpR op_eq (pe_ix ix_tup (pv 2) pe_int (fun _ _ => rfl)) pe_str (nomark _))
        (pss_one (ps_asg (pv 3) (pg_sub (pe_ix ix_list (pe_fld (pv 0) rfl) (pv 1) (fun _ _ => rfl)) (pe_ix ix_tup (pv 2) pe_int (fun _ _ => rfl)) set_list)))
        (pss_one (ps_if (pt_cmpR op_eq (pe_ix ix_tup (pv 2) pe_int (fun _ _ => rfl)) pe_str (nomark _))
          (pss_one (ps_asg (pv 3) (pg_sub (pe_fld (pv 0) rfl) (pv 1) set_list)))
          (pss_one (ps_if (pt_cmpR op_eq (pe_ix ix_tup (pv 2) pe_int (fun _ _ => rfl)) pe_str (nomark _))
            (pss_one (ps_asg (pv 3) (pg_sub (pe_fld (pv 0) rfl) (pv 1) set_list)))
            (pss_one (ps_fld (pv 0) (pe_op op_catA (pe_op op_catA (pe_slice sl_tupA (pe_fld (pv 0) rfl) po_none (po_some (pe_ix ix_tup (pv 2) pe_int (fun _ _ => rfl)))) (pe_tup (pa_cons (pv 3) pa_nil))) (pe_slice sl_tupA (pe_fld (pv 0) rfl) (po_some (pe_op op_add (pe_ix ix_tup (pv 2) pe_int (fun _ _ => rfl)) pe_int)) po_none)) rfl))))))))), ?_⟩
    have hri : D.regs[i]? = some (D.regs[i]'(by rw [dok.lr]; exact hi)) := List.getElem?_eq_getElem _
    have hbi : D.banks[i]? = some (D.banks[i]'(by rw [dok.lb]; exact hi)) := List.getElem?_eq_getElem _
    have h8 := dok.r8 _ (List.mem_of_getElem? hri)
    have hbl := dok.bl _ (List.mem_of_getElem? hbi)
    have er : D.regs.getD i [] = (D.regs[i]'(by rw [dok.lr]; exact hi)) := by
      rw [List.getD_eq_getElem?_getD, hri]
      rfl
    have eb : D.banks.getD i [] = (D.banks[i]'(by rw [dok.lb]; exact hi)) := by
      rw [List.getD_eq_getElem?_getD, hbi]
      rfl
    generalize (D.regs[i]'(by rw [dok.lr]; exact hi)) = r at *
    generalize (D.banks[i]'(by rw [dok.lb]; exact hi)) = b at *
    cases p with
    | reg k =>
      cases nw with
      | num n =>
        cases hN
        obtain ⟨hk, _, _⟩ := hok
        obtain ⟨ra, hra, hrl⟩ := L.reg_at hri
        refine ⟨_, rfl, a, _, 0, _, rfl, rfl, hS, at_of (j := 0) rfl rfl, rfl, true, rfl, iteT ?_⟩
        refine ⟨_, rfl, _, rfl, x, C, v.dw, _, _, rfl, L.ins, Z.cls, Z.n_numbers, wl_numbers v D, _, rfl, v.nu, _, _, _, rfl, rfl, SqL.of L.p.nums, atM hra, _, rfl, a, _, 1, _, rfl, rfl, hS, at_of (j := 1) rfl rfl, ra, _, _, k, rfl, rfl, hrl, ixN_in (by rw [List.length_map, h8]; exact hk), ?_⟩
        have hm : ra ∈ v.list := by simp [WV.list, List.mem_of_getElem? hra]
        have z := L.reg (r.set k n) hra
        rw [List.map_set] at z
        refine q _ _ ?_ (Chg.one (WV.F_l hm) (L.mut hm).2)
        show WL K C _ x v { D with regs := D.regs.set i ((D.regs.getD i []).set k n) }
        rw [er]
        exact z
      | _ => exact hok.elim
    | cel k =>
      cases nw with
      | num n =>
        cases hN
        obtain ⟨hk, _, _⟩ := hok
        obtain ⟨ra, hra, hrl⟩ := L.bnk_at hbi
        refine ⟨_, rfl, a, _, 0, _, rfl, rfl, hS, at_of (j := 0) rfl rfl, rfl, false, rfl, iteF ?_⟩
        refine ⟨_, rfl, a, _, 0, _, rfl, rfl, hS, at_of (j := 0) rfl rfl, rfl, true, rfl, iteT ?_⟩
        refine ⟨_, rfl, _, rfl, x, C, v.dw, _, _, rfl, L.ins, Z.cls, Z.n_banks, wl_banks v D, _, rfl, v.bk, _, _, _, rfl, rfl, SqL.of L.p.banks, atM hra, _, rfl, a, _, 1, _, rfl, rfl, hS, at_of (j := 1) rfl rfl, ra, _, _, k, rfl, rfl, hrl, ixN_in (by rw [List.length_map, hbl]; exact hk), ?_⟩
        have hm : ra ∈ v.list := by simp [WV.list, List.mem_of_getElem? hra]
        have z := L.bnk (b.set k n) hra
        rw [List.map_set] at z
        refine q _ _ ?_ (Chg.one (WV.F_l hm) (L.mut hm).2)
        show WL K C _ x v { D with banks := D.banks.set i ((D.banks.getD i []).set k n) }
        rw [eb]
        exact z
      | _ => exact hok.elim
    | ptr =>
      cases nw with
      | num n =>
        cases hN
        refine ⟨_, rfl, a, _, 0, _, rfl, rfl, hS, at_of (j := 0) rfl rfl, rfl, false, rfl, iteF ?_⟩
        refine ⟨_, rfl, a, _, 0, _, rfl, rfl, hS, at_of (j := 0) rfl rfl, rfl, false, rfl, iteF ?_⟩
        refine ⟨_, rfl, a, _, 0, _, rfl, rfl, hS, at_of (j := 0) rfl rfl, rfl, true, rfl, iteT ?_⟩
        refine ⟨_, rfl, _, rfl, x, C, v.dw, _, _, rfl, L.ins, Z.cls, Z.n_heads, wl_heads v D, _, rfl, v.hd, _, _, i, rfl, rfl, L.p.heads, ixN_in (by rw [List.length_map, dok.lh]; exact hi), ?_⟩
        have hm : v.hd ∈ v.list := by simp [WV.list]
        exact q _ _ (L.head i n) (Chg.one (WV.F_l hm) (L.mut hm).2)
      | _ => exact hok.elim
    | slot =>
      have hm : v.sl ∈ v.list := by simp [WV.list]
      obtain ⟨o, e1, e2⟩ : ∃ o : Option Int, slotV o = vn ∧ strD D i .slot nw = { D with slots := D.slots.set i o } := by
        cases nw with
        | num n =>
          cases hN
          exact ⟨some n, rfl, rfl⟩
        | non =>
          cases hN
          exact ⟨none, rfl, rfl⟩
        | ins k => exact hok.elim
      refine ⟨_, rfl, a, _, 0, _, rfl, rfl, hS, at_of (j := 0) rfl rfl, rfl, false, rfl, iteF ?_⟩
      refine ⟨_, rfl, a, _, 0, _, rfl, rfl, hS, at_of (j := 0) rfl rfl, rfl, false, rfl, iteF ?_⟩
      refine ⟨_, rfl, a, _, 0, _, rfl, rfl, hS, at_of (j := 0) rfl rfl, rfl, false, rfl, iteF ?_⟩
      refine ⟨_, rfl, a, _, 0, _, rfl, rfl, hS, at_of (j := 0) rfl rfl, rfl, true, rfl, iteT ?_⟩
      refine ⟨_, rfl, _, rfl, x, C, v.dw, _, _, rfl, L.ins, Z.cls, Z.n_offers, wl_offers v D, _, rfl, v.sl, _, _, i, rfl, rfl, L.p.slots, ixN_in (by rw [List.length_map, dok.ls]; exact hi), ?_⟩
      rw [e2] at q
      rw [← e1]
      exact q _ _ (L.slot i o) (Chg.one (WV.F_l hm) (L.mut hm).2)
    | code k =>
      cases nw with
      | ins n =>
        obtain ⟨⟨k0, hk0⟩, _⟩ := hok
        have hN : Dp K H vn (celD (.ins i n)) := hN
        obtain ⟨ts, t1, t2⟩ := L.p.tape
        have hlt : ts.length = D.tape.length := by
          have := dps_len t2
          rw [List.length_map] at this
          exact this
        have hkl : k < c.cells.length := (List.getElem?_eq_some_iff.mp hk0).1
        refine ⟨_, rfl, a, _, 0, _, rfl, rfl, hS, at_of (j := 0) rfl rfl, rfl, false, rfl, iteF ?_⟩
        refine ⟨_, rfl, a, _, 0, _, rfl, rfl, hS, at_of (j := 0) rfl rfl, rfl, false, rfl, iteF ?_⟩
        refine ⟨_, rfl, a, _, 0, _, rfl, rfl, hS, at_of (j := 0) rfl rfl, rfl, false, rfl, iteF ?_⟩
        refine ⟨_, rfl, a, _, 0, _, rfl, rfl, hS, at_of (j := 0) rfl rfl, rfl, false, rfl, iteF ?_⟩
        refine ⟨_, rfl, x, C, v.dw, _, _, rfl, L.ins, Z.cls, Z.n_tape, wl_tape v D, ?_⟩
        refine ⟨_, rfl, a, _, 1, _, rfl, rfl, hS, at_of (j := 1) rfl rfl, (k : Int), rfl, ?_⟩
        have hk : k < ts.length := by rw [hlt, dok.lt]; exact hkl
        have hz4 : ts.length ≤ 4000 := by rw [hlt, dok.lt]; exact h4
        refine sl_any t1 fun p1 H1 s1 q1 => ?_
        rw [cut_take ts (Nat.le_of_lt hk)] at q1
        refine ⟨_, rfl, show 1 ≤ sizeLine by decide, fun p2 hp2 => ?_⟩
        have s2 := same_new (o := .tup [vn]) hp2
        have z1 : (ts.take k).length + [vn].length ≤ sizeLine := Nat.le_trans (show (ts.take k).length + 1 ≤ 5000 by rw [List.length_take]; omega) (by decide)
        refine catW ((Tk.same s2).seq q1) (.inl (.inl upd_same)) z1 fun p3 H3 s3 q3 => ?_
        have s13 : Same H H3 := (s1.trans s2).trans s3
        refine ⟨_, rfl, x, C, v.dw, _, _, rfl, s13 _ _ L.ins, Z.cls, Z.n_tape, wl_tape v D, ?_⟩
        refine ⟨_, rfl, a, _, 1, _, rfl, rfl, (Tk.same s13).seq hS, at_of (j := 1) rfl rfl, _, _, rfl, rfl, _, rfl, ?_⟩
        dsimp only [tNoPart]
        refine sl_any ((Tk.same s13).seq t1) fun p4 H4 s4 q4 => ?_
        rw [show ((k : Int) + 1) = ((k + 1 : Nat) : Int) by omega, cut_drop ts hk] at q4
        have z2 : (ts.take k ++ [vn]).length + (ts.drop (k + 1)).length ≤ sizeLine := Nat.le_trans (show (ts.take k ++ [vn]).length + (ts.drop (k + 1)).length ≤ 5000 by rw [List.length_append, List.length_take, List.length_singleton, List.length_drop]; omega) (by decide)
        refine catW ((Tk.same s4).seq q3) q4 z2 fun p5 H5 s5 q5 => ?_
        rw [set_cut ts hk vn] at q5
        have s15 : Same H H5 := (s13.trans s4).trans s5
        refine ⟨_, rfl, x, C, v.dw, _, rfl, s15 _ _ L.ins, Z.cls, Z.n_tape, wl_len v D, ?_⟩
        rw [wp_tape]
        have hd : DpAll K H5 (ts.set k vn) ((D.tape.set k (.ins i n)).map celD) := by
          rw [List.map_set]
          exact dps_set k (dps_same s15 _ _ t2) (dp_tk (Tk.same s15) _ _ (noL_cel _) hN)
        obtain ⟨LT, cT⟩ := L.newTp (zs := D.tape.set k (.ins i n)) q5 hd s15
        exact q _ _ LT cT
      | _ => exact hok.elim
end
end Hue
namespace Hue
/-! ### steps of runs whose pointers are all one -/
theorem agreed_all {α : Type} [DecidableEq α] {xs : List α} {x : α} {k : Nat} (h : ∀ y ∈ xs, y = x) (h0 : xs ≠ []) (hk : k ≤ xs.length) : agreed xs k = some x := by
  have hc : xs.count x = xs.length := by
    rw [List.count_eq_length]
    intro b hb
    exact (h b hb).symm
  cases xs with
  | nil => exact absurd rfl h0
  | cons y r =>
    have e : y = x := h y (List.mem_cons.mpr (.inl rfl))
    subst e
    unfold agreed
    rw [List.find?_cons]
    have z : decide (k ≤ List.count y (y :: r)) = true := by
      rw [hc]
      exact decide_eq_true hk
    rw [z]
structure At (M : Mac) (p : Nat) : Prop where
  run : M.st = .running
  wait : M.wait = []
  len : M.hues.length = M.code.h
  ptr : ∀ u ∈ M.hues, u.ptr = (p : Int)
  votes : votesOk M.code.votes
theorem need_le {vs : List Nat} (h : votesOk vs) : vs.getD (vs.length - 1) 0 ≤ vs.length := by
  obtain ⟨h1, _, h3⟩ := h
  have hi : vs.length - 1 < vs.length := by omega
  rw [List.getD_eq_getElem?_getD, List.getElem?_eq_getElem hi]
  have z := (h3 (vs.length - 1) _ (List.getElem?_eq_getElem hi)).1
  show vs[vs.length - 1] ≤ vs.length
  omega
theorem At.at_ {M : Mac} {p : Nat} (h : At M p) (hp : p < M.code.cells.length) : M.at_ = some p := by
  have h1 := h.votes.1
  have hl : (M.hues.map fun u => u.ptr).length = M.code.h := by rw [List.length_map, h.len]
  have e : agreed (α := Int) (M.hues.map fun u => u.ptr) (M.code.need M.code.h) = some (p : Int) := by
    refine agreed_all (fun y hy => ?_) (fun z => ?_) ?_
    · obtain ⟨u, hu, rfl⟩ := List.mem_map.mp hy
      exact h.ptr u hu
    · rw [z] at hl
      have : (0 : Nat) = M.code.votes.length := hl
      omega
    · rw [hl]
      exact need_le h.votes
  unfold Mac.at_
  rw [e]
  show (if 0 ≤ (p : Int) ∧ (p : Int) < M.code.cells.length then some (p : Int).toNat else none) = some p
  rw [if_pos ⟨by omega, by omega⟩, Int.toNat_natCast]
theorem due_nil {M : Mac} (h : M.wait = []) : M.due = M := by
  unfold Mac.due
  rw [h]
  show ({ M with wait := [] } : Mac) = M
  rw [← h]
theorem At.step {M : Mac} {p : Nat} {z : Cel} (h : At M p) (hz : M.code.cells[p]? = some z) : M.step = (M.cell p z).tick := by
  have hp : p < M.code.cells.length := (List.getElem?_eq_some_iff.mp hz).1
  have e : M.exec = M.cell p z := by
    unfold Mac.exec
    rw [h.at_ hp]
    show (match M.code.cells[p]? with | some z => M.cell p z | none => M.caught) = _
    rw [hz]
  unfold Mac.step
  rw [if_pos h.run, due_nil h.wait, e]
/-- what one sees of a run that took and offered alone -/
structure S14 (c : Code) (M : Mac) (p : Nat) (row : List Item) (left : List Int) (regs : Nat → List Int) : Prop where
  at_ : At M p
  code : M.code = c
  row : M.row = row
  left : M.left = left
  hue : ∀ i u, M.hues[i]? = some u → u.regs = regs i ∧ u.bank = c.bank ∧ u.own = c.own i
theorem own_get {c : Code} {i p : Nat} {k : Ins} (h : c.cells[p]? = some (.ins i k)) : (c.own i).getD p none = some k := by
  unfold Code.own
  rw [List.getD_eq_getElem?_getD, List.getElem?_map, h]
  show (if i = i then some k else none) = some k
  rw [if_pos rfl]
theorem upHue_len (hs : List Hu) (i : Nat) (f : Hu → Hu) : (upHue hs i f).length = hs.length := by
  unfold upHue
  split
  · rw [List.length_set]
  · rfl
theorem upHue_get {hs : List Hu} {i j : Nat} {f : Hu → Hu} {u : Hu} (h : (upHue hs i f)[j]? = some u) : ∃ v, hs[j]? = some v ∧ u = (if i = j then f v else v) := by
  unfold upHue at h
  split at h
  · rename_i v hv
    rw [List.getElem?_set] at h
    split at h
    · rename_i e
      subst e
      split at h
      · refine ⟨v, hv, ?_⟩
        rw [if_pos rfl]
        exact (Option.some.inj h).symm
      · cases h
    · rename_i e
      exact ⟨u, h, by rw [if_neg e]⟩
  · rename_i hn
    refine ⟨u, h, ?_⟩
    rw [if_neg]
    intro e
    subst e
    rw [hn] at h
    cases h
theorem S14.offer {c : Code} {M : Mac} {p i b : Nat} {row : List Item} {left : List Int} {regs : Nat → List Int} (S : S14 c M p row left regs) (hz : c.cells[p]? = some (.ins i (.offer b))) (hi : i < c.h) : S14 c M.step (p + 1) row left regs := by
  have hz' : M.code.cells[p]? = some (.ins i (.offer b)) := by rw [S.code]; exact hz
  have hil : i < M.hues.length := by rw [S.at_.len, S.code]; exact hi
  have hu := S.hue i M.hues[i] (List.getElem?_eq_getElem hil)
  have ek : M.ownAt p i = some (.offer b) := by
    unfold Mac.ownAt
    rw [List.getElem?_eq_getElem hil]
    show M.hues[i].own.getD p none = _
    rw [hu.2.2]
    exact own_get hz
  have es : M.step = (M.doIns p i (.offer b)).tick := by
    rw [S.at_.step hz']
    show (match M.ownAt p i with | some k => M.doIns p i k | none => M.allPtr ((p : Int) + 1)).tick = _
    rw [ek]
  rw [es]
  refine ⟨⟨S.at_.run, S.at_.wait, ?_, ?_, S.at_.votes⟩, S.code, S.row, S.left, ?_⟩
  · show (upHue _ _ _).length = _
    rw [upHue_len, List.length_map]
    exact S.at_.len
  · intro u hu
    obtain ⟨j, hj⟩ := List.mem_iff_getElem?.mp hu
    obtain ⟨v, hv, e⟩ := upHue_get hj
    rw [List.getElem?_map] at hv
    obtain ⟨v0, hv0, ev⟩ := Option.map_eq_some_iff.mp hv
    subst ev
    rw [e]
    split
    · show (p : Int) + 1 = ((p + 1 : Nat) : Int)
      omega
    · show (p : Int) + 1 = ((p + 1 : Nat) : Int)
      omega
  · intro j u hj
    obtain ⟨v, hv, e⟩ := upHue_get hj
    rw [List.getElem?_map] at hv
    obtain ⟨v0, hv0, ev⟩ := Option.map_eq_some_iff.mp hv
    subst ev
    have q := S.hue j v0 hv0
    rw [e]
    split
    · exact q
    · exact q
theorem S14.take {c : Code} {M : Mac} {p b w : Nat} {row : List Item} {left : List Int} {regs : Nat → List Int} (S : S14 c M p row left regs) (hz : c.cells[p]? = some (.tak b w)) :
    S14 c M.step (p + 1) (row ++ [.tak (left.headD 0 % (c.size : Int))]) (left.drop 1) (fun i => if i < w then (regs i).set b (left.headD 0 % (c.size : Int)) else regs i) ∧ (M.step.hues.map fun u => u.slot) = (M.hues.map fun u => u.slot) := by
  have hz' : M.code.cells[p]? = some (.tak b w) := by rw [S.code]; exact hz
  have es : M.step = { M with hues := ((M.hues.map fun u => { u with ptr := (p : Int) + 1 }).zipIdx.map fun (u, i) => if i < w then { u with regs := u.regs.set b (left.headD 0 % (c.size : Int)) } else u), row := row ++ [.tak (left.headD 0 % (c.size : Int))], left := left.drop 1, steps := M.steps + 1 } := by
    rw [S.at_.step hz', ← S.left, ← S.row, ← S.code]
    rfl
  rw [es]
  refine ⟨⟨⟨S.at_.run, S.at_.wait, ?_, ?_, S.at_.votes⟩, S.code, rfl, rfl, ?_⟩, ?_⟩
  · show (List.map _ (List.zipIdx _)).length = _
    rw [List.length_map, List.length_zipIdx, List.length_map]
    exact S.at_.len
  · intro u hu
    obtain ⟨⟨v, i⟩, hv, rfl⟩ := List.mem_map.mp hu
    have hm := (List.mem_zipIdx_iff_getElem? ..).mp hv
    rw [List.getElem?_map] at hm
    obtain ⟨v0, hv0, ev⟩ := Option.map_eq_some_iff.mp hm
    have ev : ({ v0 with ptr := (p : Int) + 1 } : Hu) = v := ev
    subst ev
    dsimp only
    split
    · show (p : Int) + 1 = ((p + 1 : Nat) : Int)
      omega
    · show (p : Int) + 1 = ((p + 1 : Nat) : Int)
      omega
  · intro j u hj
    have hj : (((M.hues.map fun u => { u with ptr := (p : Int) + 1 }).zipIdx.map fun (x : Hu × Nat) => if x.2 < w then { x.1 with regs := x.1.regs.set b (left.headD 0 % (c.size : Int)) } else x.1))[j]? = some u := hj
    rw [List.getElem?_map, List.getElem?_zipIdx, List.getElem?_map] at hj
    cases hv : M.hues[j]? with
    | none =>
      rw [hv] at hj
      cases hj
    | some v0 =>
      rw [hv] at hj
      have hj := Option.some.inj hj
      have q := S.hue j v0 hv
      simp only [Nat.zero_add] at hj
      subst hj
      split
      · exact ⟨by show v0.regs.set b _ = _; rw [q.1], q.2⟩
      · exact q
  · show List.map (fun u : Hu => u.slot) (List.map _ (List.zipIdx (List.map _ M.hues))) = _
    rw [List.map_map]
    refine List.ext_getElem? fun j => ?_
    rw [List.getElem?_map, List.getElem?_map, List.getElem?_zipIdx, List.getElem?_map]
    cases M.hues[j]? with
    | none => rfl
    | some v0 =>
      show some _ = some _
      congr 1
      show (if 0 + j < w then _ else _ : Hu).slot = v0.slot
      split <;> rfl
theorem S14.stop {c : Code} {M : Mac} {p : Nat} {row : List Item} {left : List Int} {regs : Nat → List Int} (S : S14 c M p row left regs) (hz : c.cells[p]? = some .stp) :
    M.step.st = .stopped ∧ M.step.row = row ++ [.stp] ∧ (M.step.hues.map fun u => u.slot) = (M.hues.map fun u => u.slot) := by
  have hz' : M.code.cells[p]? = some .stp := by rw [S.code]; exact hz
  rw [S.at_.step hz']
  refine ⟨rfl, ?_, ?_⟩
  · show M.row ++ [.stp] = _
    rw [S.row]
  · show List.map (fun u : Hu => u.slot) (List.map (fun u : Hu => { u with ptr := (p : Int) + 1 }) M.hues) = _
    rw [List.map_map]
    rfl
theorem step_over {M : Mac} (h : ¬ M.st = .running) : M.step = M := by
  unfold Mac.step
  rw [if_neg h]
theorem go_over {M : Mac} (h : ¬ M.st = .running) : ∀ n, M.go n = M
  | 0 => rfl
  | n + 1 => by
    show Mac.go n M.step = M
    rw [step_over h]
    exact go_over h n
theorem go_one (M : Mac) : M.go 1 = M.step := rfl
theorem S14.begun {c : Code} (hv : votesOk c.votes) (ins : List Int) : S14 c (c.begun ins []) 0 [] ins (fun _ => List.replicate 8 0) := by
  refine ⟨⟨rfl, rfl, ?_, ?_, hv⟩, rfl, rfl, rfl, ?_⟩
  · show (List.map _ (List.range c.h)).length = c.h
    rw [List.length_map, List.length_range]
  · intro u hu
    obtain ⟨i, _, rfl⟩ := List.mem_map.mp hu
    rfl
  · intro i u hu
    have hu : ((List.range c.h).map fun i => ({ regs := List.replicate 8 0, bank := c.bank, ptr := 0, slot := none, own := c.own i } : Hu))[i]? = some u := hu
    rw [List.getElem?_map] at hu
    obtain ⟨j, hj, rfl⟩ := Option.map_eq_some_iff.mp hu
    rw [List.getElem?_range (by
      have := (List.getElem?_eq_some_iff.mp hj).1
      rw [List.length_range] at this
      exact this)] at hj
    have e := Option.some.inj hj
    subst e
    exact ⟨rfl, rfl, rfl⟩
/-- n offers, one behind another -/
theorem S14.offers {c : Code} : ∀ (n : Nat) {M : Mac} {p : Nat} {row : List Item} {left : List Int} {regs : Nat → List Int}, S14 c M p row left regs → (∀ k, k < n → ∃ i b, c.cells[p + k]? = some (.ins i (.offer b)) ∧ i < c.h) → S14 c (M.go n) (p + n) row left regs
  | 0, M, p, row, left, regs, S, _ => S
  | n + 1, M, p, row, left, regs, S, h => by
    obtain ⟨i, b, hz, hi⟩ := h 0 (by omega)
    have S1 := S.offer (b := b) hz hi
    have q := S14.offers n S1 fun k hk => by
      have z := h (k + 1) (by omega)
      rw [show p + 1 + k = p + (k + 1) by omega]
      exact z
    rw [show p + (n + 1) = p + 1 + n by omega]
    exact q
end Hue
namespace Hue
open L2 PySem.Spec PySem PyProof.Rows
/-! ### the machine that works mean -/
def ownA (ows : List (List (Option Ins))) (p i : Nat) : Option Ins := (ows[i]?).bind fun o => o.getD p none
def currA (ows : List (List (Option Ins))) (p : Nat) : Cel → Cel
  | .ins i k => .ins i ((ownA ows p i).getD k)
  | z => z
structure TP (c : Code) (ows : List (List (Option Ins))) (tape : List Cel) : Prop where
  lt : tape.length = c.cells.length
  lo : ows.length = c.h
  lp : ∀ o ∈ ows, o.length = c.cells.length
  tp : ∀ (p : Nat) (z : Cel), c.cells[p]? = some z → tape[p]? = some (currA ows p z)
  ow : ∀ (p i : Nat) (k : Ins), c.cells[p]? = some (.ins i k) → ∃ k', ownA ows p i = some k' ∧ insOk c.size c.bank.length k' ∧ easyI k'
  no : ∀ (p i : Nat), (∀ k, c.cells[p]? ≠ some (.ins i k)) → ownA ows p i = none
theorem ownC_none {c : Code} {p i : Nat} (h : ∀ k, c.cells[p]? ≠ some (.ins i k)) : ownA ((List.range c.h).map fun i => c.own i) p i = none := by
  unfold ownA
  rw [List.getElem?_map]
  by_cases hi : i < c.h
  · rw [List.getElem?_range hi]
    show (c.own i).getD p none = none
    unfold Code.own
    rw [List.getD_eq_getElem?_getD, List.getElem?_map]
    cases e : c.cells[p]? with
    | none => rfl
    | some z =>
      cases z with
      | ins j k =>
        show (if j = i then some k else none : Option Ins) = none
        rw [if_neg (fun y => h k (by rw [e, y]))]
      | _ => rfl
  · rw [List.getElem?_eq_none (by rw [List.length_range]; omega)]
    rfl
structure MR (c : Code) (M : Mac) (D : WD) : Prop where
  code : M.code = c
  votes : D.votes = c.votes
  size : D.size = c.size
  cells : D.cells = c.cells
  tpp : TP c (M.hues.map (·.own)) D.tape
  regs : D.regs = M.hues.map (·.regs)
  banks : D.banks = M.hues.map (·.bank)
  heads : D.heads = M.hues.map (·.ptr)
  slots : D.slots = M.hues.map (·.slot)
  row : D.row = M.row
  done : D.done = M.steps
  st : D.st = M.st
  wait : M.wait = D.plan.drop D.smany
  many : D.smany ≤ D.plan.length
  plan : D.plan.length ≤ 400 ∧ ∀ k ∈ D.plan, stkOk c k ∧ easyS k
  len : M.hues.length = c.h
  us : ∀ u ∈ M.hues, u.regs.length = 8 ∧ u.bank.length = c.bank.length ∧ 0 ≤ u.ptr ∧ (∀ n ∈ u.regs, 0 ≤ n ∧ n < c.size) ∧ (∀ n ∈ u.bank, 0 ≤ n ∧ n < c.size)
  eas : ∀ z ∈ c.cells, easy z
  left : M.left = D.given.drop D.taken
theorem MR.ok {c : Code} {M : Mac} {D : WD} (R : MR c M D) (cok : c.Ok) : DOk c D where
  votes := R.votes
  size := R.size
  cells := R.cells
  lt := R.tpp.lt
  lr := by rw [R.regs, List.length_map, R.len]
  lb := by rw [R.banks, List.length_map, R.len]
  lh := by rw [R.heads, List.length_map, R.len]
  ls := by rw [R.slots, List.length_map, R.len]
  r8 := fun r hr => by
    rw [R.regs] at hr
    obtain ⟨u, hu, rfl⟩ := List.mem_map.mp hr
    exact (R.us u hu).1
  bl := fun r hr => by
    rw [R.banks] at hr
    obtain ⟨u, hu, rfl⟩ := List.mem_map.mp hr
    exact (R.us u hu).2.1
  pos := fun p hp => by
    rw [R.heads] at hp
    obtain ⟨u, hu, rfl⟩ := List.mem_map.mp hp
    exact (R.us u hu).2.2.1
  rv := fun r hr => by
    rw [R.regs] at hr
    rw [R.size]
    obtain ⟨u, hu, rfl⟩ := List.mem_map.mp hr
    exact (R.us u hu).2.2.2.1
  bv := fun r hr => by
    rw [R.banks] at hr
    rw [R.size]
    obtain ⟨u, hu, rfl⟩ := List.mem_map.mp hr
    exact (R.us u hu).2.2.2.2
  tp := fun z hz => by
    obtain ⟨p, hp⟩ := List.mem_iff_getElem?.mp hz
    have hl : p < c.cells.length := by
      rw [← R.tpp.lt]
      exact (List.getElem?_eq_some_iff.mp hp).1
    have h0 : c.cells[p]? = some c.cells[p] := List.getElem?_eq_getElem hl
    have h1 := R.tpp.tp p _ h0
    rw [hp] at h1
    have h1 := Option.some.inj h1
    have k1 := cok.cells _ (List.mem_of_getElem? h0)
    have k2 := R.eas _ (List.mem_of_getElem? h0)
    generalize c.cells[p] = z0 at *
    cases z0 with
    | ins i k =>
      obtain ⟨k', e1, e2, e3⟩ := R.tpp.ow p i k h0
      have e4 : z = .ins i k' := by
        rw [h1]
        show Cel.ins i ((ownA _ p i).getD k) = _
        rw [e1]
        rfl
      subst e4
      exact ⟨⟨k1.1, e2⟩, e3⟩
    | _ =>
      have e4 := h1
      subst e4
      exact ⟨k1, k2⟩
theorem ownAt_A (M : Mac) (p i : Nat) : M.ownAt p i = ownA (M.hues.map (·.own)) p i := by
  unfold Mac.ownAt ownA
  rw [List.getElem?_map]
  cases M.hues[i]? <;> rfl
theorem MR.fet {c : Code} {M : Mac} {D : WD} (R : MR c M D) : fet D = M.at_.map fun n : Nat => (n : Int) := by
  unfold Hue.fet Mac.at_
  have e : agreed (α := Int) (M.hues.map fun u => u.ptr) (M.code.need M.code.h) = agreed D.heads (D.votes.getD (D.votes.length - 1) 0) := by
    rw [R.heads, R.votes, R.code]
    rfl
  rw [e]
  cases hg : agreed D.heads (D.votes.getD (D.votes.length - 1) 0) with
  | none => rfl
  | some p =>
    have hm : p ∈ D.heads := List.mem_of_find?_eq_some hg
    have h0 : 0 ≤ p := by
      rw [R.heads] at hm
      obtain ⟨u, hu, rfl⟩ := List.mem_map.mp hm
      exact (R.us u hu).2.2.1
    dsimp only
    rw [R.tpp.lt, R.code]
    by_cases z : p < (c.cells.length : Int)
    · rw [if_pos z, if_pos ⟨h0, z⟩]
      show some p = some ((p.toNat : Nat) : Int)
      rw [Int.toNat_of_nonneg h0]
    · rw [if_neg z, if_neg fun y => z y.2]
      rfl
theorem rep_len {α β : Type} (xs : List α) (y : β) : List.replicate xs.length y = xs.map fun _ => y := by
  induction xs with
  | nil => rfl
  | cons x r ih =>
    show y :: List.replicate r.length y = y :: _
    rw [ih]
/-- pointers all alike -/
theorem MR.ptr {c : Code} {M : Mac} {D : WD} (R : MR c M D) (p : Int) (hp : 0 ≤ p) : MR c (M.allPtr p) (ptD D p) where
  code := R.code
  votes := R.votes
  size := R.size
  cells := R.cells
  tpp := by
    have e : ((M.allPtr p).hues.map (·.own)) = M.hues.map (·.own) := by
      show List.map _ (List.map _ _) = _
      rw [List.map_map]
      rfl
    rw [e]
    exact R.tpp
  regs := by show D.regs = List.map _ (List.map _ _); rw [R.regs, List.map_map]; rfl
  banks := by show D.banks = List.map _ (List.map _ _); rw [R.banks, List.map_map]; rfl
  heads := by
    show List.replicate D.heads.length p = List.map _ (List.map _ _)
    rw [R.heads, List.map_map, List.length_map]
    exact rep_len M.hues p
  slots := by show D.slots = List.map _ (List.map _ _); rw [R.slots, List.map_map]; rfl
  row := R.row
  done := R.done
  st := R.st
  wait := R.wait
  many := R.many
  plan := R.plan
  len := by show (List.map _ M.hues).length = _; rw [List.length_map]; exact R.len
  us := fun u hu => by
    obtain ⟨u0, h0, rfl⟩ := List.mem_map.mp hu
    exact ⟨(R.us u0 h0).1, (R.us u0 h0).2.1, hp, (R.us u0 h0).2.2.2⟩
  eas := R.eas
  left := R.left
theorem MR.emp {c : Code} {M : Mac} {D : WD} (R : MR c M D) : MR c M.noSlots (noSl D) where
  code := R.code
  votes := R.votes
  size := R.size
  cells := R.cells
  tpp := by
    have e : (M.noSlots.hues.map (·.own)) = M.hues.map (·.own) := by
      show List.map _ (List.map _ _) = _
      rw [List.map_map]
      rfl
    rw [e]
    exact R.tpp
  regs := by show D.regs = List.map _ (List.map _ _); rw [R.regs, List.map_map]; rfl
  banks := by show D.banks = List.map _ (List.map _ _); rw [R.banks, List.map_map]; rfl
  heads := by show D.heads = List.map _ (List.map _ _); rw [R.heads, List.map_map]; rfl
  slots := by
    show List.replicate D.votes.length none = List.map _ (List.map _ _)
    have e : D.votes.length = M.hues.length := by
      rw [R.votes, R.len]
      rfl
    rw [e, List.map_map]
    exact rep_len M.hues none
  row := R.row
  done := R.done
  st := R.st
  wait := R.wait
  many := R.many
  plan := R.plan
  len := by show (List.map _ M.hues).length = _; rw [List.length_map]; exact R.len
  us := fun u hu => by
    obtain ⟨u0, h0, rfl⟩ := List.mem_map.mp hu
    exact R.us u0 h0
  eas := R.eas
  left := R.left
theorem MR.tick {c : Code} {M : Mac} {D : WD} (R : MR c M D) : MR c M.tick { D with done := D.done + 1 } :=
  ⟨R.code, R.votes, R.size, R.cells, R.tpp, R.regs, R.banks, R.heads, R.slots, R.row, by show D.done + 1 = M.steps + 1; rw [R.done], R.st, R.wait, R.many, R.plan, R.len, R.us, R.eas, R.left⟩
theorem MR.caught {c : Code} {M : Mac} {D : WD} (R : MR c M D) : MR c M.caught { D with st := .caught } :=
  ⟨R.code, R.votes, R.size, R.cells, R.tpp, R.regs, R.banks, R.heads, R.slots, R.row, R.done, rfl, R.wait, R.many, R.plan, R.len, R.us, R.eas, R.left⟩
theorem MR.stop {c : Code} {M : Mac} {D : WD} (R : MR c M D) : MR c { M with row := M.row ++ [.stp], st := .stopped } { D with row := D.row ++ [.stp], st := .stopped } :=
  ⟨R.code, R.votes, R.size, R.cells, R.tpp, R.regs, R.banks, R.heads, R.slots, by show D.row ++ _ = M.row ++ _; rw [R.row], R.done, rfl, R.wait, R.many, R.plan, R.len, R.us, R.eas, R.left⟩
theorem MR.app {c : Code} {M : Mac} {D : WD} (R : MR c M D) (y : Item) : MR c { M with row := M.row ++ [y] } { D with row := D.row ++ [y] } :=
  ⟨R.code, R.votes, R.size, R.cells, R.tpp, R.regs, R.banks, R.heads, R.slots, by show D.row ++ _ = M.row ++ _; rw [R.row], R.done, R.st, R.wait, R.many, R.plan, R.len, R.us, R.eas, R.left⟩
theorem up_map {β : Type} (f : Hu → β) (g : Hu → Hu) {hs : List Hu} {i : Nat} {u : Hu} (h : hs[i]? = some u) : (upHue hs i g).map f = (hs.map f).set i (f (g u)) := by
  unfold upHue
  rw [h]
  exact List.map_set
theorem set_self {β : Type} {xs : List β} {i : Nat} {y : β} (h : xs[i]? = some y) : xs.set i y = xs := by
  refine List.ext_getElem? fun j => ?_
  rw [List.getElem?_set]
  by_cases z : i = j
  · subst z
    rw [if_pos rfl, if_pos (List.getElem?_eq_some_iff.mp h).1, h]
  · rw [if_neg z]
theorem set_rng {xs : List Int} {m : Nat} {k : Nat} {n : Int} (h : ∀ y ∈ xs, 0 ≤ y ∧ y < m) (hn : 0 ≤ n ∧ n < m) : ∀ y ∈ xs.set k n, 0 ≤ y ∧ y < m := fun y hy => by
  rcases List.mem_or_eq_of_mem_set hy with z | z
  · exact h y z
  · rw [z]; exact hn
/-- a hue changes, not its instructions -/
theorem MR.up {c : Code} {M : Mac} {D : WD} (R : MR c M D) {i : Nat} {u : Hu} (hu : M.hues[i]? = some u) (g : Hu → Hu) (h1 : (g u).own = u.own) (h2 : (g u).regs.length = 8 ∧ (g u).bank.length = c.bank.length ∧ 0 ≤ (g u).ptr ∧ (∀ n ∈ (g u).regs, 0 ≤ n ∧ n < c.size) ∧ (∀ n ∈ (g u).bank, 0 ≤ n ∧ n < c.size)) :
    MR c { M with hues := upHue M.hues i g } { D with regs := D.regs.set i (g u).regs, banks := D.banks.set i (g u).bank, heads := D.heads.set i (g u).ptr, slots := D.slots.set i (g u).slot } := by
  have eo : (upHue M.hues i g).map (·.own) = M.hues.map (·.own) := by
    rw [up_map (·.own) g hu, h1]
    exact set_self (by rw [List.getElem?_map, hu]; rfl)
  refine ⟨R.code, R.votes, R.size, R.cells, by show TP c ((upHue M.hues i g).map (·.own)) D.tape; rw [eo]; exact R.tpp, ?_, ?_, ?_, ?_, R.row, R.done, R.st, R.wait, R.many, R.plan, ?_, fun y hy => ?_, R.eas, R.left⟩
  · show D.regs.set i (g u).regs = (upHue M.hues i g).map (·.regs)
    rw [up_map (·.regs) g hu, R.regs]
  · show D.banks.set i (g u).bank = (upHue M.hues i g).map (·.bank)
    rw [up_map (·.bank) g hu, R.banks]
  · show D.heads.set i (g u).ptr = (upHue M.hues i g).map (·.ptr)
    rw [up_map (·.ptr) g hu, R.heads]
  · show D.slots.set i (g u).slot = (upHue M.hues i g).map (·.slot)
    rw [up_map (·.slot) g hu, R.slots]
  · show (upHue M.hues i g).length = _
    unfold upHue
    rw [hu]
    show (M.hues.set i (g u)).length = _
    rw [List.length_set]
    exact R.len
  · have hy : y ∈ upHue M.hues i g := hy
    unfold upHue at hy
    rw [hu] at hy
    rcases List.mem_or_eq_of_mem_set hy with z | z
    · exact R.us y z
    · rw [z]
      exact h2
theorem MR.regs_at {c : Code} {M : Mac} {D : WD} (R : MR c M D) {i : Nat} {u : Hu} (hu : M.hues[i]? = some u) : D.regs[i]? = some u.regs ∧ D.banks[i]? = some u.bank ∧ D.heads[i]? = some u.ptr ∧ D.slots[i]? = some u.slot := by
  rw [R.regs, R.banks, R.heads, R.slots]
  simp only [List.getElem?_map, hu]
  exact ⟨rfl, rfl, rfl, rfl⟩
/-- one thing is set -/
theorem MR.strike {c : Code} {M : Mac} {D : WD} (R : MR c M D) {i : Nat} {p : Plc} {nw : Nw} (hi : i < c.h) (hok : nwOk c i p nw) (ez : easyN nw) : MR c (M.strike i p nw) (strD D i p nw) := by
  have hu : M.hues[i]? = some (M.hues[i]'(by rw [R.len]; exact hi)) := List.getElem?_eq_getElem _
  generalize (M.hues[i]'(by rw [R.len]; exact hi)) = u at *
  obtain ⟨e1, e2, e3, e4⟩ := R.regs_at hu
  obtain ⟨u1, u2, u3, u4, u5⟩ := R.us u (List.mem_of_getElem? hu)
  have er : D.regs.getD i [] = u.regs := by rw [List.getD_eq_getElem?_getD, e1]; rfl
  have eb : D.banks.getD i [] = u.bank := by rw [List.getD_eq_getElem?_getD, e2]; rfl
  cases p with
  | reg k =>
    cases nw with
    | num n =>
      have z := R.up hu (fun u => u.put (.reg k) (.num n)) rfl ⟨by show (u.regs.set k n).length = 8; rw [List.length_set]; exact u1, u2, u3, set_rng u4 ⟨hok.2.1, hok.2.2⟩, u5⟩
      have e : ({ D with regs := D.regs.set i (u.put (.reg k) (.num n)).regs, banks := D.banks.set i (u.put (.reg k) (.num n)).bank, heads := D.heads.set i (u.put (.reg k) (.num n)).ptr, slots := D.slots.set i (u.put (.reg k) (.num n)).slot } : WD) = strD D i (.reg k) (.num n) := by
        show ({ D with regs := D.regs.set i (u.regs.set k n), banks := D.banks.set i u.bank, heads := D.heads.set i u.ptr, slots := D.slots.set i u.slot } : WD) = { D with regs := D.regs.set i ((D.regs.getD i []).set k n) }
        rw [set_self e2, set_self e3, set_self e4, er]
      rw [e] at z
      exact z
    | _ => exact hok.elim
  | cel k =>
    cases nw with
    | num n =>
      have z := R.up hu (fun u => u.put (.cel k) (.num n)) rfl ⟨u1, by show (u.bank.set k n).length = _; rw [List.length_set]; exact u2, u3, u4, set_rng u5 ⟨hok.2.1, hok.2.2⟩⟩
      have e : ({ D with regs := D.regs.set i (u.put (.cel k) (.num n)).regs, banks := D.banks.set i (u.put (.cel k) (.num n)).bank, heads := D.heads.set i (u.put (.cel k) (.num n)).ptr, slots := D.slots.set i (u.put (.cel k) (.num n)).slot } : WD) = strD D i (.cel k) (.num n) := by
        show ({ D with regs := D.regs.set i u.regs, banks := D.banks.set i (u.bank.set k n), heads := D.heads.set i u.ptr, slots := D.slots.set i u.slot } : WD) = { D with banks := D.banks.set i ((D.banks.getD i []).set k n) }
        rw [set_self e1, set_self e3, set_self e4, eb]
      rw [e] at z
      exact z
    | _ => exact hok.elim
  | ptr =>
    cases nw with
    | num n =>
      have z := R.up hu (fun u => u.put .ptr (.num n)) rfl ⟨u1, u2, hok.1, u4, u5⟩
      have e : ({ D with regs := D.regs.set i (u.put .ptr (.num n)).regs, banks := D.banks.set i (u.put .ptr (.num n)).bank, heads := D.heads.set i (u.put .ptr (.num n)).ptr, slots := D.slots.set i (u.put .ptr (.num n)).slot } : WD) = strD D i .ptr (.num n) := by
        show ({ D with regs := D.regs.set i u.regs, banks := D.banks.set i u.bank, heads := D.heads.set i n, slots := D.slots.set i u.slot } : WD) = { D with heads := D.heads.set i n }
        rw [set_self e1, set_self e2, set_self e4]
      rw [e] at z
      exact z
    | _ => exact hok.elim
  | slot =>
    cases nw with
    | num n =>
      have z := R.up hu (fun u => u.put .slot (.num n)) rfl ⟨u1, u2, u3, u4, u5⟩
      have e : ({ D with regs := D.regs.set i (u.put .slot (.num n)).regs, banks := D.banks.set i (u.put .slot (.num n)).bank, heads := D.heads.set i (u.put .slot (.num n)).ptr, slots := D.slots.set i (u.put .slot (.num n)).slot } : WD) = strD D i .slot (.num n) := by
        show ({ D with regs := D.regs.set i u.regs, banks := D.banks.set i u.bank, heads := D.heads.set i u.ptr, slots := D.slots.set i (some n) } : WD) = { D with slots := D.slots.set i (some n) }
        rw [set_self e1, set_self e2, set_self e3]
      rw [e] at z
      exact z
    | non =>
      have z := R.up hu (fun u => u.put .slot .non) rfl ⟨u1, u2, u3, u4, u5⟩
      have e : ({ D with regs := D.regs.set i (u.put .slot .non).regs, banks := D.banks.set i (u.put .slot .non).bank, heads := D.heads.set i (u.put .slot .non).ptr, slots := D.slots.set i (u.put .slot .non).slot } : WD) = strD D i .slot .non := by
        show ({ D with regs := D.regs.set i u.regs, banks := D.banks.set i u.bank, heads := D.heads.set i u.ptr, slots := D.slots.set i none } : WD) = { D with slots := D.slots.set i none }
        rw [set_self e1, set_self e2, set_self e3]
      rw [e] at z
      exact z
    | _ => exact hok.elim
  | code a =>
    cases nw with
    | ins k =>
      obtain ⟨⟨k0, hk0⟩, hins⟩ := hok
      have hal : a < c.cells.length := (List.getElem?_eq_some_iff.mp hk0).1
      have T := R.tpp
      have hm : ∀ {β : Type} (f : Hu → β), (∀ u : Hu, f (u.put (.code a) (.ins k)) = f u) → ((M.strike i (.code a) (.ins k)).hues.map f) = M.hues.map f := fun f hf => by
        show (upHue M.hues i _).map f = _
        rw [up_map f _ hu, hf]
        exact set_self (by rw [List.getElem?_map, hu]; rfl)
      have eo : (M.strike i (.code a) (.ins k)).hues.map (·.own) = (M.hues.map (·.own)).set i (u.own.set a (some k)) := up_map (·.own) _ hu
      have hul : u.own.length = c.cells.length := T.lp _ (List.mem_map.mpr ⟨u, List.mem_of_getElem? hu, rfl⟩)
      have ho : (M.hues.map (·.own))[i]? = some u.own := by rw [List.getElem?_map, hu]; rfl
      have oA : ∀ p j, ownA ((M.hues.map (·.own)).set i (u.own.set a (some k))) p j = if j = i ∧ p = a then some k else ownA (M.hues.map (·.own)) p j := fun p j => by
        unfold ownA
        rw [List.getElem?_set]
        by_cases z : i = j
        · subst z
          rw [if_pos rfl, if_pos (List.getElem?_eq_some_iff.mp ho).1, ho]
          show (u.own.set a (some k)).getD p none = if i = i ∧ p = a then some k else u.own.getD p none
          rw [List.getD_eq_getElem?_getD, List.getElem?_set]
          by_cases y : a = p
          · subst y
            rw [if_pos rfl, if_pos (by omega), if_pos ⟨rfl, rfl⟩]
            rfl
          · rw [if_neg y, if_neg (fun w => y w.2.symm), List.getD_eq_getElem?_getD]
        · rw [if_neg z, if_neg (fun w => z w.1.symm)]
      refine ⟨R.code, R.votes, R.size, R.cells, ?_, R.regs.trans (hm _ fun _ => rfl).symm, R.banks.trans (hm _ fun _ => rfl).symm, R.heads.trans (hm _ fun _ => rfl).symm, R.slots.trans (hm _ fun _ => rfl).symm, R.row, R.done, R.st, R.wait, R.many, R.plan, ?_, fun y hy => ?_, R.eas, R.left⟩
      · rw [eo]
        refine ⟨by show (D.tape.set a _).length = _; rw [List.length_set]; exact T.lt, by rw [List.length_set]; exact T.lo, fun o hoo => ?_, fun p z hz => ?_, fun p j k1 hz => ?_, fun p j hz => by
          rw [oA, if_neg (fun w => hz k0 (by rw [w.1, w.2]; exact hk0))]
          exact T.no p j hz⟩
        · rcases List.mem_or_eq_of_mem_set hoo with w | w
          · exact T.lp o w
          · rw [w, List.length_set]
            exact hul
        · show (D.tape.set a (.ins i k))[p]? = _
          rw [List.getElem?_set]
          by_cases y : a = p
          · subst y
            rw [hk0] at hz
            cases hz
            rw [if_pos rfl, if_pos (by rw [T.lt]; exact hal)]
            show _ = some (Cel.ins i ((ownA _ a i).getD k0))
            rw [oA, if_pos ⟨rfl, rfl⟩]
            rfl
          · rw [if_neg y, T.tp p z hz]
            cases z with
            | ins j k1 =>
              show some (Cel.ins j _) = some (Cel.ins j _)
              rw [oA, if_neg (fun w => y w.2.symm)]
            | _ => rfl
        · rw [oA]
          by_cases y : j = i ∧ p = a
          · rw [if_pos y]
            exact ⟨k, rfl, hins, ez⟩
          · rw [if_neg y]
            exact T.ow p j k1 hz
      · show (upHue M.hues i _).length = _
        unfold upHue
        rw [hu]
        show (M.hues.set i _).length = _
        rw [List.length_set]
        exact R.len
      · have hy : y ∈ upHue M.hues i _ := hy
        unfold upHue at hy
        rw [hu] at hy
        rcases List.mem_or_eq_of_mem_set hy with z | z
        · exact R.us y z
        · rw [z]
          exact ⟨u1, u2, u3, u4, u5⟩
    | _ => exact hok.elim
end Hue
namespace Hue
open L2 PySem.Spec PySem PyProof.Rows
/-! ### what a cell does to the machine and to the works -/
section
variable {c : Code} {M : Mac} {D : WD}
theorem MR.vlen (R : MR c M D) : D.votes.length = D.heads.length := by
  rw [R.votes, R.heads, List.length_map, R.len]
  rfl
theorem MR.eqS (R : MR c M D) (wd : Nat) : agS D wd = M.agreedSlot wd := by
  unfold agS Mac.agreedSlot
  rw [R.slots, R.votes, R.code, ← List.map_take, List.filterMap_map]
  rfl
theorem zip_maps {α β γ : Type} (f : α → β) (g : α → γ) : ∀ xs : List α, (xs.map f).zip (xs.map g) = xs.map fun x => (f x, g x)
  | [] => rfl
  | x :: r => by
    show (f x, g x) :: (r.map f).zip (r.map g) = _
    rw [zip_maps f g r]
    rfl
theorem MR.eqM (R : MR c M D) : agM D = M.agreedState := by
  unfold agM Mac.agreedState
  rw [R.regs, R.banks, R.votes, R.code, zip_maps]
  rfl
theorem MR.goto (R : MR c M D) (p g : Nat) : MR c (M.allPtr (g : Int)) (ptA (ptD D ((p : Int) + 1)) g) := by
  have z := R.ptr (g : Int) (by omega)
  have e : ptA (ptD D ((p : Int) + 1)) g = ptD D (g : Int) := by
    show ({ ptD D ((p : Int) + 1) with heads := List.replicate D.votes.length (g : Int) } : WD) = { D with heads := List.replicate D.heads.length (g : Int) }
    rw [R.vlen]
    rfl
  rw [e]
  exact z
theorem MR.turn (R : MR c M D) (p g : Nat) : MR c (M.allPtr (g : Int)).noSlots (ptA (noSl (ptD D ((p : Int) + 1))) g) := by
  have z := (R.ptr (g : Int) (by omega)).emp
  have e : ptA (noSl (ptD D ((p : Int) + 1))) g = noSl (ptD D (g : Int)) := by
    show ({ noSl (ptD D ((p : Int) + 1)) with heads := List.replicate D.votes.length (g : Int) } : WD) = { noSl D with heads := List.replicate D.heads.length (g : Int) }
    rw [R.vlen]
    rfl
  rw [e]
  exact z
theorem MR.mark (R : MR c M D) (cok : c.Ok) (p : Nat) {rs bs : List Int} (h : M.agreedState = some (rs, bs)) :
    MR c { M with hues := M.hues.zipIdx.map fun (_, i) => { regs := rs, bank := bs, ptr := (p : Int) + 1, slot := none, own := M.code.own i } } (mrkW (ptD D ((p : Int) + 1)) rs bs) := by
  have hm := List.mem_of_find?_eq_some h
  obtain ⟨u, hu, e⟩ := List.mem_map.mp hm
  have u8 := R.us u hu
  cases e
  have cm : ∀ {β : Type} (y : β), (M.hues.zipIdx.map fun _ => y) = List.replicate c.h y := fun y => by
    rw [← rep_len, List.length_zipIdx, R.len]
  have hv : D.votes.length = c.h := by rw [R.votes]; rfl
  have eo : (M.hues.zipIdx.map fun (x : Hu × Nat) => M.code.own x.2) = (List.range c.h).map fun i => c.own i := by
    refine List.ext_getElem? fun j => ?_
    rw [List.getElem?_map, List.getElem?_zipIdx, List.getElem?_map, R.code]
    by_cases z : j < c.h
    · rw [List.getElem?_range z, List.getElem?_eq_getElem (by rw [R.len]; exact z)]
      show some (c.own (0 + j)) = some (c.own j)
      rw [Nat.zero_add]
    · rw [List.getElem?_eq_none (by rw [R.len]; omega), List.getElem?_eq_none (by rw [List.length_range]; omega)]
      rfl
  have oA : ∀ q i k, c.cells[q]? = some (.ins i k) → ownA ((List.range c.h).map fun i => c.own i) q i = some k := fun q i k hq => by
    have hi : i < c.h := (cok.cells _ (List.mem_of_getElem? hq)).1
    unfold ownA
    rw [List.getElem?_map, List.getElem?_range hi]
    show (c.own i).getD q none = some k
    unfold Code.own
    rw [List.getD_eq_getElem?_getD, List.getElem?_map, hq]
    show (if i = i then some k else none : Option Ins) = some k
    rw [if_pos rfl]
  refine ⟨R.code, R.votes, R.size, R.cells, ?_, ?_, ?_, ?_, ?_, R.row, R.done, R.st, R.wait, R.many, R.plan, ?_, fun y hy => ?_, R.eas, R.left⟩
  · show TP c (List.map (fun u : Hu => u.own) (List.map _ M.hues.zipIdx)) D.cells
    rw [List.map_map]
    show TP c (M.hues.zipIdx.map fun (x : Hu × Nat) => M.code.own x.2) D.cells
    rw [eo, R.cells]
    refine ⟨rfl, by rw [List.length_map, List.length_range], fun o ho => ?_, fun q z hq => ?_, fun q i k hq => ⟨k, oA q i k hq, (cok.cells _ (List.mem_of_getElem? hq)).2, R.eas _ (List.mem_of_getElem? hq)⟩, fun q i hq => ownC_none hq⟩
    · obtain ⟨i, _, rfl⟩ := List.mem_map.mp ho
      exact List.length_map _
    · rw [hq]
      cases z with
      | ins i k =>
        show some _ = some (Cel.ins i ((ownA _ q i).getD k))
        rw [oA q i k hq]
        rfl
      | _ => rfl
  · show List.replicate D.votes.length u.regs = List.map (fun u : Hu => u.regs) (List.map _ M.hues.zipIdx)
    rw [List.map_map, hv]
    exact (cm u.regs).symm
  · show List.replicate D.votes.length u.bank = List.map (fun u : Hu => u.bank) (List.map _ M.hues.zipIdx)
    rw [List.map_map, hv]
    exact (cm u.bank).symm
  · show List.replicate D.heads.length ((p : Int) + 1) = List.map (fun u : Hu => u.ptr) (List.map _ M.hues.zipIdx)
    rw [List.map_map, ← R.vlen, hv]
    exact (cm ((p : Int) + 1)).symm
  · show List.replicate D.votes.length none = List.map (fun u : Hu => u.slot) (List.map _ M.hues.zipIdx)
    rw [List.map_map, hv]
    exact (cm (none : Option Int)).symm
  · show (List.map _ M.hues.zipIdx).length = _
    rw [List.length_map, List.length_zipIdx]
    exact R.len
  · obtain ⟨x, _, rfl⟩ := List.mem_map.mp hy
    exact ⟨u8.1, u8.2.1, by show 0 ≤ (p : Int) + 1; omega, u8.2.2.2⟩
/-- an instruction of one hue -/
theorem val_rng {m : Nat} (hm : 2 ≤ m) (wd : Wd) {a b : Int} (ha : 0 ≤ a ∧ a < m) (hb : 0 ≤ b ∧ b < m) : 0 ≤ wd.val m a b ∧ wd.val m a b < m := by
  have h0 : (m : Int) ≠ 0 := by omega
  have h1 : (0 : Int) < m := by omega
  cases wd with
  | plus => exact ⟨Int.emod_nonneg _ h0, Int.emod_lt_of_pos _ h1⟩
  | minus => exact ⟨Int.emod_nonneg _ h0, Int.emod_lt_of_pos _ h1⟩
  | times => exact ⟨Int.emod_nonneg _ h0, Int.emod_lt_of_pos _ h1⟩
  | rest =>
    show 0 ≤ (if b = 0 then (0 : Int) else a % b) ∧ (if b = 0 then (0 : Int) else a % b) < m
    by_cases z : b = 0
    · rw [if_pos z]
      exact ⟨Int.le_refl _, h1⟩
    · rw [if_neg z]
      have h2 := Int.emod_nonneg a z
      have h3 := Int.emod_lt_of_pos a (show 0 < b by omega)
      omega
  | less =>
    show 0 ≤ (if a < b then (1 : Int) else 0) ∧ (if a < b then (1 : Int) else 0) < m
    split <;> omega
  | same =>
    show 0 ≤ (if a = b then (1 : Int) else 0) ∧ (if a = b then (1 : Int) else 0) < m
    split <;> omega
theorem MR.act (R : MR c M D) (cok : c.Ok) {i : Nat} (hi : i < c.h) {k : Ins} (hk : insOk c.size c.bank.length k) (ek : easyI k) (p : Nat) : MR c (M.doIns p i k) (cellD D p (.ins i k)) := by
  have Rp := R.ptr ((p : Int) + 1) (by omega)
  have hl : i < (M.allPtr ((p : Int) + 1)).hues.length := by rw [Rp.len]; exact hi
  have hu : (M.allPtr ((p : Int) + 1)).hues[i]? = some (M.allPtr ((p : Int) + 1)).hues[i] := List.getElem?_eq_getElem hl
  have es : M.doIns p i k = { M.allPtr ((p : Int) + 1) with hues := upHue (M.allPtr ((p : Int) + 1)).hues i fun u => u.act M.code.size k } := rfl
  generalize (M.allPtr ((p : Int) + 1)).hues[i] = u at *
  obtain ⟨e1, e2, e3, e4⟩ := Rp.regs_at hu
  obtain ⟨u1, u2, u3, u4, u5⟩ := Rp.us u (List.mem_of_getElem? hu)
  have e1' : D.regs[i]? = some u.regs := e1
  have er : D.regs.getD i [] = u.regs := by rw [List.getD_eq_getElem?_getD, e1']; rfl
  have e2' : D.banks[i]? = some u.bank := e2
  have eb : D.banks.getD i [] = u.bank := by rw [List.getD_eq_getElem?_getD, e2']; rfl
  have eg : ∀ k, regD D i k = rg u k := fun k => by
    unfold regD rg
    rw [er]
  have esz : (D.size : Int) = (M.code.size : Int) := by rw [R.size, R.code]
  have rgr : ∀ k, k < 8 → 0 ≤ rg u k ∧ rg u k < c.size := fun k hk => by
    have hkl : k < u.regs.length := by rw [u1]; exact hk
    have e : rg u k = u.regs[k] := by
      unfold rg
      rw [List.getD_eq_getElem?_getD, List.getElem?_eq_getElem hkl]
      rfl
    rw [e]
    exact u4 _ (List.getElem_mem hkl)
  have hcs : (M.code.size : Int) = (c.size : Int) := by rw [R.code]
  rw [es]
  cases k with
  | set b n =>
    have z := Rp.up hu (fun u => u.act M.code.size (.set b n)) rfl ⟨by show (u.regs.set b n).length = 8; rw [List.length_set]; exact u1, u2, u3, set_rng u4 ⟨hk.2.1, hk.2.2⟩, u5⟩
    have e : ({ ptD D ((p : Int) + 1) with regs := (ptD D ((p : Int) + 1)).regs.set i (u.act M.code.size (.set b n)).regs, banks := (ptD D ((p : Int) + 1)).banks.set i (u.act M.code.size (.set b n)).bank, heads := (ptD D ((p : Int) + 1)).heads.set i (u.act M.code.size (.set b n)).ptr, slots := (ptD D ((p : Int) + 1)).slots.set i (u.act M.code.size (.set b n)).slot } : WD) = cellD D p (.ins i (.set b n)) := by
      show ({ ptD D ((p : Int) + 1) with regs := D.regs.set i (u.regs.set b n), banks := (ptD D ((p : Int) + 1)).banks.set i u.bank, heads := (ptD D ((p : Int) + 1)).heads.set i u.ptr, slots := (ptD D ((p : Int) + 1)).slots.set i u.slot } : WD) = { ptD D ((p : Int) + 1) with regs := D.regs.set i ((D.regs.getD i []).set b n) }
      rw [set_self e2, set_self e3, set_self e4, er]
    rw [e] at z
    exact z
  | offer b =>
    have z := Rp.up hu (fun u => u.act M.code.size (.offer b)) rfl ⟨u1, u2, u3, u4, u5⟩
    have e : ({ ptD D ((p : Int) + 1) with regs := (ptD D ((p : Int) + 1)).regs.set i (u.act M.code.size (.offer b)).regs, banks := (ptD D ((p : Int) + 1)).banks.set i (u.act M.code.size (.offer b)).bank, heads := (ptD D ((p : Int) + 1)).heads.set i (u.act M.code.size (.offer b)).ptr, slots := (ptD D ((p : Int) + 1)).slots.set i (u.act M.code.size (.offer b)).slot } : WD) = cellD D p (.ins i (.offer b)) := by
      show ({ ptD D ((p : Int) + 1) with regs := (ptD D ((p : Int) + 1)).regs.set i u.regs, banks := (ptD D ((p : Int) + 1)).banks.set i u.bank, heads := (ptD D ((p : Int) + 1)).heads.set i u.ptr, slots := D.slots.set i (some (rg u b)) } : WD) = { ptD D ((p : Int) + 1) with slots := D.slots.set i (some (regD D i b)) }
      rw [set_self e1, set_self e2, set_self e3]
      have eg : regD D i b = rg u b := by
        unfold regD rg
        rw [er]
      rw [eg]
    rw [e] at z
    exact z
  | op wd b c0 d =>
    obtain ⟨hb, hc, hd⟩ : b < 8 ∧ c0 < 8 ∧ d < 8 := hk
    have z := Rp.up hu (fun u => u.act M.code.size (.op wd b c0 d)) rfl ⟨by show (u.regs.set b _).length = 8; rw [List.length_set]; exact u1, u2, u3, set_rng u4 (by rw [hcs]; exact val_rng cok.size.1 wd (rgr c0 hc) (rgr d hd)), u5⟩
    have e : ({ ptD D ((p : Int) + 1) with regs := (ptD D ((p : Int) + 1)).regs.set i (u.act M.code.size (.op wd b c0 d)).regs, banks := (ptD D ((p : Int) + 1)).banks.set i (u.act M.code.size (.op wd b c0 d)).bank, heads := (ptD D ((p : Int) + 1)).heads.set i (u.act M.code.size (.op wd b c0 d)).ptr, slots := (ptD D ((p : Int) + 1)).slots.set i (u.act M.code.size (.op wd b c0 d)).slot } : WD) = cellD D p (.ins i (.op wd b c0 d)) := by
      show ({ ptD D ((p : Int) + 1) with regs := D.regs.set i (u.regs.set b (wd.val M.code.size (rg u c0) (rg u d))), banks := (ptD D ((p : Int) + 1)).banks.set i u.bank, heads := (ptD D ((p : Int) + 1)).heads.set i u.ptr, slots := (ptD D ((p : Int) + 1)).slots.set i u.slot } : WD) = { ptD D ((p : Int) + 1) with regs := D.regs.set i ((D.regs.getD i []).set b (wd.val D.size (regD D i c0) (regD D i d))) }
      rw [set_self e2, set_self e3, set_self e4, er, eg, eg, esz]
    rw [e] at z
    exact z
  | get b c0 bs ln =>
    obtain ⟨hb, hc, hl1, hl2⟩ : b < 8 ∧ c0 < 8 ∧ 1 ≤ ln ∧ bs + ln ≤ c.bank.length := hk
    have hmod1 := Int.emod_nonneg (rg u c0) (show (ln : Int) ≠ 0 by omega)
    have hmod2 := Int.emod_lt_of_pos (rg u c0) (show (0 : Int) < ln by omega)
    have hix : bs + (rg u c0 % (ln : Int)).toNat < u.bank.length := by
      rw [u2]
      omega
    have hy : 0 ≤ u.bank.getD (bs + (rg u c0 % (ln : Int)).toNat) 0 ∧ u.bank.getD (bs + (rg u c0 % (ln : Int)).toNat) 0 < c.size := by
      rw [List.getD_eq_getElem?_getD, List.getElem?_eq_getElem hix]
      exact u5 _ (List.getElem_mem hix)
    have z := Rp.up hu (fun u => u.act M.code.size (.get b c0 bs ln)) rfl ⟨by show (u.regs.set b _).length = 8; rw [List.length_set]; exact u1, u2, u3, set_rng u4 hy, u5⟩
    have e : ({ ptD D ((p : Int) + 1) with regs := (ptD D ((p : Int) + 1)).regs.set i (u.act M.code.size (.get b c0 bs ln)).regs, banks := (ptD D ((p : Int) + 1)).banks.set i (u.act M.code.size (.get b c0 bs ln)).bank, heads := (ptD D ((p : Int) + 1)).heads.set i (u.act M.code.size (.get b c0 bs ln)).ptr, slots := (ptD D ((p : Int) + 1)).slots.set i (u.act M.code.size (.get b c0 bs ln)).slot } : WD) = cellD D p (.ins i (.get b c0 bs ln)) := by
      show ({ ptD D ((p : Int) + 1) with regs := D.regs.set i (u.regs.set b (u.bank.getD (bs + (rg u c0 % (ln : Int)).toNat) 0)), banks := (ptD D ((p : Int) + 1)).banks.set i u.bank, heads := (ptD D ((p : Int) + 1)).heads.set i u.ptr, slots := (ptD D ((p : Int) + 1)).slots.set i u.slot } : WD) = { ptD D ((p : Int) + 1) with regs := D.regs.set i ((D.regs.getD i []).set b ((D.banks.getD i []).getD (bs + (regD D i c0 % (ln : Int)).toNat) 0)) }
      rw [set_self e2, set_self e3, set_self e4, er, eb, eg]
    rw [e] at z
    exact z
  | put b c0 bs ln =>
    obtain ⟨hb, hc, hl1, hl2⟩ : b < 8 ∧ c0 < 8 ∧ 1 ≤ ln ∧ bs + ln ≤ c.bank.length := hk
    have z := Rp.up hu (fun u => u.act M.code.size (.put b c0 bs ln)) rfl ⟨u1, by show (u.bank.set _ _).length = _; rw [List.length_set]; exact u2, u3, u4, set_rng u5 (rgr b hb)⟩
    have e : ({ ptD D ((p : Int) + 1) with regs := (ptD D ((p : Int) + 1)).regs.set i (u.act M.code.size (.put b c0 bs ln)).regs, banks := (ptD D ((p : Int) + 1)).banks.set i (u.act M.code.size (.put b c0 bs ln)).bank, heads := (ptD D ((p : Int) + 1)).heads.set i (u.act M.code.size (.put b c0 bs ln)).ptr, slots := (ptD D ((p : Int) + 1)).slots.set i (u.act M.code.size (.put b c0 bs ln)).slot } : WD) = cellD D p (.ins i (.put b c0 bs ln)) := by
      show ({ ptD D ((p : Int) + 1) with regs := (ptD D ((p : Int) + 1)).regs.set i u.regs, banks := D.banks.set i (u.bank.set (bs + (rg u c0 % (ln : Int)).toNat) (rg u b)), heads := (ptD D ((p : Int) + 1)).heads.set i u.ptr, slots := (ptD D ((p : Int) + 1)).slots.set i u.slot } : WD) = { ptD D ((p : Int) + 1) with banks := D.banks.set i ((D.banks.getD i []).set (bs + (regD D i c0 % (ln : Int)).toNat) (regD D i b)) }
      rw [set_self e1, set_self e3, set_self e4, eb, eg, eg]
    rw [e] at z
    exact z
theorem MR.take (R : MR c M D) (cok : c.Ok) (b wd : Nat) :
    MR c { M with hues := (M.hues.zipIdx.map fun (u, i) => if i < wd then { u with regs := u.regs.set b (M.left.headD 0 % (M.code.size : Int)) } else u), row := M.row ++ [.tak (M.left.headD 0 % (M.code.size : Int))], left := M.left.drop 1 } (tkD D b wd) := by
  have en : tkN D = M.left.headD 0 % (M.code.size : Int) := by
    unfold tkN
    rw [R.left, R.size, R.code]
  have get : ∀ i u, (M.hues.zipIdx.map fun (x : Hu × Nat) => if x.2 < wd then { x.1 with regs := x.1.regs.set b (M.left.headD 0 % (M.code.size : Int)) } else x.1)[i]? = some u → ∃ u0, M.hues[i]? = some u0 ∧ u = (if i < wd then { u0 with regs := u0.regs.set b (M.left.headD 0 % (M.code.size : Int)) } else u0) := fun i u h => by
    rw [List.getElem?_map, List.getElem?_zipIdx] at h
    cases e : M.hues[i]? with
    | none =>
      rw [e] at h
      cases h
    | some u0 =>
      rw [e] at h
      have h := Option.some.inj h
      refine ⟨u0, rfl, ?_⟩
      rw [← h]
      simp only [Nat.zero_add]
  have mapf : ∀ {β : Type} (f : Hu → β), (∀ u r, f { u with regs := r } = f u) → (M.hues.zipIdx.map fun (x : Hu × Nat) => if x.2 < wd then { x.1 with regs := x.1.regs.set b (M.left.headD 0 % (M.code.size : Int)) } else x.1).map f = M.hues.map f := fun f hf => by
    refine List.ext_getElem? fun j => ?_
    rw [List.getElem?_map, List.getElem?_map, List.getElem?_map, List.getElem?_zipIdx]
    cases M.hues[j]? with
    | none => rfl
    | some u0 =>
      show some (f _) = some (f u0)
      congr 1
      dsimp only
      split
      · exact hf _ _
      · rfl
  have hrng : 0 ≤ M.left.headD 0 % (M.code.size : Int) ∧ M.left.headD 0 % (M.code.size : Int) < c.size := by
    have := cok.size.1
    rw [R.code]
    exact ⟨Int.emod_nonneg _ (by omega), Int.emod_lt_of_pos _ (by omega)⟩
  refine ⟨R.code, R.votes, R.size, R.cells, ?_, ?_, ?_, ?_, ?_, ?_, R.done, R.st, R.wait, R.many, R.plan, ?_, fun u hu => ?_, R.eas, ?_⟩
  · have e := mapf (fun u : Hu => u.own) fun _ _ => rfl
    show TP c (List.map (fun u : Hu => u.own) (M.hues.zipIdx.map fun (x : Hu × Nat) => if x.2 < wd then { x.1 with regs := x.1.regs.set b (M.left.headD 0 % (M.code.size : Int)) } else x.1)) D.tape
    rw [e]
    exact R.tpp
  · show tkR D.regs wd b (tkN D) = _
    rw [en, R.regs]
    refine List.ext_getElem? fun j => ?_
    unfold tkR
    rw [List.getElem?_mapIdx, List.getElem?_map, List.getElem?_map, List.getElem?_map, List.getElem?_zipIdx]
    cases M.hues[j]? with
    | none => rfl
    | some u0 =>
      show some _ = some _
      congr 1
      dsimp only
      rw [Nat.zero_add]
      split <;> rfl
  · exact R.banks.trans (mapf _ fun _ _ => rfl).symm
  · exact R.heads.trans (mapf _ fun _ _ => rfl).symm
  · exact R.slots.trans (mapf _ fun _ _ => rfl).symm
  · show D.row ++ [.tak (tkN D)] = M.row ++ [.tak _]
    rw [en, R.row]
  · show (List.map _ M.hues.zipIdx).length = _
    rw [List.length_map, List.length_zipIdx]
    exact R.len
  · obtain ⟨i, hi⟩ := List.mem_iff_getElem?.mp hu
    obtain ⟨u0, h0, rfl⟩ := get i u hi
    have z := R.us u0 (List.mem_of_getElem? h0)
    split
    · exact ⟨by show (u0.regs.set b _).length = 8; rw [List.length_set]; exact z.1, z.2.1, z.2.2.1, set_rng z.2.2.2.1 hrng, z.2.2.2.2⟩
    · exact z
  · show M.left.drop 1 = D.given.drop (if D.taken < D.given.length then D.taken + 1 else D.taken)
    rw [R.left, List.drop_drop]
    split
    · rfl
    · rw [List.drop_eq_nil_of_le (by omega), List.drop_eq_nil_of_le (by omega)]
theorem MR.cell (R : MR c M D) (cok : c.Ok) {p : Nat} {z : Cel} (hz : c.cells[p]? = some z) :
    (cellB D (currA (M.hues.map (·.own)) p z) = true → MR c (M.cell p z) (cellD D p (currA (M.hues.map (·.own)) p z))) ∧ (cellB D (currA (M.hues.map (·.own)) p z) = false → M.cell p z = M.caught ∧ cellD D p (currA (M.hues.map (·.own)) p z) = D) := by
  have Rp := R.ptr ((p : Int) + 1) (by omega)
  have ez := R.eas _ (List.mem_of_getElem? hz)
  have zok := cok.cells _ (List.mem_of_getElem? hz)
  cases z with
  | ins i k =>
    obtain ⟨k', e1, e2, e3⟩ := R.tpp.ow p i k hz
    have ec : currA (M.hues.map (·.own)) p (.ins i k) = .ins i k' := by
      show Cel.ins i ((ownA _ p i).getD k) = _
      rw [e1]
      rfl
    have es : M.cell p (.ins i k) = M.doIns p i k' := by
      show (match M.ownAt p i with | some k => M.doIns p i k | none => M.allPtr ((p : Int) + 1)) = _
      rw [ownAt_A, e1]
    rw [ec, es]
    exact ⟨fun _ => R.act cok zok.1 e2 e3 p, fun h => (by cases h)⟩
  | shw q wd =>
    show ((agS D wd).isSome = true → MR c (M.cell p (.shw q wd)) (if (agS D wd).isSome = true then shwD (ptD D ((p : Int) + 1)) q wd else D)) ∧ ((agS D wd).isSome = false → M.cell p (.shw q wd) = M.caught ∧ (if (agS D wd).isSome = true then shwD (ptD D ((p : Int) + 1)) q wd else D) = D)
    have es : M.cell p (.shw q wd) = match M.agreedSlot wd with
      | some n => let N := (M.allPtr ((p : Int) + 1)).noSlots; { N with row := N.row ++ [.shw q n] }
      | none => M.caught := rfl
    rw [es, ← R.eqS wd]
    cases ha : agS D wd with
    | none => exact ⟨fun h => (by cases h), fun _ => ⟨rfl, rfl⟩⟩
    | some n =>
      refine ⟨fun _ => ?_, fun h => (by cases h)⟩
      have e : shwD (ptD D ((p : Int) + 1)) q wd = { noSl (ptD D ((p : Int) + 1)) with row := D.row ++ [.shw q n] } := by
        have ha' : agS (ptD D ((p : Int) + 1)) wd = some n := ha
        unfold shwD
        rw [ha']
        rfl
      show MR c _ (shwD (ptD D ((p : Int) + 1)) q wd)
      rw [e]
      exact Rp.emp.app (.shw q n)
  | trn g wd =>
    show ((agS D wd).isSome = true → MR c (M.cell p (.trn g wd)) (if (agS D wd).isSome = true then trnD (ptD D ((p : Int) + 1)) g wd else D)) ∧ ((agS D wd).isSome = false → M.cell p (.trn g wd) = M.caught ∧ (if (agS D wd).isSome = true then trnD (ptD D ((p : Int) + 1)) g wd else D) = D)
    have es : M.cell p (.trn g wd) = match M.agreedSlot wd with
      | some n => (M.allPtr (if n ≠ 0 then (g : Int) else (p : Int) + 1)).noSlots
      | none => M.caught := rfl
    rw [es, ← R.eqS wd]
    cases ha : agS D wd with
    | none => exact ⟨fun h => (by cases h), fun _ => ⟨rfl, rfl⟩⟩
    | some n =>
      refine ⟨fun _ => ?_, fun h => (by cases h)⟩
      have e : trnD (ptD D ((p : Int) + 1)) g wd = if n ≠ 0 then ptA (noSl (ptD D ((p : Int) + 1))) g else noSl (ptD D ((p : Int) + 1)) := by
        have ha' : agS (ptD D ((p : Int) + 1)) wd = some n := ha
        unfold trnD
        rw [ha']
      show MR c ((M.allPtr (if n ≠ 0 then (g : Int) else (p : Int) + 1)).noSlots) (trnD (ptD D ((p : Int) + 1)) g wd)
      rw [e]
      by_cases hn : n = 0
      · rw [if_neg (fun y => y hn), if_neg (fun y => y hn)]
        exact Rp.emp
      · rw [if_pos hn, if_pos hn]
        exact R.turn p g
  | tak b wd => exact ⟨fun _ => Rp.take cok b wd, fun h => (by cases h)⟩
  | gto g => exact ⟨fun _ => R.goto p g, fun h => (by cases h)⟩
  | stp => exact ⟨fun _ => Rp.stop, fun h => (by cases h)⟩
  | mrk =>
    show ((agM D).isSome = true → MR c (M.cell p .mrk) (if (agM D).isSome = true then mrkD (ptD D ((p : Int) + 1)) else D)) ∧ ((agM D).isSome = false → M.cell p .mrk = M.caught ∧ (if (agM D).isSome = true then mrkD (ptD D ((p : Int) + 1)) else D) = D)
    have es : M.cell p .mrk = match M.agreedState with
      | some (rs, bs) => { M with hues := M.hues.zipIdx.map fun (_, i) => { regs := rs, bank := bs, ptr := (p : Int) + 1, slot := none, own := M.code.own i } }
      | none => M.caught := rfl
    rw [es]
    have hA := R.eqM
    cases ha : agM D with
    | none =>
      rw [ha] at hA
      rw [← hA]
      exact ⟨fun h => (by cases h), fun _ => ⟨rfl, rfl⟩⟩
    | some s =>
      obtain ⟨rs, bs⟩ := s
      rw [ha] at hA
      refine ⟨fun _ => ?_, fun h => (by cases h)⟩
      have e : mrkD (ptD D ((p : Int) + 1)) = mrkW (ptD D ((p : Int) + 1)) rs bs := by
        have ha' : agM (ptD D ((p : Int) + 1)) = some (rs, bs) := ha
        unfold mrkD
        rw [ha']
      show MR c _ (mrkD (ptD D ((p : Int) + 1)))
      rw [e]
      have z := R.mark cok p hA.symm
      rw [← hA]
      exact z
theorem cell_tick (D : WD) (p : Nat) (z : Cel) : cellD { D with done := D.done + 1 } p z = { cellD D p z with done := (cellD D p z).done + 1 } := by
  cases z with
  | shw q wd =>
    show (if (agS D wd).isSome = true then shwD (ptD { D with done := D.done + 1 } ((p : Int) + 1)) q wd else { D with done := D.done + 1 }) = _
    have e0 : cellD D p (.shw q wd) = if (agS D wd).isSome = true then shwD (ptD D ((p : Int) + 1)) q wd else D := rfl
    rw [e0]
    cases ha : agS D wd with
    | none => rfl
    | some n =>
      rw [if_pos (show (some n).isSome = true from rfl), if_pos (show (some n).isSome = true from rfl)]
      have h1 : agS (ptD { D with done := D.done + 1 } ((p : Int) + 1)) wd = some n := ha
      have h2 : agS (ptD D ((p : Int) + 1)) wd = some n := ha
      unfold shwD
      rw [h1, h2]
      rfl
  | trn g wd =>
    show (if (agS D wd).isSome = true then trnD (ptD { D with done := D.done + 1 } ((p : Int) + 1)) g wd else { D with done := D.done + 1 }) = _
    have e0 : cellD D p (.trn g wd) = if (agS D wd).isSome = true then trnD (ptD D ((p : Int) + 1)) g wd else D := rfl
    rw [e0]
    cases ha : agS D wd with
    | none => rfl
    | some n =>
      rw [if_pos (show (some n).isSome = true from rfl), if_pos (show (some n).isSome = true from rfl)]
      have h1 : agS (ptD { D with done := D.done + 1 } ((p : Int) + 1)) wd = some n := ha
      have h2 : agS (ptD D ((p : Int) + 1)) wd = some n := ha
      unfold trnD
      rw [h1, h2]
      dsimp only
      split <;> rfl
  | mrk =>
    show (if (agM D).isSome = true then mrkD (ptD { D with done := D.done + 1 } ((p : Int) + 1)) else { D with done := D.done + 1 }) = _
    have e0 : cellD D p .mrk = if (agM D).isSome = true then mrkD (ptD D ((p : Int) + 1)) else D := rfl
    rw [e0]
    cases ha : agM D with
    | none => rfl
    | some s =>
      rw [if_pos (show (some s).isSome = true from rfl), if_pos (show (some s).isSome = true from rfl)]
      have h1 : agM (ptD { D with done := D.done + 1 } ((p : Int) + 1)) = some s := ha
      have h2 : agM (ptD D ((p : Int) + 1)) = some s := ha
      unfold mrkD
      rw [h1, h2]
      rfl
  | ins i k => cases k <;> rfl
  | _ => rfl
end
end Hue
namespace Hue
open L2 PySem.Spec PySem PyProof.Rows
def spDoStep (K : PySem.W.Frag) (CW : Addr) : Sp := fun vs H Q _ => ∃ (x : Addr) (v : WV) (D : WD) (c : Code) (M : Mac), vs = [.ref x] ∧ WL K CW H x v D ∧ c.Ok ∧ MR c M D ∧ M.row.length + 1 ≤ 16000000 ∧
  ∀ H' v' D', WL K CW H' x v' D' → MR c M.exec.tick D' → Chg (v.F x) H H' (v'.F x) → Q .non H'
def spComing (K : PySem.W.Frag) (CW : Addr) : Sp := fun vs H Q _ => ∃ (x : Addr) (v : WV) (D : WD) (c : Code) (M : Mac), vs = [.ref x] ∧ WL K CW H x v D ∧ c.Ok ∧ MR c M D ∧
  ∀ H' v' D', WL K CW H' x v' D' → MR c M.due D' → Chg (v.F x) H H' (v'.F x) → Q .non H'
def spGoOn (K : PySem.W.Frag) (CW : Addr) : Sp := fun vs H Q _ => ∃ (x : Addr) (n : Nat) (v : WV) (D : WD) (c : Code) (M : Mac), vs = [.ref x, .int n] ∧ WL K CW H x v D ∧ c.Ok ∧ MR c M D ∧ n ≤ 1000000 ∧ M.row.length + n ≤ 16000000 ∧
  ∀ H' v' D', WL K CW H' x v' D' → MR c (M.go n) D' → Chg (v.F x) H H' (v'.F x) → Q .non H'
section
variable {P : Program} {w : World} {K : PySem.W.Frag} {mg : Str → Option Value} {base : Heap}
theorem WL.num {CW : Addr} {H : Hp} {x : Addr} {v : WV} {D : WD} (L : WL K CW H x v D) (s d : Nat) (st : Sta) : WL K CW (upd H x (.ins CW v.dw (wfs v { D with smany := s, done := d, st := st }))) x v { D with smany := s, done := d, st := st } :=
  L.put ⟨L.p.votes, L.p.tape, L.p.first, L.p.nums, L.p.banks, L.p.heads, L.p.slots, L.p.given, L.p.planned, L.p.shown, L.p.regs, L.p.bank⟩ rfl L.nd
theorem scDoStep : FnScope ["works", "at"] ["works"] (defScope sDoStep) := ⟨rfl, rfl, rfl, by decide +kernel, rfl, by decide +kernel, by decide +kernel⟩
theorem exec_none {M : Mac} (h : M.at_ = none) : M.exec = M.caught := by
  unfold Mac.exec
  rw [h]
theorem exec_some {M : Mac} {p : Nat} {z : Cel} (h : M.at_ = some p) (hz : M.code.cells[p]? = some z) : M.exec = M.cell p z := by
  unfold Mac.exec
  rw [h]
  show (match M.code.cells[p]? with | some z => M.cell p z | none => M.caught) = _
  rw [hz]
theorem at_lt {M : Mac} {p : Nat} (h : M.at_ = some p) : p < M.code.cells.length := by
  unfold Mac.at_ at h
  split at h
  · split at h
    · rename_i q _ hq
      have := Option.some.inj h
      omega
    · cases h
  · cases h
theorem ok_doStep {f C f0 : Addr} {fd : FuncData} (F : Fun K "do_step" "do_step" sDoStep f fd) (Z : WC K mg C f0) (D1 : Df P w K mg base 4 "fetched" ["works"] (spFetched K C)) (D2 : Df P w K mg base 4 "do_cell" ["works", "at"] (spDoCell K C)) : FnOk P w K mg base CX0 5 f fd ["works"] (spDoStep K C) := by
  obtain ⟨f1, fd1, Gfetched, gfetched, kfetched, bfetched⟩ := D1
  obtain ⟨f2, fd2, Gdo_cell, gdo_cell, kdo_cell, bdo_cell⟩ := D2
  refine F.ok scDoStep (fun vs H Q E h => ?_) (fun cdv A outer s H vs Q E hr h => ?_)
  · obtain ⟨x, v, D, c, M, rfl, _⟩ := h
    rfl
  · have nd := scDoStep.nd
    obtain ⟨x, v, D, c, M, rfl, L, cok, R, hrow, q⟩ := h
    refine ⟨_, pss_cons (ps_set (i := 1) nd rfl (.inl rfl) (pe_call Gfetched hr rfl gfetched kfetched bfetched .nil pass0 (pa_cons (pv 0) pa_nil)))
      (pss_cons (ps_fldaug (pv 0) pe_int in_add)
      (pss_one (ps_if (PW.pt (pw_or (pt_cmpR op_isN (pv 1) pe_non (nomark _)) (pw_or1 (pt_not (pt_val (pe_call Gdo_cell hr rfl gdo_cell kdo_cell bdo_cell .nil pass0 (pa_cons (pv 0) (pa_cons (pv 1) pa_nil))))))))
      (pss_one (ps_fld (pv 0) pe_str rfl))
      pss_nil))), ?_⟩
    refine ⟨_, rfl, x, v, D, rfl, L, by rw [R.votes]; exact cok.votes.1, ?_⟩
    refine ⟨_, rfl, x, C, v.dw, _, _, rfl, L.ins, Z.cls, Z.n_done, wl_done v D, _, _, rfl, rfl, v.dw, _, L.ins, wl_len v D, ?_⟩
    have ep : putF "done" (V.int ((D.done : Int) + 1)) (wfs v D) = wfs v { D with done := D.done + 1 } := wp_done v D (D.done + 1)
    rw [ep]
    have L1 := L.num D.smany (D.done + 1) D.st
    have c1 : Chg (v.F x) H _ (v.F x) := Chg.one WV.F_w (L.tk_w (.ins C v.dw (wfs v { D with done := D.done + 1 })))
    rw [R.fet]
    cases hat : M.at_ with
    | none =>
      refine ⟨_, rfl, rfl, _, rfl, iteT (iteT ?_)⟩
      refine ⟨_, rfl, x, C, v.dw, _, rfl, L1.ins, Z.cls, Z.n_word, wl_len _ _, ?_⟩
      have ep2 := wp_caught v { D with done := D.done + 1 }
      rw [ep2]
      refine q _ v { D with done := D.done + 1, st := .caught } (L1.num D.smany (D.done + 1) .caught) ?_ (c1.trans (Chg.one WV.F_w (L1.tk_w _)))
      rw [exec_none hat]
      exact R.caught.tick
    | some p =>
      have hp := at_lt hat
      rw [R.code] at hp
      have hz : c.cells[p]? = some c.cells[p] := List.getElem?_eq_getElem hp
      refine ⟨_, rfl, rfl, false, rfl, iteF ?_⟩
      have dok : DOk c { D with done := D.done + 1 } := by
        have z := R.ok cok
        exact ⟨z.votes, z.size, z.cells, z.lt, z.lr, z.lb, z.lh, z.ls, z.r8, z.bl, z.tp, z.pos, z.rv, z.bv⟩
      have htp := R.tpp.tp p _ hz
      obtain ⟨m1, m2⟩ := R.cell cok hz
      rw [exec_some hat (by rw [R.code]; exact hz)] at q
      have ect := cell_tick D p (currA (M.hues.map (·.own)) p c.cells[p])
      have eb : cellB { D with done := D.done + 1 } (currA (M.hues.map (·.own)) p c.cells[p]) = cellB D (currA (M.hues.map (·.own)) p c.cells[p]) := by
        cases currA (M.hues.map (·.own)) p c.cells[p] <;> rfl
      refine ⟨_, rfl, _, rfl, x, v, { D with done := D.done + 1 }, c, p, _, rfl, L1, cok, dok, htp, by show D.row.length + 1 ≤ 16000000; rw [R.row]; exact hrow, fun H' v' L2 c2 => ?_⟩
      rw [ect] at L2
      rw [eb]
      cases hb : cellB D (currA (M.hues.map (·.own)) p c.cells[p]) with
      | true =>
        refine ⟨_, rfl, iteF ?_⟩
        exact q _ _ _ L2 (m1 hb).tick (c1.trans c2)
      | false =>
        obtain ⟨g1, g2⟩ := m2 hb
        rw [g2] at L2
        refine ⟨_, rfl, iteT ?_⟩
        refine ⟨_, rfl, x, C, v'.dw, _, rfl, L2.ins, Z.cls, Z.n_word, wl_len _ _, ?_⟩
        have ep2 := wp_caught v' { D with done := D.done + 1 }
        rw [ep2]
        refine q _ v' { D with done := D.done + 1, st := .caught } (L2.num D.smany (D.done + 1) .caught) ?_ ((c1.trans c2).trans (Chg.one WV.F_w (L2.tk_w _)))
        rw [g1]
        exact R.caught.tick
/-! ### the strikes that are due -/
theorem strD_more (D : WD) (i : Nat) (p : Plc) (nw : Nw) : (strD D i p nw).smany = D.smany ∧ (strD D i p nw).plan = D.plan ∧ (strD D i p nw).done = D.done ∧ (strD D i p nw).st = D.st := by
  cases p <;> cases nw <;> exact ⟨rfl, rfl, rfl, rfl⟩
theorem due_cons {M : Mac} {k : Stk} {r : List Stk} (h : M.wait = k :: r) (e : k.step = M.steps) : M.due = ({ M.stk k with wait := r } : Mac).due := by
  unfold Mac.due
  have e1 : M.wait.takeWhile (fun k => decide (k.step = M.steps)) = k :: r.takeWhile fun k => decide (k.step = M.steps) := by
    rw [h, List.takeWhile_cons, decide_eq_true e]
    rfl
  have e2 : M.wait.dropWhile (fun k => decide (k.step = M.steps)) = r.dropWhile fun k => decide (k.step = M.steps) := by
    rw [h, List.dropWhile_cons, decide_eq_true e]
    rfl
  have hw : ∀ (ks : List Stk) (N : Mac) (ws : List Stk), ({ ks.foldl Mac.stk { N with wait := ws } with wait := [] } : Mac) = { ks.foldl Mac.stk N with wait := [] } := fun ks => by
    induction ks with
    | nil => intro N ws; rfl
    | cons k0 ks ih => intro N ws; exact ih (N.stk k0) ws
  show ({ (M.wait.takeWhile _).foldl Mac.stk M with wait := M.wait.dropWhile _ } : Mac) = { ((r.takeWhile fun k => decide (k.step = M.steps)).foldl Mac.stk { M.stk k with wait := r }) with wait := r.dropWhile fun k => decide (k.step = M.steps) }
  rw [e1, e2]
  have z := hw (r.takeWhile fun k => decide (k.step = M.steps)) (M.stk k) r
  have z2 : ∀ (A B : Mac) (ws : List Stk), ({ A with wait := [] } : Mac) = { B with wait := [] } → ({ A with wait := ws } : Mac) = { B with wait := ws } := fun A B ws h => by
    have := congrArg (fun N : Mac => ({ N with wait := ws } : Mac)) h
    exact this
  exact z2 _ _ _ z.symm
theorem due_stop {M : Mac} {k : Stk} {r : List Stk} (h : M.wait = k :: r) (e : ¬ k.step = M.steps) : M.due = M := by
  unfold Mac.due
  have e1 : M.wait.takeWhile (fun k => decide (k.step = M.steps)) = [] := by
    rw [h, List.takeWhile_cons, decide_eq_false e]
    rfl
  have e2 : M.wait.dropWhile (fun k => decide (k.step = M.steps)) = M.wait := by
    rw [h, List.dropWhile_cons, decide_eq_false e]
    rfl
  rw [e1, e2]
  rfl
theorem MR.next {c : Code} {M : Mac} {D : WD} (R : MR c M D) {k : Stk} (hk : D.plan[D.smany]? = some k) : MR c { M.stk k with wait := D.plan.drop (D.smany + 1) } { strD D k.hue k.plc k.new with smany := D.smany + 1 } := by
  have hm := R.plan.2 k (List.mem_of_getElem? hk)
  have z := R.strike hm.1.2.1 hm.1.2.2 hm.2
  obtain ⟨e1, e2, e3, e4⟩ := strD_more D k.hue k.plc k.new
  refine ⟨z.code, z.votes, z.size, z.cells, z.tpp, z.regs, z.banks, z.heads, z.slots, z.row, z.done, z.st, ?_, ?_, ?_, z.len, z.us, z.eas, z.left⟩
  · show D.plan.drop (D.smany + 1) = (strD D k.hue k.plc k.new).plan.drop (D.smany + 1)
    rw [e2]
  · show D.smany + 1 ≤ (strD D k.hue k.plc k.new).plan.length
    rw [e2]
    exact (List.getElem?_eq_some_iff.mp hk).1
  · show (strD D k.hue k.plc k.new).plan.length ≤ 400 ∧ _
    exact z.plan
theorem scComing : FnScope ["works", "_", "hue", "place", "new"] ["works"] (defScope sDoComing) := ⟨rfl, rfl, rfl, by decide +kernel, rfl, by decide +kernel, by decide +kernel⟩
theorem ok_coming {f C f0 : Addr} {fd : FuncData} (F : Fun K "do_coming" "do_coming" sDoComing f fd) (Z : WC K mg C f0) (T : Bt mg) (D1 : Df P w K mg base 4 "do_strike" ["works", "hue", "place", "new"] (spDoStrike K C)) : FnOk P w K mg base CX0 5 f fd ["works"] (spComing K C) := by
  obtain ⟨f1, fd1, Gdo_strike, gdo_strike, kdo_strike, bdo_strike⟩ := D1
  refine F.ok scComing (fun vs H Q E h => ?_) (fun cdv A outer s H vs Q E hr h => ?_)
  · obtain ⟨x, v, D, c, M, rfl, _⟩ := h
    rfl
  · have nd := scComing.nd
    obtain ⟨x, v, D, c, M, rfl, L, cok, R, q⟩ := h
    refine ⟨_, pss_one (ps_while PassesOwn.never (PW.pt (pw_and (pt_cmpR op_lt (pe_fld (pv 0) rfl) (pe_callB call_len_seq (by rfl) T.len PySem.boot_len (pa_cons (pe_fld (pv 0) rfl) pa_nil)) (nomark _)) (pw_and1 (pt_cmpR op_eq (pe_ix ix_tup (pe_ix ix_list (pe_fld (pv 0) rfl) (pe_fld (pv 0) rfl) (fun _ _ => rfl)) pe_int (fun _ _ => rfl)) (pe_fld (pv 0) rfl) (nomark _)))))
      (pss_cons (ps_asg (pe_ix ix_list (pe_fld (pv 0) rfl) (pe_fld (pv 0) rfl) (fun _ _ => rfl)) (pg_tup (by rfl) (pgs_cons (pg_name (i := 1) nd rfl (.inl rfl)) (pgs_cons (pg_name (i := 2) nd rfl (.inl rfl)) (pgs_cons (pg_name (i := 3) nd rfl (.inl rfl)) (pgs_cons (pg_name (i := 4) nd rfl (.inl rfl)) pgs_nil))))))
        (pss_cons (ps_expr (pe_call Gdo_strike hr rfl gdo_strike kdo_strike bdo_strike .nil pass0 (pa_cons (pv 0) (pa_cons (pv 2) (pa_cons (pv 3) (pa_cons (pv 4) pa_nil))))))
        (pss_one (ps_fldaug (pv 0) pe_int in_add))))), ?_⟩
    refine ⟨fun m σ H' => ∃ (a b c' d : Option V) (v1 : WV) (D1 : WD) (M1 : Mac), σ = [some (.ref x), a, b, c', d] ∧ WL K C H' x v1 D1 ∧ MR c M1 D1 ∧ M1.due = M.due ∧ Chg (v.F x) H H' (v1.F x) ∧ m = D1.plan.length - D1.smany, ⟨_, none, none, none, none, v, D, M, rfl, L, R, rfl, Chg.refl _ _, rfl⟩, fun m σ H' h => ?_⟩
    obtain ⟨a, b, c', d, v1, D1, M1, rfl, L1, R1, hdue, c1, rfl⟩ := h
    obtain ⟨qs, q1, q2⟩ := L1.p.planned
    have hql : qs.length = D1.plan.length := by
      have := dps_len q2
      rw [List.length_map] at this
      exact this
    refine ⟨_, rfl, x, C, v1.dw, _, _, rfl, L1.ins, Z.cls, Z.n_struck_many, wl_struck_many v1 D1, _, rfl, x, C, v1.dw, _, _, rfl, L1.ins, Z.cls, Z.n_planned, wl_planned v1 D1, v1.pl, _, rfl, .inl (SqL.of q1), _, _, rfl, rfl, ?_⟩
    rw [hql]
    by_cases hlt : D1.smany < D1.plan.length
    · refine ⟨true, congrArg V.bl (decide_eq_true (by omega)), iteT ?_⟩
      have hk : D1.plan[D1.smany]? = some D1.plan[D1.smany] := List.getElem?_eq_getElem hlt
      have hw : M1.wait = D1.plan[D1.smany] :: D1.plan.drop (D1.smany + 1) := by
        rw [R1.wait, List.drop_eq_getElem_cons hlt]
      generalize D1.plan[D1.smany] = k at *
      have hqy : qs[D1.smany]? = some qs[D1.smany] := List.getElem?_eq_getElem (by omega)
      obtain ⟨dk, hd1, hd2⟩ := dps_get q2 hqy
      rw [List.getElem?_map, hk] at hd1
      cases hd1
      obtain ⟨ak, vp, vn, eak, hS, hP, hN⟩ := dp_stk hd2
      generalize qs[D1.smany] = qy at *
      subst eak
      refine ⟨_, rfl, x, C, v1.dw, _, _, rfl, L1.ins, Z.cls, Z.n_planned, wl_planned v1 D1, _, rfl, x, C, v1.dw, _, _, rfl, L1.ins, Z.cls, Z.n_struck_many, wl_struck_many v1 D1, v1.pl, _, _, _, rfl, rfl, SqL.of q1, atI_nat hqy, ak, _, 0, _, rfl, rfl, hS, at_of (j := 0) rfl rfl, _, rfl, x, C, v1.dw, _, _, rfl, L1.ins, Z.cls, Z.n_done, wl_done v1 D1, rfl, ?_⟩
      by_cases he : k.step = M1.steps
      · have he1 : decide (V.int (k.step : Int) = V.int (D1.done : Int)) = true := by
          rw [R1.done, he]
          exact decide_eq_true rfl
        refine ⟨true, congrArg V.bl he1, iteT ?_⟩
        refine ⟨_, fun _ _ h => h, ?_⟩
        refine ⟨_, rfl, x, C, v1.dw, _, _, rfl, L1.ins, Z.cls, Z.n_planned, wl_planned v1 D1, _, rfl, x, C, v1.dw, _, _, rfl, L1.ins, Z.cls, Z.n_struck_many, wl_struck_many v1 D1, v1.pl, _, _, _, rfl, rfl, SqL.of q1, atI_nat hqy, ?_⟩
        refine ⟨ak, _, rfl, hS, rfl, _, _, rfl, _, _, rfl, _, _, rfl, _, _, rfl, rfl, ?_⟩
        have hm := R1.plan.2 k (List.mem_of_getElem? hk)
        refine ⟨_, rfl, _, rfl, _, rfl, _, rfl, x, vp, vn, v1, D1, c, k.hue, k.plc, k.new, rfl, L1, hP, hN, R1.ok cok, hm.1.2.1, cok.many.2, hm.1.2.2, fun H2 v2 L2 c2 => ?_⟩
        obtain ⟨e1, e2, e3, e4⟩ := strD_more D1 k.hue k.plc k.new
        refine ⟨_, rfl, x, C, v2.dw, _, _, rfl, L2.ins, Z.cls, Z.n_struck_many, wl_struck_many v2 _, _, _, rfl, rfl, v2.dw, _, L2.ins, wl_len v2 _, ?_⟩
        have ep : putF "struck_many" (V.int (((strD D1 k.hue k.plc k.new).smany : Int) + 1)) (wfs v2 (strD D1 k.hue k.plc k.new)) = wfs v2 { strD D1 k.hue k.plc k.new with smany := D1.smany + 1 } := by
          rw [e1]
          exact wp_struck_many v2 _ (D1.smany + 1)
        rw [ep]
        have L3 := L2.num (D1.smany + 1) (strD D1 k.hue k.plc k.new).done (strD D1 k.hue k.plc k.new).st
        refine ⟨_, ?_, _, _, _, _, v2, _, _, rfl, L3, R1.next hk, ?_, (c1.trans c2).trans (Chg.one WV.F_w (L2.tk_w _)), rfl⟩
        · show (strD D1 k.hue k.plc k.new).plan.length - (D1.smany + 1) < D1.plan.length - D1.smany
          rw [e2]
          omega
        · rw [← hdue, due_cons hw he]
      · have he1 : decide (V.int (k.step : Int) = V.int (D1.done : Int)) = false := decide_eq_false fun z => he (by
          have z := V.int.inj z
          rw [R1.done] at z
          omega)
        refine ⟨false, congrArg V.bl he1, iteF ?_⟩
        rw [due_stop hw he] at hdue
        rw [hdue] at R1
        exact q _ _ _ L1 R1 c1
    · refine ⟨false, congrArg V.bl (decide_eq_false (by omega)), iteF ?_⟩
      have hw : M1.wait = [] := by
        rw [R1.wait]
        exact List.drop_eq_nil_of_le (by omega)
      rw [due_nil hw] at hdue
      rw [hdue] at R1
      exact iteF (q _ _ _ L1 R1 c1)
theorem scGoOn : FnScope ["works", "steps", "_"] ["works", "steps"] (defScope sGoOn) := ⟨rfl, rfl, rfl, by decide +kernel, rfl, by decide +kernel, by decide +kernel⟩
theorem go_succ : ∀ (M : Mac) (n : Nat), M.go (n + 1) = (M.go n).step
  | M, 0 => rfl
  | M, n + 1 => go_succ M.step n
theorem go_add : ∀ (M : Mac) (n m : Nat), M.go (n + m) = (M.go n).go m
  | M, 0, m => by
    rw [Nat.zero_add]
    rfl
  | M, n + 1, m => by
    rw [show n + 1 + m = (n + m) + 1 by omega]
    exact go_add M.step n m
theorem due_row (M : Mac) : M.due.row = M.row := by
  unfold Mac.due
  generalize M.wait.takeWhile (fun k => decide (k.step = M.steps)) = ks
  show (ks.foldl Mac.stk M).row = M.row
  induction ks generalizing M with
  | nil => rfl
  | cons k r ih => exact ih (M.stk k)
theorem cell_row (M : Mac) (p : Nat) (z : Cel) : (M.cell p z).row.length ≤ M.row.length + 1 := by
  cases z with
  | ins i k =>
    show (match M.ownAt p i with | some k => M.doIns p i k | none => M.allPtr ((p : Int) + 1)).row.length ≤ _
    split
    · exact Nat.le_succ _
    · exact Nat.le_succ _
  | shw g w =>
    show (match M.agreedSlot w with | some n => let N := (M.allPtr ((p : Int) + 1)).noSlots; { N with row := N.row ++ [.shw g n] } | none => M.caught : Mac).row.length ≤ _
    split
    · show (M.row ++ [_]).length ≤ _
      rw [List.length_append]
      exact Nat.le_refl _
    · exact Nat.le_succ _
  | trn g w =>
    show (match M.agreedSlot w with | some n => (M.allPtr (if n ≠ 0 then (g : Int) else (p : Int) + 1)).noSlots | none => M.caught).row.length ≤ _
    split
    · exact Nat.le_succ _
    · exact Nat.le_succ _
  | tak b w =>
    show (M.row ++ [_]).length ≤ _
    rw [List.length_append]
    exact Nat.le_refl _
  | gto g => exact Nat.le_succ _
  | stp =>
    show (M.row ++ [_]).length ≤ _
    rw [List.length_append]
    exact Nat.le_refl _
  | mrk =>
    simp only [Mac.cell]
    split
    · exact Nat.le_succ _
    · exact Nat.le_succ _
theorem step_row (M : Mac) : M.step.row.length ≤ M.row.length + 1 := by
  unfold Mac.step
  split
  · show M.due.exec.row.length ≤ _
    have e := due_row M
    rw [← e]
    generalize M.due = N
    unfold Mac.exec
    split
    · split
      · exact cell_row _ _ _
      · exact Nat.le_succ _
    · exact Nat.le_succ _
  · exact Nat.le_succ _
theorem go_row (M : Mac) : ∀ n, (M.go n).row.length ≤ M.row.length + n
  | 0 => Nat.le_refl _
  | n + 1 => by
    rw [go_succ]
    have := step_row (M.go n)
    have := go_row M n
    omega
theorem due_st (M : Mac) : M.due.st = M.st := by
  unfold Mac.due
  generalize M.wait.takeWhile (fun k => decide (k.step = M.steps)) = ks
  show (ks.foldl Mac.stk M).st = M.st
  induction ks generalizing M with
  | nil => rfl
  | cons k r ih => exact ih (M.stk k)
theorem ok_goOn {f C f0 : Addr} {fd : FuncData} (F : Fun K "go_on" "go_on" sGoOn f fd) (Z : WC K mg C f0) (T : Bt mg) (D1 : Df P w K mg base 5 "do_coming" ["works"] (spComing K C)) (D2 : Df P w K mg base 5 "do_step" ["works"] (spDoStep K C)) : FnOk P w K mg base CX0 6 f fd ["works", "steps"] (spGoOn K C) := by
  obtain ⟨f1, fd1, Gdo_coming, gdo_coming, kdo_coming, bdo_coming⟩ := D1
  obtain ⟨f2, fd2, Gdo_step, gdo_step, kdo_step, bdo_step⟩ := D2
  refine F.ok scGoOn (fun vs H Q E h => ?_) (fun cdv A outer s H vs Q E hr h => ?_)
  · obtain ⟨x, n, v, D, c, M, rfl, _⟩ := h
    rfl
  · have nd := scGoOn.nd
    obtain ⟨x, n, v, D, c, M, rfl, L, cok, R, hn, hrow, q⟩ := h
    refine ⟨_, pss_one (ps_for PassesOwn.never rfl (pi_range1 (by rfl) T.range (pa_cons (pv 1) pa_nil)) (pg_name (i := 2) nd rfl (.inl rfl))
      (pss_cons (ps_if (pt_cmpR op_ne (pe_fld (pv 0) rfl) pe_str (nomark _))
        (pss_one (ps_break))
        pss_nil)
        (pss_cons (ps_expr (pe_call Gdo_coming hr rfl gdo_coming kdo_coming bdo_coming .nil pass0 (pa_cons (pv 0) pa_nil)))
        (pss_one (ps_expr (pe_call Gdo_step hr rfl gdo_step kdo_step bdo_step .nil pass0 (pa_cons (pv 0) pa_nil))))))), ?_⟩
    refine ⟨_, rfl, (n : Int), rfl, by omega, by omega, ?_⟩
    rw [show ((n : Int)).toNat = n from Int.toNat_natCast n]
    refine for_range (lo := 0) (n := n) (fun i σ H' => ∃ y v' D', σ = [some (.ref x), some (.int n), y] ∧ WL K C H' x v' D' ∧ MR c (M.go i) D' ∧ Chg (v.F x) H H' (v'.F x)) ⟨none, v, D, rfl, L, R, Chg.refl _ _⟩ (fun i σ H' hi h => ?_) (fun σ H' h => ?_)
    · obtain ⟨y, v', D', rfl, L1, R1, c1⟩ := h
      refine ⟨_, rfl, x, C, v'.dw, _, _, rfl, L1.ins, Z.cls, Z.n_word, wl_word v' D', ?_⟩
      by_cases hs : (M.go i).st = .running
      · have e1 : staS D'.st = ("running" : Str) := by rw [R1.st, hs]; rfl
        rw [e1]
        refine ⟨rfl, false, rfl, iteF ?_⟩
        refine ⟨_, rfl, x, v', D', c, M.go i, rfl, L1, cok, R1, fun H2 v2 D2 L2 R2 c2 => ?_⟩
        refine ⟨_, rfl, x, v2, D2, c, (M.go i).due, rfl, L2, cok, R2, ?_, fun H3 v3 D3 L3 R3 c3 => ?_⟩
        · have := go_row M i
          rw [due_row]
          omega
        · have es : (M.go i).due.exec.tick = M.go (i + 1) := by
            rw [go_succ]
            unfold Mac.step
            rw [if_pos hs]
          rw [es] at R3
          exact ⟨_, v3, D3, rfl, L3, R3, (c1.trans c2).trans c3⟩
      · have e1 : decide (V.str (staS D'.st) = V.str "running") = false := by
          rw [R1.st]
          cases h : (M.go i).st with
          | running => exact absurd h hs
          | stopped => rfl
          | caught => rfl
        refine ⟨rfl, true, by show V.bl (!decide (V.str (staS D'.st) = V.str "running")) = V.bl true; rw [e1]; rfl, iteT ?_⟩
        have e2 : M.go n = M.go i := by
          rw [show n = i + (n - i) by omega, go_add, go_over hs]
        rw [← e2] at R1
        exact q _ _ _ L1 R1 c1
    · obtain ⟨y, v', D', rfl, L1, R1, c1⟩ := h
      exact q _ _ _ L1 R1 c1
end
end Hue
namespace Hue
open L2 PySem.Spec PySem PyProof.Rows
/-! ### the machine -/
structure MC (K : PySem.W.Frag) (C : Addr) : Prop where
  cls : Cls K C
  n__code : NoAttr K C "_code"
  n__works : NoAttr K C "_works"
  n_address : NoAttr K C "address"
def mfs (vc : V) (w : Addr) (ad : V) : List (Str × V) := [("_code", vc), ("_works", .ref w), ("address", ad)]
section
variable (vc : V) (w : Addr) (ad : V)
theorem ml_code : (mfs vc w ad).lookup ("_code" : Str) = some vc := by kernel_rfl
theorem ml_works : (mfs vc w ad).lookup ("_works" : Str) = some (.ref w) := by kernel_rfl
theorem ml_go : (mfs vc w ad).lookup ("go" : Str) = none := by kernel_rfl
theorem ml_strike : (mfs vc w ad).lookup ("strike" : Str) = none := by kernel_rfl
theorem ml_registers : (mfs vc w ad).lookup ("registers" : Str) = none := by kernel_rfl
theorem ml_cells : (mfs vc w ad).lookup ("cells" : Str) = none := by kernel_rfl
theorem ml_moment : (mfs vc w ad).lookup ("moment" : Str) = none := by kernel_rfl
theorem ml_own : (mfs vc w ad).lookup ("own" : Str) = none := by kernel_rfl
theorem ml_look : (mfs vc w ad).lookup ("_look" : Str) = none := by kernel_rfl
theorem mp_address (x : V) : putF "address" x (mfs vc w ad) = mfs vc w x := by kernel_rfl
theorem mp_all (x : V) : putF "address" x (putF "_works" (.ref w) (putF "_code" vc [])) = mfs vc w x := by kernel_rfl
theorem ml_len : (mfs vc w ad).length < 1000 := by show (3 : Nat) < 1000; decide
end
structure RA (K : PySem.W.Frag) (CM CW : Addr) (H : Hp) (a dx w : Addr) (v : WV) (D : WD) (vc ad : V) (c : Code) (M : Mac) : Prop where
  ins : H a = some (.ins CM dx (mfs vc w ad))
  own : H dx = some (.own a)
  cd : Dp K H vc (codeD c)
  ok : c.Ok
  ez : ∀ z ∈ c.cells, easy z
  mr : MR c M D
  wl : WL K CW H w v D
  ne : a ≠ w
def FM (a dx w : Addr) (v : WV) : Addr → Prop := fun b => b = a ∨ b = dx ∨ v.F w b
def adV (M : Mac) : V := slotV (M.addr.map fun n : Nat => (n : Int))
def RepM (K : PySem.W.Frag) (CM CW : Addr) : RepT := fun H a M F => ∃ dx w v D vc c, RA K CM CW H a dx w v D vc (adV M) c M ∧ F = FM a dx w v
theorem noL_code (c : Code) : noL (codeD c) = true := by
  show (noLs (c.votes.map nD) && (noL (nD c.size) && (noLs (c.cells.map celD) && (noLs (c.bank.map PyData.int) && true)))) = true
  rw [noLs_map _ (fun _ => rfl) _, noLs_map _ noL_cel _, noLs_map _ (fun _ => rfl) _]
  rfl
section
variable {K : PySem.W.Frag} {CM CW : Addr} {H H' : Hp} {a dx w : Addr} {v : WV} {D : WD} {vc ad : V} {c : Code} {M : Mac}
theorem RA.frame (A : RA K CM CW H a dx w v D vc ad c M) (k : ∀ b o, (FM a dx w v b ∨ isTup o) → H b = some o → H' b = some o) : RA K CM CW H' a dx w v D vc ad c M :=
  ⟨k _ _ (.inl (.inl rfl)) A.ins, k _ _ (.inl (.inr (.inl rfl))) A.own, dp_tk (fun b o i e => k b o (.inr i) e) _ _ (noL_code c) A.cd, A.ok, A.ez, A.mr, A.wl.frame fun b o h e => k b o (h.imp (fun z => .inr (.inr z)) id) e, A.ne⟩
/-- the address is set -/
theorem RA.addr (A : RA K CM CW H a dx w v D vc ad c M) (ad' : V) : RA K CM CW (upd H a (.ins CM dx (mfs vc w ad'))) a dx w v D vc ad' c M ∧ Chg (FM a dx w v) H (upd H a (.ins CM dx (mfs vc w ad'))) (FM a dx w v) := by
  have t : Tk H (upd H a (.ins CM dx (mfs vc w ad'))) := fun b o i e => by
    rw [upd_ne fun z => ?_]
    · exact e
    · rw [z, A.ins] at e
      cases e
      exact i.elim
  have nd : dx ≠ a := fun e => by
    have z := A.own
    rw [e, A.ins] at z
    cases z
  have nF : ∀ b, v.F w b → b ≠ a := fun b hb e => by
    rcases hb with h | h | h
    · exact A.ne (e.symm.trans h)
    · have z := A.wl.own
      rw [← h, e, A.ins] at z
      cases z
    · obtain ⟨xs, hx⟩ := A.wl.lst h
      rw [e, A.ins] at hx
      cases hx
  refine ⟨⟨upd_same, by rw [upd_ne nd]; exact A.own, dp_tk t _ _ (noL_code c) A.cd, A.ok, A.ez, A.mr, A.wl.frame fun b o h e => ?_, A.ne⟩, Chg.one (.inl rfl) t⟩
  rcases h with h | h
  · rw [upd_ne (nF b h)]
    exact e
  · exact t b o h e
/-- works change, and the rest of the machine stays -/
theorem RA.works (A : RA K CM CW H a dx w v D vc ad c M) {v' : WV} {D' : WD} {M' : Mac} (L : WL K CW H' w v' D') (R : MR c M' D') (k : Chg (v.F w) H H' (v'.F w)) : RA K CM CW H' a dx w v' D' vc ad c M' ∧ Chg (FM a dx w v) H H' (FM a dx w v') := by
  have na : ¬ v.F w a := fun h => by
    rcases h with h | h | h
    · exact A.ne h
    · have z := A.wl.own
      rw [← h, A.ins] at z
      cases z
    · obtain ⟨xs, hx⟩ := A.wl.lst h
      rw [A.ins] at hx
      cases hx
  have nd : ¬ v.F w dx := fun h => by
    rcases h with h | h | h
    · have z := A.wl.ins
      rw [← h, A.own] at z
      cases z
    · have z := A.wl.own
      rw [← h, A.own] at z
      have z : HO.own a = HO.own w := Option.some.inj z
      injection z with z
      exact A.ne z
    · obtain ⟨xs, hx⟩ := A.wl.lst h
      rw [A.own] at hx
      cases hx
  refine ⟨⟨k.keep _ _ na A.ins, k.keep _ _ nd A.own, dp_tk k.tk _ _ (noL_code c) A.cd, A.ok, A.ez, R, L, A.ne⟩, ⟨fun b o n e => k.keep b o (fun z => n (.inr (.inr z))) e, k.tk, fun b h => ?_, k.live⟩⟩
  rcases h with h | h | h
  · exact .inl (.inl h)
  · exact .inl (.inr (.inl h))
  · exact (k.sub b h).imp (fun z => .inr (.inr z)) id
end
theorem rep_range {β : Type} (n : Nat) (y : β) : List.replicate n y = (List.range n).map fun _ => y := by
  refine List.ext_getElem? fun j => ?_
  rw [List.getElem?_map, List.getElem?_replicate]
  by_cases z : j < n
  · rw [if_pos z, List.getElem?_range z]
    rfl
  · rw [if_neg z, List.getElem?_eq_none (by rw [List.length_range]; omega)]
    rfl
theorem begun_mr {c : Code} (cok : c.Ok) (ins : List Int) {ks : List Stk} (h1 : StksOk c ks) (h2 : ∀ k ∈ ks, easyS k) (h3 : ∀ z ∈ c.cells, easy z) : MR c (c.begun ins ks) (D0 c ins ks) := by
  have mc : ∀ {β : Type} (f : Hu → β) (y : β), (∀ i, f { regs := List.replicate 8 0, bank := c.bank, ptr := 0, slot := none, own := c.own i } = y) → List.replicate c.h y = (c.begun ins ks).hues.map f := fun f y h => by
    show _ = List.map f (List.map _ (List.range c.h))
    rw [List.map_map, rep_range]
    refine List.map_congr_left fun i _ => ?_
    exact (h i).symm
  have eo : (c.begun ins ks).hues.map (·.own) = (List.range c.h).map fun i => c.own i := by
    show List.map (fun u : Hu => u.own) (List.map _ (List.range c.h)) = _
    rw [List.map_map]
    rfl
  have oA : ∀ q i k, c.cells[q]? = some (.ins i k) → ownA ((List.range c.h).map fun i => c.own i) q i = some k := fun q i k hq => by
    have hi : i < c.h := (cok.cells _ (List.mem_of_getElem? hq)).1
    unfold ownA
    rw [List.getElem?_map, List.getElem?_range hi]
    exact own_get hq
  refine ⟨rfl, rfl, rfl, rfl, ?_, mc _ _ fun _ => rfl, mc _ _ fun _ => rfl, mc _ _ fun _ => rfl, mc _ _ fun _ => rfl, rfl, rfl, rfl, ?_, Nat.zero_le _, ⟨h1.many, fun k hk => ⟨h1.each k hk, h2 k hk⟩⟩, ?_, fun u hu => ?_, h3, rfl⟩
  · rw [eo]
    refine ⟨rfl, by rw [List.length_map, List.length_range], fun o ho => ?_, fun q z hq => ?_, fun q i k hq => ⟨k, oA q i k hq, (cok.cells _ (List.mem_of_getElem? hq)).2, h3 _ (List.mem_of_getElem? hq)⟩, fun q i hq => ownC_none hq⟩
    · obtain ⟨i, _, rfl⟩ := List.mem_map.mp ho
      exact List.length_map _
    · show c.cells[q]? = _
      rw [hq]
      cases z with
      | ins i k =>
        show some _ = some (Cel.ins i ((ownA _ q i).getD k))
        rw [oA q i k hq]
        rfl
      | _ => rfl
  · exact (List.drop_zero (l := ks)).symm
  · show (List.map _ (List.range c.h)).length = c.h
    rw [List.length_map, List.length_range]
  · obtain ⟨i, _, rfl⟩ := List.mem_map.mp hu
    refine ⟨rfl, rfl, Int.le_refl _, fun n hn => ?_, cok.bank.2⟩
    have hn : n ∈ List.replicate 8 (0 : Int) := hn
    rw [List.eq_of_mem_replicate hn]
    have := cok.size.1
    exact ⟨Int.le_refl _, by omega⟩
theorem begun_addr {c : Code} (ok : c.Ok) (ins : List Int) (ks : List Stk) : (c.begun ins ks).addr = some 0 := by
  show (c.begun ins []).addr = some 0
  unfold Mac.addr
  rw [if_pos (show (c.begun ins []).st = Sta.running from rfl)]
  exact (S14.begun (c := c) ok.votes ins).at_.at_ (by have := ok.many.1; show 0 < c.cells.length; omega)
section
variable {P : Program} {w : World} {K : PySem.W.Frag} {mg : Str → Option Value} {base : Heap} {CM CW f0 : Addr}
def spLook (K : PySem.W.Frag) (CM CW : Addr) : Sp := fun vs H Q _ => ∃ (a dx w : Addr) (v : WV) (D : WD) (vc ad : V) (c : Code) (M : Mac), vs = [.ref a] ∧ RA K CM CW H a dx w v D vc ad c M ∧
  ∀ H', RA K CM CW H' a dx w v D vc (adV M) c M → Chg (FM a dx w v) H H' (FM a dx w v) → Q .non H'
theorem scLook : FnScope ["self"] ["self"] (defScope sMLook) := ⟨rfl, rfl, rfl, by decide +kernel, rfl, by decide +kernel, by decide +kernel⟩
theorem ok_look {f : Addr} {fd : FuncData} (F : Fun K "_look" "Machine._look" sMLook f fd) (Z : MC K CM) (ZW : WC K mg CW f0) (D1 : Df P w K mg base 2 "fetched" ["works"] (spFetched K CW)) : FnOk P w K mg base CX0 3 f fd ["self"] (spLook K CM CW) := by
  obtain ⟨f1, fd1, Gfetched, gfetched, kfetched, bfetched⟩ := D1
  refine F.ok scLook (fun vs H Q E h => ?_) (fun cdv A outer s H vs Q E hr h => ?_)
  · obtain ⟨a, _, _, _, _, _, _, _, _, rfl, _⟩ := h
    rfl
  · have nd := scLook.nd
    obtain ⟨a, dx, x, v, D, vc, ad, c, M, rfl, A0, q⟩ := h
    refine ⟨_, pss_cons (ps_fld (pv 0) pe_non rfl)
      (pss_one (ps_if (pt_cmpR op_eq (pe_fld (pe_fld (pv 0) rfl) rfl) pe_str (nomark _))
      (pss_one (ps_fld (pv 0) (pe_call Gfetched hr rfl gfetched kfetched bfetched .nil pass0 (pa_cons (pe_fld (pv 0) rfl) pa_nil)) rfl))
      pss_nil)), ?_⟩
    refine ⟨_, rfl, a, CM, dx, _, rfl, A0.ins, Z.cls, Z.n_address, ml_len _ _ _, ?_⟩
    rw [mp_address]
    obtain ⟨A1, c1⟩ := A0.addr .non
    refine ⟨_, rfl, a, CM, dx, _, _, rfl, A1.ins, Z.cls, Z.n__works, ml_works _ _ _, x, CW, v.dw, _, _, rfl, A1.wl.ins, ZW.cls, ZW.n_word, wl_word v D, ?_⟩
    by_cases hs : M.st = .running
    · have e1 : staS D.st = ("running" : Str) := by rw [A0.mr.st, hs]; rfl
      rw [e1]
      refine ⟨rfl, true, rfl, iteT ?_⟩
      refine ⟨_, rfl, a, CM, dx, _, _, rfl, A1.ins, Z.cls, Z.n__works, ml_works _ _ _, x, v, D, rfl, A1.wl, by rw [A0.mr.votes]; exact A0.ok.votes.1, ?_⟩
      refine ⟨_, rfl, a, CM, dx, _, rfl, A1.ins, Z.cls, Z.n_address, ml_len _ _ _, ?_⟩
      rw [mp_address, A0.mr.fet]
      have ea : adV M = slotV (M.at_.map fun n : Nat => (n : Int)) := by
        unfold adV Mac.addr
        rw [if_pos hs]
      rw [← ea]
      obtain ⟨A2, c2⟩ := A1.addr (adV M)
      exact q _ A2 (c1.trans c2)
    · have e1 : decide (V.str (staS D.st) = V.str "running") = false := by
        rw [A0.mr.st]
        cases h : M.st with
        | running => exact absurd h hs
        | stopped => rfl
        | caught => rfl
      refine ⟨rfl, false, congrArg V.bl e1, iteF ?_⟩
      have ea : adV M = .non := by
        unfold adV Mac.addr
        rw [if_neg hs]
        rfl
      rw [ea] at q
      exact q _ A1 c1
end
end Hue
namespace Hue
open L2 PySem.Spec PySem PyProof.Rows
section
variable {P : Program} {w : World} {K : PySem.W.Frag} {mg : Str → Option Value} {base : Heap} {CM CW f0 : Addr}
theorem scMGo : FnScope ["self", "steps"] ["self", "steps"] (defScope sMGo) := ⟨rfl, rfl, rfl, by decide +kernel, rfl, by decide +kernel, by decide +kernel⟩
theorem ok_mgo {f fL : Addr} {fd fdL : FuncData} (F : Fun K "go" "Machine.go" sMGo f fd) (Z : MC K CM) (D1 : Df P w K mg base 6 "check_steps" ["steps"] spChkSteps) (D2 : Df P w K mg base 6 "go_on" ["works", "steps"] (spGoOn K CW)) (GL0 : FnOk P w K mg base CX0 3 fL fdL ["self"] (spLook K CM CW)) (mL : Meth K CM "_look" fL) (bL : L2.Binds K fdL ["self"] []) : FnOk P w K mg base CX0 7 f fd ["self", "steps"] (spMGo (RepM K CM CW)) := by
  obtain ⟨f1, fd1, G1, gcheck_steps, kcheck_steps, bcheck_steps⟩ := D1
  obtain ⟨f2, fd2, Ggo_on, ggo_on, kgo_on, bgo_on⟩ := D2
  refine F.ok scMGo (fun vs H Q E h => ?_) (fun cdv A outer s H vs Q E hr h => ?_)
  · obtain ⟨a, n, M, F, rfl, _⟩ := h
    rfl
  · have nd := scMGo.nd
    have Gcheck_steps := G1
    have GL := GL0.mono (show 3 ≤ 6 by decide)
    have hrL := hr
    obtain ⟨a, n, M, F, rfl, ⟨dx, x, v, D, vc, c, A0, rfl⟩, hn, hrow, q⟩ := h
    refine ⟨_, pss_cons (ps_expr (pe_call Gcheck_steps hr rfl gcheck_steps kcheck_steps bcheck_steps .nil pass0 (pa_cons (pv 1) pa_nil)))
      (pss_cons (ps_expr (pe_call Ggo_on hr rfl ggo_on kgo_on bgo_on .nil pass0 (pa_cons (pe_fld (pv 0) rfl) (pa_cons (pv 1) pa_nil))))
      (pss_one (ps_expr (pe_meth0 (pv 0) Z.cls mL GL hrL bL .nil pass0)))), ?_⟩
    refine ⟨_, rfl, n, rfl, hn, ?_⟩
    refine ⟨_, rfl, a, CM, dx, _, _, rfl, A0.ins, Z.cls, Z.n__works, ml_works _ _ _, _, rfl, x, n, v, D, c, M, rfl, A0.wl, A0.ok, A0.mr, hn, hrow, fun H1 v1 D1 L1 R1 c1 => ?_⟩
    obtain ⟨A1, k1⟩ := A0.works L1 R1 c1
    refine ⟨_, rfl, a, dx, _, rfl, A1.ins, ml_look _ _ _, a, dx, x, v1, D1, vc, _, c, M.go n, rfl, A1, fun H2 A2 k2 => ?_⟩
    exact q _ H2 ⟨dx, x, v1, D1, vc, c, A2, rfl⟩ (k1.trans k2)
/-- what is told -/
theorem scMRow : FnScope ["self"] ["self"] (defScope sMRow) := ⟨rfl, rfl, rfl, by decide +kernel, rfl, by decide +kernel, by decide +kernel⟩
theorem scMSteps : FnScope ["self"] ["self"] (defScope sMSteps) := ⟨rfl, rfl, rfl, by decide +kernel, rfl, by decide +kernel, by decide +kernel⟩
theorem scMState : FnScope ["self"] ["self"] (defScope sMState) := ⟨rfl, rfl, rfl, by decide +kernel, rfl, by decide +kernel, by decide +kernel⟩
theorem scMSlots : FnScope ["self"] ["self"] (defScope sMSlots) := ⟨rfl, rfl, rfl, by decide +kernel, rfl, by decide +kernel, by decide +kernel⟩
theorem ok_mrow {f : Addr} {fd : FuncData} (F : Fun K "row" "Machine.row" sMRow f fd) (T : Bt mg) (Z : MC K CM) (ZW : WC K mg CW f0) : FnOk P w K mg base CX0 1 f fd ["self"] (spMTell K (RepM K CM CW) fun M => .list (M.row.map itemD)) := by
  refine F.ok scMRow (fun vs H Q E h => ?_) (fun cdv A outer s H vs Q E hr h => ?_)
  · obtain ⟨a, M, F, rfl, _⟩ := h
    rfl
  · have nd := scMRow.nd
    obtain ⟨a, M, F, rfl, ⟨dx, x, v, D, vc, c, A0, rfl⟩, q⟩ := h
    refine ⟨_, pss_one (ps_ret (pe_callTy call_list_of (by rfl) T.list (by decide +kernel) (pa_cons (pe_fld (pe_fld (pv 0) rfl) rfl) pa_nil))), ?_⟩
    obtain ⟨xs, x1, x2⟩ := A0.wl.p.shown
    refine ⟨_, rfl, a, CM, dx, _, _, rfl, A0.ins, Z.cls, Z.n__works, ml_works _ _ _, x, CW, v.dw, _, _, rfl, A0.wl.ins, ZW.cls, ZW.n_shown, wl_shown v D, v.sh, xs, rfl, .inl (SqL.of x1), fun l hl => ?_⟩
    rw [A0.mr.row] at x2
    exact q _ _ (same_new hl) (.lst (.inl (.inl upd_same)) (dps_same (same_new hl) _ _ x2))
theorem ok_msteps {f : Addr} {fd : FuncData} (F : Fun K "steps" "Machine.steps" sMSteps f fd) (Z : MC K CM) (ZW : WC K mg CW f0) : FnOk P w K mg base CX0 1 f fd ["self"] (spMTell K (RepM K CM CW) fun M => nD M.steps) := by
  refine F.ok scMSteps (fun vs H Q E h => ?_) (fun cdv A outer s H vs Q E hr h => ?_)
  · obtain ⟨a, M, F, rfl, _⟩ := h
    rfl
  · have nd := scMSteps.nd
    obtain ⟨a, M, F, rfl, ⟨dx, x, v, D, vc, c, A0, rfl⟩, q⟩ := h
    refine ⟨_, pss_one (ps_ret (pe_fld (pe_fld (pv 0) rfl) rfl)), ?_⟩
    refine ⟨_, rfl, a, CM, dx, _, _, rfl, A0.ins, Z.cls, Z.n__works, ml_works _ _ _, x, CW, v.dw, _, _, rfl, A0.wl.ins, ZW.cls, ZW.n_done, wl_done v D, ?_⟩
    rw [A0.mr.done]
    exact q _ _ (fun _ _ e => e) (.int _)
theorem ok_mstate {f : Addr} {fd : FuncData} (F : Fun K "state" "Machine.state" sMState f fd) (Z : MC K CM) (ZW : WC K mg CW f0) : FnOk P w K mg base CX0 1 f fd ["self"] (spMTell K (RepM K CM CW) fun M => .str (staS M.st)) := by
  refine F.ok scMState (fun vs H Q E h => ?_) (fun cdv A outer s H vs Q E hr h => ?_)
  · obtain ⟨a, M, F, rfl, _⟩ := h
    rfl
  · have nd := scMState.nd
    obtain ⟨a, M, F, rfl, ⟨dx, x, v, D, vc, c, A0, rfl⟩, q⟩ := h
    refine ⟨_, pss_one (ps_ret (pe_fld (pe_fld (pv 0) rfl) rfl)), ?_⟩
    refine ⟨_, rfl, a, CM, dx, _, _, rfl, A0.ins, Z.cls, Z.n__works, ml_works _ _ _, x, CW, v.dw, _, _, rfl, A0.wl.ins, ZW.cls, ZW.n_word, wl_word v D, ?_⟩
    rw [A0.mr.st]
    exact q _ _ (fun _ _ e => e) (.str _)
theorem dp_ints' {H : Hp} : ∀ xs : List Int, DpAll K H (xs.map V.int) (xs.map PyData.int)
  | [] => .nil
  | x :: r => .cons (.int x) (dp_ints' r)
theorem cut_from' (xs : List V) (n : Nat) : cutV xs (some (n : Int)) none = xs.drop n := by
  unfold cutV
  rw [HT.sIx_nat xs.length 0 n, HT.sIx_none]
  by_cases h : n ≤ xs.length
  · rw [Nat.min_eq_left h]
    apply List.take_of_length_le
    rw [List.length_drop]
    exact Nat.le_refl _
  · rw [Nat.min_eq_right (by omega), List.drop_eq_nil_of_le (Nat.le_refl _), List.drop_eq_nil_of_le (by omega)]
    exact List.take_nil
theorem dps_slots {H : Hp} : ∀ xs : List Hu, DpAll K H ((xs.map (·.slot)).map slotV) (xs.map fun u => slotD u.slot)
  | [] => .nil
  | u :: r => .cons (by
    show Dp K H (slotV u.slot) (slotD u.slot)
    cases u.slot with
    | none => exact .non
    | some n => exact .int n) (dps_slots r)
theorem ok_mslots {f : Addr} {fd : FuncData} (F : Fun K "slots" "Machine.slots" sMSlots f fd) (T : Bt mg) (Z : MC K CM) (ZW : WC K mg CW f0) : FnOk P w K mg base CX0 1 f fd ["self"] (spMTell K (RepM K CM CW) fun M => .tuple (M.hues.map fun u => slotD u.slot)) := by
  refine F.ok scMSlots (fun vs H Q E h => ?_) (fun cdv A outer s H vs Q E hr h => ?_)
  · obtain ⟨a, M, F, rfl, _⟩ := h
    rfl
  · have nd := scMSlots.nd
    obtain ⟨a, M, F, rfl, ⟨dx, x, v, D, vc, c, A0, rfl⟩, q⟩ := h
    refine ⟨_, pss_one (ps_ret (pe_callTy call_tuple_of (by rfl) T.tuple (by decide +kernel) (pa_cons (pe_fld (pe_fld (pv 0) rfl) rfl) pa_nil))), ?_⟩
    refine ⟨_, rfl, a, CM, dx, _, _, rfl, A0.ins, Z.cls, Z.n__works, ml_works _ _ _, x, CW, v.dw, _, _, rfl, A0.wl.ins, ZW.cls, ZW.n_offers, wl_offers v D, v.sl, _, rfl, .inl ⟨SqL.of A0.wl.p.slots, fun l hl => ?_⟩⟩
    refine q _ _ (same_new hl) (.tup (.inl (.inl upd_same)) ?_)
    rw [A0.mr.slots]
    exact dps_slots _
/-! ### of one hue -/
theorem scMReg : FnScope ["self", "hue"] ["self", "hue"] (defScope sMRegisters) := ⟨rfl, rfl, rfl, by decide +kernel, rfl, by decide +kernel, by decide +kernel⟩
theorem scMCel : FnScope ["self", "hue"] ["self", "hue"] (defScope sMCells) := ⟨rfl, rfl, rfl, by decide +kernel, rfl, by decide +kernel, by decide +kernel⟩
theorem ok_mreg {f : Addr} {fd : FuncData} (F : Fun K "registers" "Machine.registers" sMRegisters f fd) (T : Bt mg) (Z : MC K CM) (ZW : WC K mg CW f0) (D1 : Df P w K mg base 3 "check_hue" ["code", "hue"] (spChkHue K)) : FnOk P w K mg base CX0 4 f fd ["self", "hue"] (spMHue K (RepM K CM CW) fun u => .tuple (u.regs.map .int)) := by
  obtain ⟨f1, fd1, Gcheck_hue, gcheck_hue, kcheck_hue, bcheck_hue⟩ := D1
  refine F.ok scMReg (fun vs H Q E h => ?_) (fun cdv A outer s H vs Q E hr h => ?_)
  · obtain ⟨a, i, M, F, u, rfl, _⟩ := h
    rfl
  · have nd := scMReg.nd
    obtain ⟨a, i, M, F, u, rfl, ⟨dx, x, v, D, vc, c, A0, rfl⟩, hu, q⟩ := h
    refine ⟨_, pss_cons (ps_expr (pe_call Gcheck_hue hr rfl gcheck_hue kcheck_hue bcheck_hue .nil pass0 (pa_cons (pe_fld (pv 0) rfl) (pa_cons (pv 1) pa_nil))))
      (pss_one (ps_ret (pe_callTy call_tuple_of (by rfl) T.tuple (by decide +kernel) (pa_cons (pe_ix ix_list (pe_fld (pe_fld (pv 0) rfl) rfl) (pv 1) (fun _ _ => rfl)) pa_nil)))), ?_⟩
    obtain ⟨a0, av, ac, ab, xc, rfl, h1, h2, h3, h4, h5⟩ := dp_code A0.cd
    have hi : i < c.h := by
      rw [← A0.mr.len]
      exact (List.getElem?_eq_some_iff.mp hu).1
    have hr0 : D.regs[i]? = some u.regs := by rw [A0.mr.regs, List.getElem?_map, hu]; rfl
    obtain ⟨ra, hra, hrl⟩ := A0.wl.reg_at hr0
    refine ⟨_, rfl, a, CM, dx, _, _, rfl, A0.ins, Z.cls, Z.n__code, ml_code _ _ _, _, rfl, a0, av, _, _, i, rfl, h1, h2, by rw [List.length_map]; exact hi, ?_⟩
    refine ⟨_, rfl, a, CM, dx, _, _, rfl, A0.ins, Z.cls, Z.n__works, ml_works _ _ _, x, CW, v.dw, _, _, rfl, A0.wl.ins, ZW.cls, ZW.n_numbers, wl_numbers v D, _, rfl, v.nu, _, _, _, rfl, rfl, SqL.of A0.wl.p.nums, atM hra, ra, _, rfl, .inl ⟨SqL.of hrl, fun l hl => ?_⟩⟩
    exact q _ _ (same_new hl) (.tup (.inl (.inl upd_same)) (dp_ints' _))
theorem ok_mcel {f : Addr} {fd : FuncData} (F : Fun K "cells" "Machine.cells" sMCells f fd) (T : Bt mg) (Z : MC K CM) (ZW : WC K mg CW f0) (D1 : Df P w K mg base 3 "check_hue" ["code", "hue"] (spChkHue K)) : FnOk P w K mg base CX0 4 f fd ["self", "hue"] (spMHue K (RepM K CM CW) fun u => .tuple (u.bank.map .int)) := by
  obtain ⟨f1, fd1, Gcheck_hue, gcheck_hue, kcheck_hue, bcheck_hue⟩ := D1
  refine F.ok scMCel (fun vs H Q E h => ?_) (fun cdv A outer s H vs Q E hr h => ?_)
  · obtain ⟨a, i, M, F, u, rfl, _⟩ := h
    rfl
  · have nd := scMCel.nd
    obtain ⟨a, i, M, F, u, rfl, ⟨dx, x, v, D, vc, c, A0, rfl⟩, hu, q⟩ := h
    refine ⟨_, pss_cons (ps_expr (pe_call Gcheck_hue hr rfl gcheck_hue kcheck_hue bcheck_hue .nil pass0 (pa_cons (pe_fld (pv 0) rfl) (pa_cons (pv 1) pa_nil))))
      (pss_one (ps_ret (pe_callTy call_tuple_of (by rfl) T.tuple (by decide +kernel) (pa_cons (pe_ix ix_list (pe_fld (pe_fld (pv 0) rfl) rfl) (pv 1) (fun _ _ => rfl)) pa_nil)))), ?_⟩
    obtain ⟨a0, av, ac, ab, xc, rfl, h1, h2, h3, h4, h5⟩ := dp_code A0.cd
    have hi : i < c.h := by
      rw [← A0.mr.len]
      exact (List.getElem?_eq_some_iff.mp hu).1
    have hr0 : D.banks[i]? = some u.bank := by rw [A0.mr.banks, List.getElem?_map, hu]; rfl
    obtain ⟨ra, hra, hrl⟩ := A0.wl.bnk_at hr0
    refine ⟨_, rfl, a, CM, dx, _, _, rfl, A0.ins, Z.cls, Z.n__code, ml_code _ _ _, _, rfl, a0, av, _, _, i, rfl, h1, h2, by rw [List.length_map]; exact hi, ?_⟩
    refine ⟨_, rfl, a, CM, dx, _, _, rfl, A0.ins, Z.cls, Z.n__works, ml_works _ _ _, x, CW, v.dw, _, _, rfl, A0.wl.ins, ZW.cls, ZW.n_banks, wl_banks v D, _, rfl, v.bk, _, _, _, rfl, rfl, SqL.of A0.wl.p.banks, atM hra, ra, _, rfl, .inl ⟨SqL.of hrl, fun l hl => ?_⟩⟩
    exact q _ _ (same_new hl) (.tup (.inl (.inl upd_same)) (dp_ints' _))
/-! ### a machine is made -/
theorem scMInit : FnScope ["self", "code", "inputs", "strikes"] ["self", "code", "inputs", "strikes"] (defScope sMInit) := ⟨rfl, rfl, rfl, by decide +kernel, rfl, by decide +kernel, by decide +kernel⟩
theorem dp_sqa {H : Hp} {v : V} {xs : List Int} (h : Dp K H v (.list (xs.map .int)) ∨ Dp K H v (.tuple (xs.map .int))) : ∃ a, v = .ref a ∧ SqA K H a (xs.map V.int) := by
  rcases h with h | h
  · obtain ⟨a, ys, rfl, h1, h2⟩ := dpL h
    rw [dps_flat (vs := xs.map V.int) h2 (by rw [List.map_map, List.map_map]; rfl)] at h1
    exact ⟨a, rfl, .inl h1⟩
  · obtain ⟨a, ys, rfl, h1, h2⟩ := dpT h
    rw [dps_flat (vs := xs.map V.int) h2 (by rw [List.map_map, List.map_map]; rfl)] at h1
    exact ⟨a, rfl, .inr h1⟩
theorem dp_stks {H : Hp} {v : V} {ks : List Stk} (h : Dp K H v (.list (ks.map stkD)) ∨ Dp K H v (.tuple (ks.map stkD))) : ∃ a ys, v = .ref a ∧ SqA K H a ys ∧ DpAll K H ys (ks.map stkD) := by
  rcases h with h | h
  · obtain ⟨a, ys, rfl, h1, h2⟩ := dpL h
    exact ⟨a, ys, rfl, .inl h1, h2⟩
  · obtain ⟨a, ys, rfl, h1, h2⟩ := dpT h
    exact ⟨a, ys, rfl, .inr h1, h2⟩
theorem ok_minit {f fW : Addr} {fd fdW : FuncData} {e : Addr} (F : FunD K "__init__" "Machine.__init__" (defArgs sMInit) (defBody sMInit) (defScope sMInit) [.ref e] [] f fd) (T : Bt mg) (N : Gn mg) (Z : MC K CM) (ZW : WC K mg CW fW) (FW : Fun K "__init__" "Works.__init__" sWorks fW fdW) (bW : L2.Binds K fdW ["self", "code", "inputs", "strikes"] []) (D1 : Df P w K mg base 8 "check_code" ["code"] (spChkCode K)) (D2 : Df P w K mg base 3 "check_inputs" ["inputs"] (spChkInputs K)) (D3 : Df P w K mg base 9 "check_strikes" ["code", "strikes"] (spWrong K)) : FnOk P w K mg base CX0 10 f fd ["self", "code", "inputs", "strikes"] (spMInit K CM (RepM K CM CW)) := by
  have GW := ok_wInit (P := P) (w := w) (base := base) FW ZW T N
  obtain ⟨f1, fd1, G1, gcheck_code, kcheck_code, bcheck_code⟩ := D1
  obtain ⟨f2, fd2, G2, gcheck_inputs, kcheck_inputs, bcheck_inputs⟩ := D2
  obtain ⟨f3, fd3, G3, gcheck_strikes, kcheck_strikes, bcheck_strikes⟩ := D3
  refine F.ok scMInit (fun vs H Q E h => ?_) (fun cdv A outer s H vs Q E hr h => ?_)
  · obtain ⟨x, dx, v1, v2, v3, c, ins, ks, rfl, _⟩ := h
    rfl
  · have nd := scMInit.nd
    have Gcheck_code := G1.mono (show 8 ≤ 9 by decide)
    have Gcheck_inputs := G2.mono (show 3 ≤ 9 by decide)
    have Gcheck_strikes := G3
    have hrW : Room (1 + 1) _ := hr.mono (by decide)
    obtain ⟨x, dx, v1, v2, v3, c, ins, ks, rfl, hx, hdx, d1, d2, d3, ok, io, so, ez, es, q⟩ := h
    refine ⟨_, PSs.nox (pss_cons (ps_expr (pe_call Gcheck_code hr rfl gcheck_code kcheck_code bcheck_code .nil pass0 (pa_cons (pv 1) pa_nil)))
      (pss_cons (ps_expr (pe_call Gcheck_inputs hr rfl gcheck_inputs kcheck_inputs bcheck_inputs .nil pass0 (pa_cons (pv 2) pa_nil)))
      (pss_cons (ps_expr (pe_call Gcheck_strikes hr rfl gcheck_strikes kcheck_strikes bcheck_strikes .nil pass0 (pa_cons (pv 1) (pa_cons (pv 3) pa_nil))))
      (pss_cons (ps_fld (pv 0) (pv 1) rfl)
      (pss_cons (ps_fld (pv 0) (pe_make ZW.maker GW hrW (by rfl) ZW.g bW .nil pass0 (pa_cons (pv 1) (pa_cons (pv 2) (pa_cons (pv 3) pa_nil)))) rfl)
      (pss_one (ps_fld (pv 0) pe_int rfl))))))), ?_⟩
    obtain ⟨ai, rfl, hI⟩ := dp_sqa d2
    obtain ⟨ak, ys, rfl, hK, hKd⟩ := dp_stks d3
    refine ⟨_, rfl, v1, c, rfl, d1, ok, fun H1 s1 => ?_⟩
    refine ⟨_, rfl, ai, ins, rfl, hI.same s1, io.1, io.2, fun H2 s2 => ?_⟩
    refine ⟨_, rfl, _, rfl, v1, ak, ys, c, ks, rfl, dp_same s2 _ _ (dp_same s1 _ _ d1), (hK.same s1).same s2, dps_same s2 _ _ (dps_same s1 _ _ hKd), ok, so, fun H3 s3 => ?_⟩
    have s13 : Same H H3 := s1.trans (s2.trans s3)
    have hx3 := s13 _ _ hx
    refine ⟨_, rfl, _, rfl, x, CM, dx, _, rfl, hx3, Z.cls, Z.n__code, few 0 rfl (by decide), ?_⟩
    have k4 : Kx x H3 (upd H3 x (.ins CM dx (putF "_code" v1 []))) := (Kx.refl x H3).at
    have hx4 : (upd H3 x (.ins CM dx (putF "_code" v1 []))) x = some (.ins CM dx (putF "_code" v1 [])) := upd_same
    generalize hH4 : upd H3 x (.ins CM dx (putF "_code" v1 [])) = H4 at *
    refine ⟨_, rfl, _, rfl, _, rfl, fun y dy hy hdy nyd => ?_⟩
    have s5 : Same H4 (upd (upd H4 dy (.own y)) y (.ins CW dy [])) := fun b o e => by
      rw [upd_ne (ne_of_none e hy), upd_ne (ne_of_none e hdy)]
      exact e
    have d14 : Dp K H4 v1 (codeD c) := dp_tk (k4.tk hx3) _ _ (noL_code c) (dp_same s13 _ _ d1)
    refine ⟨y, dy, ai, ak, v1, c, ins, ks, ys, rfl, upd_same, by rw [upd_ne nyd]; exact upd_same, dp_same s5 _ _ d14, (k4.seq hx3 (hI.same s13)).same s5, (k4.seq hx3 (hK.same s13)).same s5, dps_same s5 _ _ (dps_tk (k4.tk hx3) _ _ (noLs_map _ noL_stk _) (dps_same s13 _ _ hKd)), ⟨ok.votes.1, ok.votes.2.1⟩, fun H5 v L ev k5 fr => ⟨rfl, ?_⟩⟩
    have nxy : x ≠ y := ne_of_none hx4 hy
    have hx5 : H5 x = some (.ins CM dx (putF "_code" v1 [])) := k5 _ _ nxy (s5 _ _ hx4)
    refine ⟨_, rfl, x, CM, dx, _, rfl, hx5, Z.cls, Z.n__works, few 1 (by kernel_rfl) (by decide), ?_⟩
    refine ⟨_, rfl, x, CM, dx, _, rfl, upd_same, Z.cls, Z.n_address, few 2 (by kernel_rfl) (by decide), ?_⟩
    rw [mp_all]
    have nF : ∀ b, v.F y b → b ≠ x := fun b hb e => by
      rcases hb with h | h | h
      · exact nxy (e.symm.trans h)
      · rw [h, ev] at e
        rw [e, hx4] at hdy
        cases hdy
      · have z := fr b h
        rw [e, s5 _ _ hx4] at z
        cases z
    have eb : ∀ b, b ≠ x → (upd (upd H5 x (.ins CM dx (putF "_works" (.ref y) (putF "_code" v1 [])))) x (.ins CM dx (mfs v1 y (.int 0)))) b = H5 b := fun b n => by rw [upd_ne n, upd_ne n]
    have kx : Kx x H5 (upd (upd H5 x (.ins CM dx (putF "_works" (.ref y) (putF "_code" v1 [])))) x (.ins CM dx (mfs v1 y (.int 0)))) := fun b o n e => by rw [eb b n]; exact e
    have t5 : Tk H5 _ := kx.tk hx5
    have keep : ∀ b o, H b = some o → b ≠ x → (upd (upd H5 x (.ins CM dx (putF "_works" (.ref y) (putF "_code" v1 [])))) x (.ins CM dx (mfs v1 y (.int 0)))) b = some o := fun b o e n => by
      have e4 := k4 b o n (s13 _ _ e)
      exact kx b o n (k5 b o (ne_of_none e4 hy) (s5 _ _ e4))
    have ndx : dx ≠ x := fun e => by
      rw [e, hx] at hdx
      cases hdx
    have free4 : ∀ b, H4 b = none → H b = none := fun b h => s13.free (k4.free hx4 h)
    refine q (FM x dx y v) _ ⟨dx, y, v, D0 c ins ks, v1, c, ⟨?_, keep _ _ hdx ndx, ?_, ok, ez, begun_mr ok ins so es ez, ?_, nxy⟩, rfl⟩ (fun b o e n _ => keep b o e n) (fun b hb => ?_)
    · have ea : adV (c.begun ins ks) = .int 0 := by
        unfold adV
        rw [begun_addr ok ins ks]
        rfl
      rw [ea]
      exact upd_same
    · exact dp_tk t5 _ _ (noL_code c) (dp_tk (Kx.tk (x := y) (fun b o n e => k5 b o n e) upd_same) _ _ (noL_code c) (dp_same s5 _ _ d14))
    · exact L.frame fun b o h e => by
        rcases h with h | h
        · exact kx b o (nF b h) e
        · exact t5 b o h e
    · rcases hb with h | h | h | h | h
      · exact .inl h
      · exact .inr (.inl h)
      · exact .inr (.inr (by rw [h]; exact free4 _ hy))
      · exact .inr (.inr (by rw [h, ev]; exact free4 _ hdy))
      · exact .inr (.inr (free4 _ (s5.free (fr b h))))
end
end Hue
namespace Hue
open L2 PySem.Spec PySem PyProof.Rows
section
variable {P : Program} {w : World} {K : PySem.W.Frag} {mg : Str → Option Value} {base : Heap} {CM CW f0 : Addr}
theorem scMPointers : FnScope ["self"] ["self"] (defScope sMPointers) := ⟨rfl, rfl, rfl, by decide +kernel, rfl, by decide +kernel, by decide +kernel⟩
theorem ok_mpointers {f : Addr} {fd : FuncData} (F : Fun K "pointers" "Machine.pointers" sMPointers f fd) (T : Bt mg) (Z : MC K CM) (ZW : WC K mg CW f0) : FnOk P w K mg base CX0 1 f fd ["self"] (spMTell K (RepM K CM CW) fun M => .tuple (M.hues.map fun u => .int u.ptr)) := by
  refine F.ok scMPointers (fun vs H Q E h => ?_) (fun cdv A outer s H vs Q E hr h => ?_)
  · obtain ⟨a, M, F, rfl, _⟩ := h
    rfl
  · have nd := scMPointers.nd
    obtain ⟨a, M, F, rfl, ⟨dx, x, v, D, vc, c, A0, rfl⟩, q⟩ := h
    refine ⟨_, pss_one (ps_ret (pe_callTy call_tuple_of (by rfl) T.tuple (by decide +kernel) (pa_cons (pe_fld (pe_fld (pv 0) rfl) rfl) pa_nil))), ?_⟩
    refine ⟨_, rfl, a, CM, dx, _, _, rfl, A0.ins, Z.cls, Z.n__works, ml_works _ _ _, x, CW, v.dw, _, _, rfl, A0.wl.ins, ZW.cls, ZW.n_heads, wl_heads v D, v.hd, _, rfl, .inl ⟨SqL.of A0.wl.p.heads, fun l hl => ?_⟩⟩
    refine q _ _ (same_new hl) (.tup (.inl (.inl upd_same)) ?_)
    rw [A0.mr.heads]
    have z := dp_ints' (K := K) (H := upd H l (.tup ((M.hues.map (·.ptr)).map V.int))) (M.hues.map (·.ptr))
    have e : (M.hues.map (·.ptr)).map PyData.int = M.hues.map fun u => PyData.int u.ptr := by
      rw [List.map_map]
      rfl
    rw [e] at z
    exact z
def spChkStrike (K : PySem.W.Frag) : Sp := fun vs H Q _ => ∃ (vc vp vn : V) (c : Code) (i : Nat) (p : Plc) (nw : Nw), vs = [vc, .int i, vp, vn] ∧ Dp K H vc (codeD c) ∧ Dp K H vp (plcD p) ∧ Dp K H vn (nwD i nw) ∧ i < c.h ∧ c.Ok ∧ nwOk c i p nw ∧ ∀ H', Same H H' → Q .non H'
theorem scChkStrike : FnScope ["code", "hue", "place", "new"] ["code", "hue", "place", "new"] (defScope sCheckStrike) := ⟨rfl, rfl, rfl, by decide +kernel, rfl, by decide +kernel, by decide +kernel⟩
theorem ok_chkStrike {f : Addr} {fd : FuncData} (F : Fun K "check_strike" "check_strike" sCheckStrike f fd) (D1 : Df P w K mg base 6 "check_hue" ["code", "hue"] (spChkHue K)) (D2 : Df P w K mg base 6 "is_place" ["code", "hue", "place"] (spIsPlace K)) (D3 : Df P w K mg base 6 "fits_place" ["code", "hue", "place", "new"] (spFitsPlace K)) : FnOk P w K mg base CX0 7 f fd ["code", "hue", "place", "new"] (spChkStrike K) := by
  obtain ⟨f1, fd1, Gcheck_hue, gcheck_hue, kcheck_hue, bcheck_hue⟩ := D1
  obtain ⟨f2, fd2, Gis_place, gis_place, kis_place, bis_place⟩ := D2
  obtain ⟨f3, fd3, Gfits_place, gfits_place, kfits_place, bfits_place⟩ := D3
  refine F.ok scChkStrike (fun vs H Q E h => ?_) (fun cdv A outer s H vs Q E hr h => ?_)
  · obtain ⟨vc, vp, vn, c, i, p, nw, rfl, _⟩ := h
    rfl
  · have nd := scChkStrike.nd
    obtain ⟨vc, vp, vn, c, i, p, nw, rfl, dc, dp, dn, hi, ok, hok, q⟩ := h
    refine ⟨_, pss_cons (ps_expr (pe_call Gcheck_hue hr rfl gcheck_hue kcheck_hue bcheck_hue .nil pass0 (pa_cons (pv 0) (pa_cons (pv 1) pa_nil))))
      (pss_cons (ps_if (pt_not (pt_val (pe_call Gis_place hr rfl gis_place kis_place bis_place .nil pass0 (pa_cons (pv 0) (pa_cons (pv 1) (pa_cons (pv 2) pa_nil))))))
      (pss_one (ps_never))
      pss_nil)
      (pss_one (ps_if (pt_not (pt_val (pe_call Gfits_place hr rfl gfits_place kfits_place bfits_place .nil pass0 (pa_cons (pv 0) (pa_cons (pv 1) (pa_cons (pv 2) (pa_cons (pv 3) pa_nil)))))))
      (pss_one (ps_never))
      pss_nil))), ?_⟩
    obtain ⟨a0, av, ac, ab, xc, evc, h1, h2, h3, h4, h5⟩ := dp_code dc
    refine ⟨_, rfl, _, rfl, a0, av, _, _, i, by rw [evc]; rfl, h1, h2, by rw [List.length_map]; exact hi, ?_⟩
    refine ⟨_, rfl, _, rfl, _, rfl, vc, vp, c, i, p, rfl, dc, dp, plc_of hok, fun H1 s1 => ⟨_, rfl, iteF ?_⟩⟩
    refine ⟨_, rfl, _, rfl, _, rfl, _, rfl, vc, vp, vn, c, i, p, nw, rfl, dp_same s1 _ _ dc, dp_same s1 _ _ dp, dp_same s1 _ _ dn, hi, ok, hok, fun H2 s2 => ⟨_, rfl, iteF ?_⟩⟩
    exact q _ (s1.trans s2)
theorem scMStrike : FnScope ["self", "hue", "place", "new"] ["self", "hue", "place", "new"] (defScope sMStrike) := ⟨rfl, rfl, rfl, by decide +kernel, rfl, by decide +kernel, by decide +kernel⟩
theorem ok_mstrike {f fL : Addr} {fd fdL : FuncData} (F : Fun K "strike" "Machine.strike" sMStrike f fd) (Z : MC K CM) (D1 : Df P w K mg base 7 "check_strike" ["code", "hue", "place", "new"] (spChkStrike K)) (D4 : Df P w K mg base 7 "do_strike" ["works", "hue", "place", "new"] (spDoStrike K CW)) (GL0 : FnOk P w K mg base CX0 3 fL fdL ["self"] (spLook K CM CW)) (mL : Meth K CM "_look" fL) (bL : L2.Binds K fdL ["self"] []) : FnOk P w K mg base CX0 8 f fd ["self", "hue", "place", "new"] (spMStrike K (RepM K CM CW)) := by
  obtain ⟨f1, fd1, G1, g1, k1, b1⟩ := D1
  obtain ⟨f4, fd4, Gdo_strike, gdo_strike, kdo_strike, bdo_strike⟩ := D4
  refine F.ok scMStrike (fun vs H Q E h => ?_) (fun cdv A outer s H vs Q E hr h => ?_)
  · obtain ⟨a, i, vp, vn, p, nw, M, F, rfl, _⟩ := h
    rfl
  · have nd := scMStrike.nd
    have GL := GL0.mono (show 3 ≤ 7 by decide)
    have hrL := hr
    obtain ⟨a, i, vp, vn, p, nw, M, F, rfl, ⟨dx, x, v, D, vc, c, A0, rfl⟩, hi, dp, dn, hok, ep, q⟩ := h
    refine ⟨_, pss_cons (ps_expr (pe_call G1 hr rfl g1 k1 b1 .nil pass0 (pa_cons (pe_fld (pv 0) rfl) (pa_cons (pv 1) (pa_cons (pv 2) (pa_cons (pv 3) pa_nil))))))
      (pss_cons (ps_expr (pe_call Gdo_strike hr rfl gdo_strike kdo_strike bdo_strike .nil pass0 (pa_cons (pe_fld (pv 0) rfl) (pa_cons (pv 1) (pa_cons (pv 2) (pa_cons (pv 3) pa_nil))))))
      (pss_one (ps_expr (pe_meth0 (pv 0) Z.cls mL GL hrL bL .nil pass0)))), ?_⟩
    rw [A0.mr.code] at hi hok
    refine ⟨_, rfl, a, CM, dx, _, _, rfl, A0.ins, Z.cls, Z.n__code, ml_code _ _ _, _, rfl, _, rfl, _, rfl, vc, vp, vn, c, i, p, nw, rfl, A0.cd, dp, dn, hi, A0.ok, hok, fun H2 s12 => ?_⟩
    have A2 := A0.frame fun b o _ e => s12 b o e
    refine ⟨_, rfl, a, CM, dx, _, _, rfl, A2.ins, Z.cls, Z.n__works, ml_works _ _ _, _, rfl, _, rfl, _, rfl, x, vp, vn, v, D, c, i, p, nw, rfl, A2.wl, dp_same s12 _ _ dp, dp_same s12 _ _ dn, A2.mr.ok A0.ok, hi, A0.ok.many.2, hok, fun H3 v3 L3 c3 => ?_⟩
    obtain ⟨A3, k3⟩ := A2.works L3 (A2.mr.strike hi hok ep) c3
    refine ⟨_, rfl, a, dx, _, rfl, A3.ins, ml_look _ _ _, a, dx, x, v3, _, _, _, c, _, rfl, A3, fun H4 A4 k4 => ?_⟩
    exact q _ H4 ⟨dx, x, v3, _, _, c, A4, rfl⟩ ((Chg.same s12).trans (k3.trans k4))
/-! ### the own instruction -/
theorem MR.own_code {c : Code} {M : Mac} {D : WD} (R : MR c M D) {i p : Nat} {u : Hu} {k : Ins} (hu : M.hues[i]? = some u) (hk : u.own.getD p none = some k) : ∃ k0, c.cells[p]? = some (.ins i k0) := by
  have eo : ownA (M.hues.map (·.own)) p i = some k := by
    unfold ownA
    rw [List.getElem?_map, hu]
    exact hk
  by_cases h : ∃ k0, c.cells[p]? = some (.ins i k0)
  · exact h
  · have z := R.tpp.no p i fun k0 e => h ⟨k0, e⟩
    rw [eo] at z
    cases z
theorem dps_atT {H : Hp} : ∀ {vs : List V} {ds : List PyData} {i : Nat} {d : PyData}, DpAll K H vs ds → ds[i]? = some d → ∃ v, vs[i]? = some v ∧ Dp K H v d
  | _, _, 0, _, .cons a _, h => by
    cases (Option.some.inj h)
    exact ⟨_, rfl, a⟩
  | _, _, i + 1, _, .cons _ b, h => dps_atT (i := i) b h
  | _, _, _, _, .nil, h => by simp at h
theorem scMOwn : FnScope ["self", "hue", "address"] ["self", "hue", "address"] (defScope sMOwn) := ⟨rfl, rfl, rfl, by decide +kernel, rfl, by decide +kernel, by decide +kernel⟩
theorem ok_mown {f : Addr} {fd : FuncData} (F : Fun K "own" "Machine.own" sMOwn f fd) (Z : MC K CM) (ZW : WC K mg CW f0) (D1 : Df P w K mg base 3 "check_hue" ["code", "hue"] (spChkHue K)) (D2 : Df P w K mg base 3 "has_instruction" ["code", "hue", "address"] (spHasIns K)) : FnOk P w K mg base CX0 4 f fd ["self", "hue", "address"] (spMOwn K (RepM K CM CW)) := by
  obtain ⟨f1, fd1, Gcheck_hue, gcheck_hue, kcheck_hue, bcheck_hue⟩ := D1
  obtain ⟨f2, fd2, Ghas_instruction, ghas_instruction, khas_instruction, bhas_instruction⟩ := D2
  refine F.ok scMOwn (fun vs H Q E h => ?_) (fun cdv A outer s H vs Q E hr h => ?_)
  · obtain ⟨a, i, p, M, F, u, k, rfl, _⟩ := h
    rfl
  · have nd := scMOwn.nd
    obtain ⟨a, i, p, M, F, u, k, rfl, ⟨dx, x, v, D, vc, c, A0, rfl⟩, hu, hk, q⟩ := h
    refine ⟨_, pss_cons (ps_expr (pe_call Gcheck_hue hr rfl gcheck_hue kcheck_hue bcheck_hue .nil pass0 (pa_cons (pe_fld (pv 0) rfl) (pa_cons (pv 1) pa_nil))))
      (pss_cons (ps_if (pt_not (pt_val (pe_call Ghas_instruction hr rfl ghas_instruction khas_instruction bhas_instruction .nil pass0 (pa_cons (pe_fld (pv 0) rfl) (pa_cons (pv 1) (pa_cons (pv 2) pa_nil))))))
      (pss_one (ps_never))
      pss_nil)
      (pss_one (ps_ret (pe_ix ix_tup (pe_fld (pe_fld (pv 0) rfl) rfl) (pv 2) (fun _ _ => rfl))))), ?_⟩
    obtain ⟨a0, av, ac, ab, xc, evc, h1, h2, h3, h4, h5⟩ := dp_code A0.cd
    have hi : i < c.h := by
      rw [← A0.mr.len]
      exact (List.getElem?_eq_some_iff.mp hu).1
    obtain ⟨k0, hk0⟩ := A0.mr.own_code hu hk
    refine ⟨_, rfl, a, CM, dx, _, _, rfl, A0.ins, Z.cls, Z.n__code, ml_code _ _ _, _, rfl, a0, av, _, _, i, by rw [evc]; rfl, h1, h2, by rw [List.length_map]; exact hi, ?_⟩
    refine ⟨_, rfl, a, CM, dx, _, _, rfl, A0.ins, Z.cls, Z.n__code, ml_code _ _ _, _, rfl, _, rfl, vc, c, i, p, k0, rfl, A0.cd, hk0, _, rfl, iteF ?_⟩
    obtain ⟨ts, t1, t2⟩ := A0.wl.p.tape
    have htp := A0.mr.tpp.tp p _ hk0
    have eo : ownA (M.hues.map (·.own)) p i = some k := by
      unfold ownA
      rw [List.getElem?_map, hu]
      exact hk
    have hcu : currA (M.hues.map (·.own)) p (.ins i k0) = .ins i k := by
      show Cel.ins i ((ownA _ p i).getD k0) = _
      rw [eo]
      rfl
    rw [hcu] at htp
    obtain ⟨y, hy1, hy2⟩ := dps_atT t2 (show (D.tape.map celD)[p]? = some (celD (.ins i k)) by rw [List.getElem?_map, htp]; rfl)
    refine ⟨_, rfl, a, CM, dx, _, _, rfl, A0.ins, Z.cls, Z.n__works, ml_works _ _ _, x, CW, v.dw, _, _, rfl, A0.wl.ins, ZW.cls, ZW.n_tape, wl_tape v D, _, rfl, v.tp, _, _, _, rfl, rfl, t1, atI_nat hy1, ?_⟩
    exact q _ _ (fun _ _ e => e) hy2
end
end Hue
namespace Hue
open L2 PySem.Spec PySem PyProof.Rows
section
variable {P : Program} {w : World} {K : PySem.W.Frag} {mg : Str → Option Value} {base : Heap} {CM CW f0 : Addr}
theorem scMLeft : FnScope ["self"] ["self"] (defScope sMLeft) := ⟨rfl, rfl, rfl, by decide +kernel, rfl, by decide +kernel, by decide +kernel⟩
def spLeftOf (K : PySem.W.Frag) (CW : Addr) : Sp := fun vs H Q _ => ∃ (x : Addr) (v : WV) (D : WD), vs = [.ref x] ∧ WL K CW H x v D ∧ ∀ p H', Same H H' → H p = none → H' p = some (.lst ((D.given.drop D.taken).map .int)) → Q (.ref p) H'
theorem scLeftOf : FnScope ["works"] ["works"] (defScope sLeftOf) := ⟨rfl, rfl, rfl, by decide +kernel, rfl, by decide +kernel, by decide +kernel⟩
theorem ok_leftOf {f : Addr} {fd : FuncData} (F : Fun K "left_of" "left_of" sLeftOf f fd) (ZW : WC K mg CW f0) : FnOk P w K mg base CX0 1 f fd ["works"] (spLeftOf K CW) := by
  refine F.ok scLeftOf (fun vs H Q E h => ?_) (fun cdv A outer s H vs Q E hr h => ?_)
  · obtain ⟨x, v, D, rfl, _⟩ := h
    rfl
  · have nd := scLeftOf.nd
    obtain ⟨x, v, D, rfl, L, q⟩ := h
    refine ⟨_, pss_one (ps_ret (pe_slice sl_list (pe_fld (pv 0) rfl) (po_some (pe_fld (pv 0) rfl)) po_none)), ?_⟩
    refine ⟨_, rfl, x, CW, v.dw, _, _, rfl, L.ins, ZW.cls, ZW.n_given, wl_given v D, _, rfl, x, CW, v.dw, _, _, rfl, L.ins, ZW.cls, ZW.n_taken, wl_taken v D, ?_⟩
    refine ⟨_, rfl, v.gv, _, rfl, SqL.of L.p.given, fun p hp => ?_⟩
    refine q _ _ (same_new hp) hp ?_
    rw [cut_from', ← List.map_drop]
    exact upd_same
theorem ok_mleft {f : Addr} {fd : FuncData} (F : Fun K "left" "Machine.left" sMLeft f fd) (Z : MC K CM) (D1 : Df P w K mg base 1 "left_of" ["works"] (spLeftOf K CW)) : FnOk P w K mg base CX0 2 f fd ["self"] (spMTell K (RepM K CM CW) fun M => .list (M.left.map .int)) := by
  obtain ⟨f1, fd1, G1, g1, k1, b1⟩ := D1
  refine F.ok scMLeft (fun vs H Q E h => ?_) (fun cdv A outer s H vs Q E hr h => ?_)
  · obtain ⟨a, M, F, rfl, _⟩ := h
    rfl
  · have nd := scMLeft.nd
    obtain ⟨a, M, F, rfl, ⟨dx, x, v, D, vc, c, A0, rfl⟩, q⟩ := h
    refine ⟨_, pss_one (ps_ret (pe_call G1 hr rfl g1 k1 b1 .nil pass0 (pa_cons (pe_fld (pv 0) rfl) pa_nil))), ?_⟩
    refine ⟨_, rfl, a, CM, dx, _, _, rfl, A0.ins, Z.cls, Z.n__works, ml_works _ _ _, x, v, D, rfl, A0.wl, fun p H' sm _ e => ?_⟩
    refine q _ _ sm ?_
    show Dp K H' (.ref p) (.list (M.left.map .int))
    rw [A0.mr.left]
    exact (.lst (.inl (.inl e)) (dp_ints' _))
end
end Hue
namespace Hue
open L2 PySem.Spec PySem PyProof.Rows
/-! ### moments -/
section
variable {P : Program} {w : World} {K : PySem.W.Frag} {mg : Str → Option Value} {base : Heap} {CM CW f0 : Addr}
def isOf (i : Nat) : Cel → Bool
  | .ins j _ => decide (j = i)
  | _ => false
/-- the cells of a hue, and its own instructions -/
theorem own_mt (i : Nat) : ∀ (zs : List Cel) (os : List (Option Ins)), zs.length = os.length → (∀ (p : Nat) (z : Cel) (o : Option Ins), zs[p]? = some z → os[p]? = some o → (∃ k, o = some k ∧ z = .ins i k) ∨ (o = none ∧ isOf i z = false)) → (zs.filter (isOf i)).map celD = (ownsL os).map (insD i)
  | [], [], _, _ => rfl
  | [], _ :: _, h, _ => by cases h
  | _ :: _, [], h, _ => by cases h
  | z :: zs, o :: os, h, f => by
    have ih := own_mt i zs os (by simpa using h) fun p z o hz ho => f (p + 1) z o hz ho
    have h0 : ownsL (o :: os) = (match o with | some k => k :: ownsL os | none => ownsL os) := by
      cases o <;> rfl
    rw [h0]
    rcases f 0 z o rfl rfl with ⟨k, rfl, rfl⟩ | ⟨rfl, e⟩
    · have e : isOf i (.ins i k) = true := by
        show decide (i = i) = true
        exact decide_eq_true rfl
      rw [List.filter_cons_of_pos e, List.map_cons, ih]
      rfl
    · rw [List.filter_cons_of_neg (by rw [e]; exact Bool.false_ne_true), ih]
theorem MR.own_tape {c : Code} {M : Mac} {D : WD} (R : MR c M D) {i : Nat} {u : Hu} (hu : M.hues[i]? = some u) : (D.tape.filter (isOf i)).map celD = (ownsL u.own).map (insD i) := by
  have T := R.tpp
  have hul : u.own.length = c.cells.length := T.lp _ (List.mem_map.mpr ⟨u, List.mem_of_getElem? hu, rfl⟩)
  refine own_mt i _ _ (by rw [T.lt, hul]) fun p z o hz ho => ?_
  have hp : p < c.cells.length := by
    rw [← T.lt]
    exact (List.getElem?_eq_some_iff.mp hz).1
  have h0 : c.cells[p]? = some c.cells[p] := List.getElem?_eq_getElem hp
  have h1 := T.tp p _ h0
  rw [hz] at h1
  have h1 := Option.some.inj h1
  have eo : ownA (M.hues.map (·.own)) p i = o := by
    unfold ownA
    rw [List.getElem?_map, hu]
    show u.own.getD p none = o
    rw [List.getD_eq_getElem?_getD, ho]
    rfl
  generalize c.cells[p] = z0 at *
  by_cases hi : ∃ k, z0 = .ins i k
  · obtain ⟨k, rfl⟩ := hi
    obtain ⟨k', e1, _, _⟩ := T.ow p i k h0
    rw [eo] at e1
    refine .inl ⟨k', e1, ?_⟩
    rw [h1]
    show Cel.ins i ((ownA _ p i).getD k) = _
    rw [eo, e1]
    rfl
  · have e1 := T.no p i fun k e => hi ⟨k, by rw [h0] at e; exact Option.some.inj e⟩
    rw [eo] at e1
    refine .inr ⟨e1, ?_⟩
    rw [h1]
    cases z0 with
    | ins j k => exact decide_eq_false fun y => hi ⟨k, by rw [y]⟩
    | _ => rfl
def spOwnOf (K : PySem.W.Frag) (CW : Addr) : Sp := fun vs H Q _ => ∃ (x : Addr) (i : Nat) (v : WV) (D : WD), vs = [.ref x, .int i] ∧ WL K CW H x v D ∧ D.tape.length ≤ 4000 ∧ ∀ H' l xs, Same H H' → H l = none → H' l = some (.lst xs) → DpAll K H' xs ((D.tape.filter (isOf i)).map celD) → Q (.ref l) H'
theorem scOwnOf : FnScope ["works", "hue", "cell"] ["works", "hue"] (defScope sOwnOf) := ⟨rfl, rfl, rfl, by decide +kernel, rfl, by decide +kernel, by decide +kernel⟩
theorem cel_head {H : Hp} {v : V} {z : Cel} (h : Dp K H v (celD z)) (i : Nat) : ∃ a y xs, v = .ref a ∧ SqT K H a (y :: xs) ∧ decide (y = .int (i : Int)) = isOf i z ∧ (∃ s, y = .str s ∨ ∃ n, y = .int n) := by
  obtain ⟨a, rfl, hS⟩ := dp_cel h
  cases z with
  | ins j k =>
    have e : ∃ xs, celV (.ins j k) = .int (j : Int) :: xs := by cases k <;> exact ⟨_, rfl⟩
    obtain ⟨xs, e⟩ := e
    rw [e] at hS
    refine ⟨a, _, xs, rfl, hS, ?_, "", .inr ⟨_, rfl⟩⟩
    show decide (V.int (j : Int) = V.int (i : Int)) = decide (j = i)
    rw [decide_eq_decide]
    exact ⟨fun z => by cases z; rfl, fun z => by rw [z]⟩
  | shw p w => exact ⟨a, _, _, rfl, hS, rfl, _, .inl rfl⟩
  | trn p w => exact ⟨a, _, _, rfl, hS, rfl, _, .inl rfl⟩
  | tak p w => exact ⟨a, _, _, rfl, hS, rfl, _, .inl rfl⟩
  | gto p => exact ⟨a, _, _, rfl, hS, rfl, _, .inl rfl⟩
  | stp => exact ⟨a, _, _, rfl, hS, rfl, _, .inl rfl⟩
  | mrk => exact ⟨a, _, _, rfl, hS, rfl, _, .inl rfl⟩
theorem ok_ownOf {f : Addr} {fd : FuncData} (F : Fun K "own_of" "own_of" sOwnOf f fd) (ZW : WC K mg CW f0) : FnOk P w K mg base CX0 1 f fd ["works", "hue"] (spOwnOf K CW) := by
  refine F.ok scOwnOf (fun vs H Q E h => ?_) (fun cdv A outer s H vs Q E hr h => ?_)
  · obtain ⟨x, i, v, D, rfl, _⟩ := h
    rfl
  · have nd := scOwnOf.nd
    obtain ⟨x, i, v, D, rfl, L, hn, q⟩ := h
    refine ⟨_, pss_one (ps_ret (pe_lc (own := [("cell", 2)]) (g := gName 2) (tt := tTest (tOp rEq (tOp (rIxT K) (tVar 2) (tC (V.int 0))) (tVar 1))) (by rfl) nd (pi_tup (pe_fld (pv 0) rfl)) (blkOk_by (own := [("cell", 2)]) (N := ["works", "hue", "cell"]) (sc := defScope sOwnOf) (by decide +kernel)) (fun _ _ _ _ _ => pg_name (i := 2) nd rfl (Or.inl rfl))
          (fun _ _ _ _ _ => by exact pts_one (pt_cmpR op_eq (pe_ix ix_tup (pv 2) pe_int (fun _ _ => rfl)) (pv 1) (nomark _)))
          (fun _ _ _ _ _ => pv 2))), ?_⟩
    obtain ⟨ts, t1, t2⟩ := L.p.tape
    refine ⟨_, rfl, x, CW, v.dw, _, _, rfl, L.ins, ZW.cls, ZW.n_tape, wl_tape v D, v.tp, rfl, ⟨_, t1⟩, fun Dd hDd => ?_⟩
    have hlt : ts.length = D.tape.length := by
      have := dps_len t2
      rw [List.length_map] at this
      exact this
    refine lc_tup (K := K) (a := v.tp) (xs := ts) (fun k H' => ∃ acc, H' Dd = some (.lst acc) ∧ DpAll K H' acc (((D.tape.take k).filter (isOf i)).map celD) ∧ ∀ b o, b ≠ Dd → H b = some o → H' b = some o) ⟨[], upd_same, .nil, fun b o n e => by rw [upd_ne n]; exact e⟩ (fun k H' _ hh => ?_) (fun k z H' hz hh => ?_) (fun H' hh => ?_)
    · obtain ⟨acc, _, _, e⟩ := hh
      exact (Tk.same fun b o eb => e b o (ne_of_none eb hDd) eb).seq t1
    · obtain ⟨acc, a1, a2, e⟩ := hh
      have sm : Same H H' := fun b o eb => e b o (ne_of_none eb hDd) eb
      obtain ⟨d, hd1, hd2⟩ := dps_get t2 hz
      rw [List.getElem?_map] at hd1
      obtain ⟨cz, hcz, rfl⟩ := Option.map_eq_some_iff.mp hd1
      have hk : k < D.tape.length := (List.getElem?_eq_some_iff.mp hcz).1
      have et : D.tape.take (k + 1) = D.tape.take k ++ [cz] := by
        rw [List.take_succ, hcz]
        rfl
      obtain ⟨az, y, ys, rfl, hS, hdec, hfl⟩ := cel_head (K := K) (dp_same sm _ _ hd2) i
      refine ⟨rfl, _, rfl, az, _, 0, y, rfl, rfl, hS, at_of (j := 0) rfl rfl, _, rfl, ?_⟩
      have flat : flatV y = true ∧ flatV (.int (i : Int)) = true := by
        obtain ⟨s, rfl | ⟨n, rfl⟩⟩ := hfl
        · exact ⟨rfl, rfl⟩
        · exact ⟨rfl, rfl⟩
      have haz : Dp K H' (.ref az) (celD cz) := dp_same sm _ _ hd2
      refine ⟨?_, isOf i cz, ?_, ite2 (fun e1 => ?_) (fun e1 => ?_)⟩
      · first
          | exact flat
          | (obtain ⟨s, rfl | ⟨n, rfl⟩⟩ := hfl <;> rfl)
      · exact congrArg V.bl hdec
      · have tk : Tk H' (upd H' Dd (.lst (acc ++ [.ref az]))) := Tk.lst a1
        refine ⟨_, rfl, acc, a1, ?_, acc ++ [.ref az], upd_same, ?_, fun b o n eb => by rw [upd_ne n]; exact e b o n eb⟩
        · have h1 := dps_len a2
          rw [List.length_map] at h1
          have h2 := List.length_filter_le (isOf i) (D.tape.take k)
          rw [List.length_take] at h2
          exact Nat.lt_of_lt_of_le (show acc.length < 1000000 by omega) (by decide)
        · rw [et, List.filter_append, List.filter_cons_of_pos e1, List.filter_nil, List.map_append]
          exact dps_app (dps_tk tk _ _ (noLs_map _ noL_cel _) a2) (.cons (dp_tk tk _ _ (noL_cel cz) haz) .nil)
      · refine ⟨acc, a1, ?_, e⟩
        rw [et, List.filter_append, List.filter_cons_of_neg e1, List.filter_nil, List.append_nil]
        exact a2
    · obtain ⟨acc, a1, a2, e⟩ := hh
      rw [hlt, List.take_length] at a2
      exact q H' Dd acc (fun b o eb => e b o (ne_of_none eb hDd) eb) hDd a1 a2
def hueX (x : Hu × Nat) : PyData := .tuple [.tuple (x.1.regs.map .int), .tuple (x.1.bank.map .int), .int x.1.ptr, slotD x.1.slot, .tuple ((ownsL x.1.own).map (insD x.2))]
theorem momX (M : Mac) : momD M = .tuple [.tuple (M.hues.zipIdx.map hueX), .tuple [.str (staS M.st), .tuple (M.left.map .int)]] := rfl
theorem noL_hueX (x : Hu × Nat) : noL (hueX x) = true := by
  show (noLs (x.1.regs.map PyData.int) && (noLs (x.1.bank.map PyData.int) && (true && (noL (slotD x.1.slot) && (noLs ((ownsL x.1.own).map (insD x.2)) && true))))) = true
  rw [noLs_map _ (fun _ => rfl), noLs_map _ (fun _ => rfl), noLs_map (insD x.2) (fun k => by cases k <;> rfl)]
  cases x.1.slot <;> rfl
theorem scMomentOf : FnScope ["works", "found", "hue", "numbers", "bank"] ["works"] (defScope sMomentOf) := ⟨rfl, rfl, rfl, by decide +kernel, rfl, by decide +kernel, by decide +kernel⟩
def spMomentOf (K : PySem.W.Frag) (CW : Addr) : Sp := fun vs H Q _ => ∃ (x : Addr) (v : WV) (D : WD) (c : Code) (M : Mac), vs = [.ref x] ∧ WL K CW H x v D ∧ MR c M D ∧ c.Ok ∧ ∀ u H', Same H H' → Dp K H' u (momD M) → Q u H'
theorem ok_momentOf {f : Addr} {fd : FuncData} (F : Fun K "moment_of" "moment_of" sMomentOf f fd) (T : Bt mg) (ZW : WC K mg CW f0) (D1 : Df P w K mg base 1 "state_of" ["works", "hue"] (spStateOf K CW)) (D2 : Df P w K mg base 1 "own_of" ["works", "hue"] (spOwnOf K CW)) (D3 : Df P w K mg base 1 "left_of" ["works"] (spLeftOf K CW)) : FnOk P w K mg base CX0 2 f fd ["works"] (spMomentOf K CW) := by
  obtain ⟨f1, fd1, G1, gstate_of, kstate_of, bstate_of⟩ := D1
  obtain ⟨f2, fd2, G2, gown_of, kown_of, bown_of⟩ := D2
  obtain ⟨f3, fd3, G3, g3, k3, b3⟩ := D3
  refine F.ok scMomentOf (fun vs H Q E h => ?_) (fun cdv A outer s H vs Q E hr h => ?_)
  · obtain ⟨x, v, D, c, M, rfl, _⟩ := h
    rfl
  · have nd := scMomentOf.nd
    have Gstate_of := G1
    have Gown_of := G2
    obtain ⟨x, v, D, c, M, rfl, L0, R0, cok, q⟩ := h
    refine ⟨_, pss_cons (ps_set (i := 1) nd rfl (.inl rfl) (pe_lst pa_nil))
      (pss_cons (ps_for PassesOwn.never rfl (pi_range1 (by rfl) T.range (pa_cons (pe_callB call_len_seq (by rfl) T.len PySem.boot_len (pa_cons (pe_fld (pv 0) rfl) pa_nil)) pa_nil)) (pg_name (i := 2) nd rfl (.inl rfl))
      (pss_cons (ps_asg (pe_call Gstate_of hr rfl gstate_of kstate_of bstate_of .nil pass0 (pa_cons (pv 0) (pa_cons (pv 2) pa_nil))) (pg_tup (by rfl) (pgs_cons (pg_name (i := 3) nd rfl (.inl rfl)) (pgs_cons (pg_name (i := 4) nd rfl (.inl rfl)) pgs_nil))))
        (pss_one (ps_expr (pe_bm PySem.F.plainAttrs_list PySem.F.slot_list_append PySem.F.type_list_append mt_append (pv 1) (pa_cons (pe_tup (pa_cons (pe_callTy call_tuple_of (by rfl) T.tuple (by decide +kernel) (pa_cons (pv 3) pa_nil)) (pa_cons (pe_callTy call_tuple_of (by rfl) T.tuple (by decide +kernel) (pa_cons (pv 4) pa_nil)) (pa_cons (pe_ix ix_list (pe_fld (pv 0) rfl) (pv 2) (fun _ _ => rfl)) (pa_cons (pe_ix ix_list (pe_fld (pv 0) rfl) (pv 2) (fun _ _ => rfl)) (pa_cons (pe_callTy call_tuple_of (by rfl) T.tuple (by decide +kernel) (pa_cons (pe_call Gown_of hr rfl gown_of kown_of bown_of .nil pass0 (pa_cons (pv 0) (pa_cons (pv 2) pa_nil))) pa_nil)) pa_nil)))))) pa_nil))))))
      (pss_one (ps_ret (pe_tup (pa_cons (pe_callTy call_tuple_of (by rfl) T.tuple (by decide +kernel) (pa_cons (pv 1) pa_nil)) (pa_cons (pe_tup (pa_cons (pe_fld (pv 0) rfl) (pa_cons (pe_callTy call_tuple_of (by rfl) T.tuple (by decide +kernel) (pa_cons (pe_call G3 hr rfl g3 k3 b3 .nil pass0 (pa_cons (pv 0) pa_nil)) pa_nil)) pa_nil))) pa_nil)))))), ?_⟩
    have hlv : (D.votes.map fun n : Nat => V.int (n : Int)).length = c.h := by rw [List.length_map, R0.votes]; rfl
    have hlc : D.tape.length ≤ 4000 := by rw [R0.tpp.lt]; exact cok.many.2
    have hh5 : c.h ≤ 5 := cok.votes.2.1
    have hlh := R0.len
    refine ⟨(by decide), fun fo hfo => ?_⟩
    have s1 := same_new (o := .lst []) hfo
    have L1 := L0.same s1
    refine ⟨_, rfl, x, CW, v.dw, _, _, rfl, L1.ins, ZW.cls, ZW.n_votes, wl_votes v D, v.vt, _, rfl, .inr L1.p.votes, _, rfl, by rw [hlv]; omega, by rw [hlv]; omega, ?_⟩
    rw [hlv, show ((c.h : Int)).toNat = c.h from Int.toNat_natCast c.h]
    refine for_range (lo := 0) (n := c.h) (fun i σ H' => ∃ y3 y4 y5 xs, σ = [some (.ref x), some (.ref fo), y3, y4, y5] ∧ H' fo = some (.lst xs) ∧ DpAll K H' xs ((M.hues.zipIdx.take i).map hueX) ∧ xs.length = i ∧ ∀ b o, b ≠ fo → H b = some o → H' b = some o)
      ⟨none, none, none, [], rfl, upd_same, .nil, rfl, fun b o n e => by rw [upd_ne n]; exact e⟩ (fun i σ H' hi hh => ?_) (fun σ H' hh => ?_)
    · obtain ⟨y3, y4, y5, xs, rfl, x1, x2, x3, e⟩ := hh
      have sm : Same H H' := fun b o eb => e b o (ne_of_none eb hfo) eb
      have L2' := L0.same sm
      have hil : i < M.hues.length := by omega
      have hu : M.hues[i]? = some M.hues[i] := List.getElem?_eq_getElem hil
      have hr0 : D.regs[i]? = some M.hues[i].regs := by rw [R0.regs, List.getElem?_map, hu]; rfl
      have hb0 : D.banks[i]? = some M.hues[i].bank := by rw [R0.banks, List.getElem?_map, hu]; rfl
      have hp0 : D.heads[i]? = some M.hues[i].ptr := by rw [R0.heads, List.getElem?_map, hu]; rfl
      have hs0 : D.slots[i]? = some M.hues[i].slot := by rw [R0.slots, List.getElem?_map, hu]; rfl
      obtain ⟨ra, hra, hrl⟩ := L2'.reg_at hr0
      obtain ⟨ba, hba, hbl⟩ := L2'.bnk_at hb0
      have e0 : (0 : Int) + (i : Int) = (i : Int) := Int.zero_add _
      refine ⟨_, rfl, _, rfl, x, v, D, i, ra, ba, ?_, L2', hra, hba, fun p hp => ?_⟩
      · show [V.ref x, V.int (0 + (i : Int))] = _
        rw [e0]
      have s3 := same_new (o := .tup [V.ref ra, V.ref ba]) hp
      refine ⟨p, _, rfl, .inl (.inl upd_same), rfl, _, _, rfl, _, _, rfl, rfl, ?_⟩
      refine ⟨_, rfl, .inl ⟨rfl, _, .inl (.inl (s3 _ _ x1))⟩, ?_⟩
      refine ⟨_, rfl, ra, _, rfl, .inl ⟨SqL.of (s3 _ _ hrl), fun l1 hl1 => ?_⟩⟩
      have s4 := same_new (o := .tup (M.hues[i].regs.map V.int)) hl1
      refine ⟨_, rfl, ba, _, rfl, .inl ⟨SqL.of (s4 _ _ (s3 _ _ hbl)), fun l2 hl2 => ?_⟩⟩
      have s5 := same_new (o := .tup (M.hues[i].bank.map V.int)) hl2
      have s35 := (s3.trans s4).trans s5
      have L5 := L2'.same s35
      refine ⟨_, rfl, x, CW, v.dw, _, _, rfl, L5.ins, ZW.cls, ZW.n_heads, wl_heads v D, _, rfl, v.hd, _, _, _, rfl, rfl, SqL.of L5.p.heads, by rw [e0]; exact atM hp0, ?_⟩
      refine ⟨_, rfl, x, CW, v.dw, _, _, rfl, L5.ins, ZW.cls, ZW.n_offers, wl_offers v D, _, rfl, v.sl, _, _, _, rfl, rfl, SqL.of L5.p.slots, by rw [e0]; exact atM hs0, ?_⟩
      refine ⟨_, rfl, _, rfl, x, i, v, D, ?_, L5, hlc, fun H6 lo ys s6 hlo hlo2 dlo => ?_⟩
      · show [V.ref x, V.int (0 + (i : Int))] = _
        rw [e0]
      refine ⟨lo, _, rfl, .inl ⟨SqL.of hlo2, fun l3 hl3 => ?_⟩⟩
      have s7 := same_new (o := .tup ys) hl3
      refine ⟨(by show 5 ≤ sizeLine; decide), fun l4 hl4 => ?_⟩
      have s8 := same_new (o := .tup [V.ref l1, V.ref l2, V.int M.hues[i].ptr, slotV M.hues[i].slot, V.ref l3]) hl4
      have s68 := s6.trans (s7.trans s8)
      have s38 := s35.trans s68
      refine ⟨_, _, _, rfl, rfl, s38 _ _ x1, small1000 (by omega), ?_⟩
      have tk : Tk H' _ := (Tk.same s38).trans (Tk.lst (o := .lst (xs ++ [.ref l4])) (s38 _ _ x1))
      have tk8 := Tk.lst (o := .lst (xs ++ [.ref l4])) (s38 _ _ x1)
      refine ⟨_, _, _, xs ++ [.ref l4], rfl, upd_same, ?_, by rw [List.length_append, x3]; rfl, fun b o n eb => ?_⟩
      · have ez : M.hues.zipIdx.take (i + 1) = M.hues.zipIdx.take i ++ [(M.hues[i], i)] := by
          rw [List.take_succ, List.getElem?_zipIdx, hu]
          simp
        rw [ez, List.map_append]
        refine dps_app (dps_tk tk _ _ (noLs_map _ noL_hueX _) x2) (.cons (.tup (.inl (.inl (tk8 _ _ True.intro upd_same))) ?_) .nil)
        have own := R0.own_tape hu
        rw [own] at dlo
        refine .cons (.tup (.inl (.inl (tk8 _ _ True.intro (s68 _ _ (s5 _ _ upd_same))))) (dp_ints' _)) (.cons (.tup (.inl (.inl (tk8 _ _ True.intro (s68 _ _ upd_same)))) (dp_ints' _)) (.cons (.int _) (.cons ?_ (.cons (.tup (.inl (.inl (tk8 _ _ True.intro (s8 _ _ upd_same)))) ?_) .nil))))
        · cases M.hues[i].slot with
          | none => exact .non
          | some n => exact .int n
        · exact dps_tk tk8 _ _ (noLs_map (insD i) (fun k => by cases k <;> rfl) _) (dps_same (s7.trans s8) _ _ dlo)
      · rw [upd_ne n]
        exact s38 _ _ (e b o n eb)
    · obtain ⟨y3, y4, y5, xs, rfl, x1, x2, x3, e⟩ := hh
      have sm : Same H H' := fun b o eb => e b o (ne_of_none eb hfo) eb
      refine ⟨_, rfl, fo, _, rfl, .inl ⟨SqL.of x1, fun l1 hl1 => ?_⟩⟩
      have s2 := same_new (o := .tup xs) hl1
      have s12 := sm.trans s2
      have A2 := L0.same s12
      refine ⟨_, rfl, x, CW, v.dw, _, _, rfl, A2.ins, ZW.cls, ZW.n_word, wl_word v D, ?_⟩
      refine ⟨_, rfl, x, v, D, rfl, A2, fun al H3 s3 _ hl1' => ?_⟩
      rw [← R0.left] at hl1'
      refine ⟨al, _, rfl, .inl ⟨.inl (.inl hl1'), fun l2 hl2 => ?_⟩⟩
      have s4 := same_new (o := .tup (M.left.map V.int)) hl2
      refine ⟨(by show 2 ≤ sizeLine; decide), fun l3 hl3 => ?_⟩
      have s5 := same_new (o := .tup [V.str (staS D.st), V.ref l2]) hl3
      refine ⟨(by show 2 ≤ sizeLine; decide), fun l4 hl4 => ?_⟩
      have s6 := same_new (o := .tup [V.ref l1, V.ref l3]) hl4
      refine q _ _ (s12.trans (s3.trans (s4.trans (s5.trans s6)))) ?_
      rw [momX]
      refine .tup (.inl (.inl upd_same)) (.cons (.tup (.inl (.inl ((s3.trans (s4.trans (s5.trans s6))) _ _ upd_same))) ?_) (.cons (.tup (.inl (.inl (s6 _ _ upd_same))) (.cons ?_ (.cons (.tup (.inl (.inl ((s5.trans s6) _ _ upd_same))) ?_) .nil))) .nil))
      · rw [List.take_of_length_le (by rw [List.length_zipIdx]; omega)] at x2
        exact dps_tk (Tk.same (s2.trans (s3.trans (s4.trans (s5.trans s6))))) _ _ (noLs_map _ noL_hueX _) x2
      · rw [R0.st]
        exact .str _
      · exact dps_tk (Tk.same (s4.trans (s5.trans s6))) _ _ (noLs_map _ (fun _ => rfl) _) (dp_ints' (H := H3) _)
theorem scMoment : FnScope ["self"] ["self"] (defScope sMMoment) := ⟨rfl, rfl, rfl, by decide +kernel, rfl, by decide +kernel, by decide +kernel⟩
theorem ok_moment {f : Addr} {fd : FuncData} (F : Fun K "moment" "Machine.moment" sMMoment f fd) (Z : MC K CM) (D1 : Df P w K mg base 2 "moment_of" ["works"] (spMomentOf K CW)) : FnOk P w K mg base CX0 3 f fd ["self"] (spMTell K (RepM K CM CW) momD) := by
  obtain ⟨f1, fd1, G1, g1, k1, b1⟩ := D1
  refine F.ok scMoment (fun vs H Q E h => ?_) (fun cdv A outer s H vs Q E hr h => ?_)
  · obtain ⟨a, M, F, rfl, _⟩ := h
    rfl
  · have nd := scMoment.nd
    obtain ⟨a, M, F, rfl, ⟨dx, x, v, D, vc, c, A0, rfl⟩, q⟩ := h
    refine ⟨_, pss_one (ps_ret (pe_call G1 hr rfl g1 k1 b1 .nil pass0 (pa_cons (pe_fld (pv 0) rfl) pa_nil))), ?_⟩
    exact ⟨_, rfl, a, CM, dx, _, _, rfl, A0.ins, Z.cls, Z.n__works, ml_works _ _ _, x, v, D, c, M, rfl, A0.wl, A0.mr, A0.ok, fun u H' sm d => q _ _ sm d⟩
end
end Hue
namespace Hue
open L2 PySem.Spec PySem PyProof.Rows
/-! ### all of the machine together -/
def MethT (K : PySem.W.Frag) (C : Addr) (m qual : Str) (st : Stmt) (ps : List Str) : Prop := ∃ (f : Addr) (fd : FuncData), Fun K m qual st f fd ∧ Meth K C m f ∧ L2.Binds K fd ps []
def PropT (K : PySem.W.Frag) (C : Addr) (m qual : Str) (st : Stmt) : Prop := ∃ (p f : Addr) (fd : FuncData), Fun K m qual st f fd ∧ PropOf K C m p f ∧ L2.Binds K fd ["self"] []
/-- the defs of the program -/
structure Txs (K : PySem.W.Frag) (mg : Str → Option Value) : Prop where
  is_from : Tx K mg "is_from" sIsFrom ["value", "low"]
  is_within : Tx K mg "is_within" sIsWithin ["value", "low", "high"]
  check_inputs : Tx K mg "check_inputs" sCheckInputs ["inputs"]
  check_steps : Tx K mg "check_steps" sCheckSteps ["steps"]
  bounds_of : Tx K mg "bounds_of" sBoundsOf ["code"]
  is_settle_cell : Tx K mg "is_settle_cell" sIsSettle ["cell"]
  fits_instruction : Tx K mg "fits_instruction" sFitsIns ["bounds", "hue", "value"]
  fits_cell : Tx K mg "fits_cell" sFitsCell ["bounds", "value"]
  fit_items : Tx K mg "fit_items" sFitItems ["bounds", "kinds", "items"]
  fits_kind : Tx K mg "fits_kind" sFitsKind ["bounds", "kind", "item"]
  is_votes : Tx K mg "is_votes" sIsVotes ["value"]
  is_bank : Tx K mg "is_bank" sIsBank ["value", "size"]
  is_code : Tx K mg "is_code" sIsCode ["value"]
  check_code : Tx K mg "check_code" sCheckCode ["code"]
  check_hue : Tx K mg "check_hue" sCheckHue ["code", "hue"]
  may_be : Tx K mg "may_be_strikes" sMayBe ["value"]
  wrong : Tx K mg "wrong_strike" sWrong ["code", "strikes"]
  check_strikes : Tx K mg "check_strikes" sCheckStrikes ["code", "strikes"]
  agreed_of : Tx K mg "agreed_of" sAgreedOf ["values", "need"]
  fetched : Tx K mg "fetched" sFetched ["works"]
  do_cell : Tx K mg "do_cell" sDoCell ["works", "at"]
  do_step : Tx K mg "do_step" sDoStep ["works"]
  do_coming : Tx K mg "do_coming" sDoComing ["works"]
  go_on : Tx K mg "go_on" sGoOn ["works", "steps"]
  is_place : Tx K mg "is_place" sIsPlace ["code", "hue", "place"]
  fits_place : Tx K mg "fits_place" sFitsPlace ["code", "hue", "place", "new"]
  do_strike : Tx K mg "do_strike" sDoStrike ["works", "hue", "place", "new"]
  state_of : Tx K mg "state_of" sStateOf ["works", "hue"]
  has_ins : Tx K mg "has_instruction" sHasIns ["code", "hue", "address"]
  is_strike : Tx K mg "is_strike" sIsStrike ["code", "value"]
  empty_slots : Tx K mg "empty_slots" sEmptySlots ["works"]
  point_all : Tx K mg "point_all" sPointAll ["works", "address"]
  settled : Tx K mg "settled" sSettled ["works", "width"]
  worth : Tx K mg "worth" sWorth ["word", "one", "other", "size"]
  do_word : Tx K mg "do_word" sDoWord ["works", "hue", "cell"]
  own_of : Tx K mg "own_of" sOwnOf ["works", "hue"]
  check_strike : Tx K mg "check_strike" sCheckStrike ["code", "hue", "place", "new"]
  left_of : Tx K mg "left_of" sLeftOf ["works"]
  moment_of : Tx K mg "moment_of" sMomentOf ["works"]
def gS (us ws : List Value) : List Value := match us, ws with
  | [a], [n, p, h] => [a, h, p, n]
  | _, _ => []
def gVS (us ws : List V) : List V := match us, ws with
  | [a], [n, p, h] => [a, h, p, n]
  | _, _ => []
theorem kbn_strike {K : PySem.W.Frag} {f : Addr} {fd : FuncData} (F : Fun K "strike" "Machine.strike" sMStrike f fd) : KBn K fd ["self", "hue", "place", "new"] 1 ["new", "place", "hue"] gS gVS := by
  obtain ⟨oc, od, kV, doc, pm, an, cdv, ct, osl, rfl, _, _⟩ := F.ex
  refine ⟨fun s us ws _ hu hw => ?_, fun r1 r2 => ?_⟩
  · match us, ws, hu, hw with
    | [u], [n, p, h], _, _ => exact .of_eq rfl
  · cases r1 with
    | nil => exact .nil
    | cons a t =>
      cases t with
      | cons _ _ => exact .nil
      | nil =>
        cases r2 with
        | nil => exact .nil
        | cons b t =>
          cases t with
          | nil => exact .nil
          | cons c t =>
            cases t with
            | nil => exact .nil
            | cons d t =>
              cases t with
              | nil => exact .cons a (.cons d (.cons c (.cons b .nil)))
              | cons _ _ => exact .nil
theorem ml_address (vc : V) (w : Addr) (ad : V) : (mfs vc w ad).lookup ("address" : Str) = some ad := by kernel_rfl
theorem dp_adV {K : PySem.W.Frag} {H : Hp} (M : Mac) : Dp K H (adV M) (addrD M.addr) := by
  unfold adV
  cases M.addr with
  | none => exact .non
  | some n => exact .int _
/-- a method that is called by keywords too -/
def StkT (K : PySem.W.Frag) (C : Addr) : Prop := ∃ (f : Addr) (fd : FuncData), Fun K "strike" "Machine.strike" sMStrike f fd ∧ Meth K C "strike" f
/-- an action: where it stands -/
def ActT (K : PySem.W.Frag) (x : Str) (st : Stmt) (ps : List Str) (f : Addr) : Prop := ∃ fd : FuncData, Fun K x x st f fd ∧ L2.Binds K fd ps []
theorem mops {P : Program} {w : World} {K : PySem.W.Frag} {mg : Str → Option Value} {base : Heap} {CB CW CM fB fW fI e aW aT aI aS aD aG fO fE fGe fPu fS fH fU fG fM fT : Addr} {eI eS eD eG : Array DictEntry} {nI nS nD nG : Nat} {fdB fdW fdI : FuncData}
    (T : Bt mg) (N : Gn mg) (G : GD K w mg aW aT aI aS eI nI eS nS) (A : GA K w mg aD aG eD nD eG nG fO fE fGe fPu fS fH fU fG fM fT) (X : Txs K mg)
    (ZB : BC K mg CB fB) (FB : Fun K "__init__" "Bounds.__init__" sBounds fB fdB) (bB : L2.Binds K fdB ["self", "hues", "size", "bank", "many"] [])
    (ZW : WC K mg CW fW) (FW : Fun K "__init__" "Works.__init__" sWorks fW fdW) (bW : L2.Binds K fdW ["self", "code", "inputs", "strikes"] [])
    (ZM : MC K CM) (gM : mg "Machine" = some (.ref CM)) (mkM : Mk K CM fI) (FI : FunD K "__init__" "Machine.__init__" (defArgs sMInit) (defBody sMInit) (defScope sMInit) [.ref e] [] fI fdI) (bI : L2.Binds K fdI ["self", "code", "inputs", "strikes"] [.ref e]) (bI4 : L2.Binds K fdI ["self", "code", "inputs", "strikes"] []) (hE : ∀ H, SqT K H e [])
    (aO : ActT K "do_offer" sDoOffer ["works", "hue", "cell"] fO) (aSe : ActT K "do_set" sDoSet ["works", "hue", "cell"] fE) (aSt : ActT K "do_stop" sDoStop ["works", "cell"] fS) (aSh : ActT K "do_show" sDoShow ["works", "cell"] fH) (aTu : ActT K "do_turn" sDoTurn ["works", "cell"] fU) (aGo : ActT K "do_goto" sDoGoto ["works", "cell"] fG) (aMa : ActT K "do_mark" sDoMark ["works", "cell"] fM) (aTk : ActT K "do_take" sDoTake ["works", "cell"] fT) (aGt : ActT K "do_get" sDoGet ["works", "hue", "cell"] fGe) (aPt : ActT K "do_put" sDoPut ["works", "hue", "cell"] fPu) (mStk : StkT K CM) (mMo : MethT K CM "moment" "Machine.moment" sMMoment ["self"]) (pLeft : PropT K CM "left" "Machine.left" sMLeft)
    (gP : IntG mg "GREATEST_POINTER" 9999) (pPtr : PropT K CM "pointers" "Machine.pointers" sMPointers)
    (mGo : MethT K CM "go" "Machine.go" sMGo ["self", "steps"]) (mLook : MethT K CM "_look" "Machine._look" sMLook ["self"]) (mReg : MethT K CM "registers" "Machine.registers" sMRegisters ["self", "hue"]) (mCel : MethT K CM "cells" "Machine.cells" sMCells ["self", "hue"]) (mOwn : MethT K CM "own" "Machine.own" sMOwn ["self", "hue", "address"])
    (pRow : PropT K CM "row" "Machine.row" sMRow) (pSteps : PropT K CM "steps" "Machine.steps" sMSteps) (pState : PropT K CM "state" "Machine.state" sMState) (pSlots : PropT K CM "slots" "Machine.slots" sMSlots) :
    MOps P w K mg base 30 CM (RepM K CM CW) := by
  have dW : Df P w K mg base 2 "is_within" ["value", "low", "high"] spWithin := df_within X.is_from X.is_within T
  have dCI : Df P w K mg base 3 "check_inputs" ["inputs"] (spChkInputs K) := X.check_inputs.df fun f fd F => ok_chkInputs F N T dW
  have dCS : Df P w K mg base 3 "check_steps" ["steps"] spChkSteps := X.check_steps.df fun f fd F => ok_chkSteps F N dW
  have dBo : Df P w K mg base 3 "bounds_of" ["code"] (spBoundsOf K CB) := X.bounds_of.df fun f fd F => ok_boundsOf F T ZB FB bB
  have dFk : Df P w K mg base 3 "fits_kind" ["bounds", "kind", "item"] (spKind CB) := X.fits_kind.df fun f fd F => ok_kind F N ZB dW
  have dFi : Df P w K mg base 4 "fit_items" ["bounds", "kinds", "items"] (spItems K CB) := X.fit_items.df fun f fd F => ok_items F T dFk
  have dFn : Df P w K mg base 5 "fits_instruction" ["bounds", "hue", "value"] (spFitsIns K CB aI) := X.fits_instruction.df fun f fd F => ok_fitsIns F T ZB G dW dFi
  have dFc : Df P w K mg base 6 "fits_cell" ["bounds", "value"] (spFitsCell K CB aS aI) := X.fits_cell.df fun f fd F => ok_fitsCell F T ZB G dW dFi dFn
  have dIv : Df P w K mg base 3 "is_votes" ["value"] (spIsVotes K) := X.is_votes.df fun f fd F => ok_isVotes F T N dW
  have dIb : Df P w K mg base 3 "is_bank" ["value", "size"] (spIsBank K) := X.is_bank.df fun f fd F => ok_isBank F T N dW
  have dIc : Df P w K mg base 7 "is_code" ["value"] (spIsCode K) := X.is_code.df fun f fd F => ok_isCode (f0 := fB) F T N G dW dIv dIb dBo dFc
  have dCc : Df P w K mg base 8 "check_code" ["code"] (spChkCode K) := X.check_code.df fun f fd F => ok_chkCode F dIc
  have dCh : Df P w K mg base 3 "check_hue" ["code", "hue"] (spChkHue K) := X.check_hue.df fun f fd F => ok_chkHue F T dW
  have dHi : Df P w K mg base 3 "has_instruction" ["code", "hue", "address"] (spHasIns K) := X.has_ins.df fun f fd F => ok_hasIns F T dW
  have dIp : Df P w K mg base 4 "is_place" ["code", "hue", "place"] (spIsPlace K) := X.is_place.df fun f fd F => ok_isPlace F T N dW dHi
  have dFp : Df P w K mg base 6 "fits_place" ["code", "hue", "place", "new"] (spFitsPlace K) := X.fits_place.df fun f fd F => ok_fitsPlace (fB := fB) F gP G dW dBo dFn
  have dIk : Df P w K mg base 7 "is_strike" ["code", "value"] (spIsStrike K) := X.is_strike.df fun f fd F => ok_isStrike F T N dW dIp dFp
  have dMb : Df P w K mg base 1 "may_be_strikes" ["value"] (spMayBe K) := X.may_be.df fun f fd F => ok_mayBe F T N
  have dWr : Df P w K mg base 8 "wrong_strike" ["code", "strikes"] (spWrong K) := X.wrong.df fun f fd F => ok_wrong F T dIk
  have dCk : Df P w K mg base 9 "check_strikes" ["code", "strikes"] (spWrong K) := X.check_strikes.df fun f fd F => ok_chkStk F T dMb dWr
  have dAg : Df P w K mg base 1 "agreed_of" ["values", "need"] (spAgrOf K) := X.agreed_of.df fun f fd F => ok_agrOf F
  have dFe : Df P w K mg base 2 "fetched" ["works"] (spFetched K CW) := X.fetched.df fun f fd F => ok_fetched F ZW T dAg
  have dIs : Df P w K mg base 1 "is_settle_cell" ["cell"] (spIsSettle K) := X.is_settle_cell.df fun f fd F => ok_isSettle F T
  have dEm : Df P w K mg base 1 "empty_slots" ["works"] (spEmpty K CW) := X.empty_slots.df fun f fd F => ok_empty F ZW T
  have dPo : Df P w K mg base 1 "point_all" ["works", "address"] (spPoint K CW) := X.point_all.df fun f fd F => ok_point F ZW T
  have dSe : Df P w K mg base 2 "settled" ["works", "width"] (spSettled K CW) := X.settled.df fun f fd F => ok_settled F ZW T dAg dEm
  have dSo : Df P w K mg base 1 "state_of" ["works", "hue"] (spStateOf K CW) := X.state_of.df fun f fd F => ok_stateOf F ZW
  have dDk : Df P w K mg base 1 "do_strike" ["works", "hue", "place", "new"] (spDoStrike K CW) := X.do_strike.df fun f fd F => ok_doStrike F ZW
  have dWo : Df P w K mg base 1 "worth" ["word", "one", "other", "size"] spWorth := X.worth.df fun f fd F => ok_worth F T
  have dDw : Df P w K mg base 2 "do_word" ["works", "hue", "cell"] (spDoWord K CW) := X.do_word.df fun f fd F => ok_doWord F ZW dWo
  have dOo : Df P w K mg base 1 "own_of" ["works", "hue"] (spOwnOf K CW) := X.own_of.df fun f fd F => ok_ownOf F ZW
  have dLo : Df P w K mg base 1 "left_of" ["works"] (spLeftOf K CW) := X.left_of.df fun f fd F => ok_leftOf F ZW
  have dMo : Df P w K mg base 2 "moment_of" ["works"] (spMomentOf K CW) := X.moment_of.df fun f fd F => ok_momentOf F T ZW dSo dOo dLo
  have dCx : Df P w K mg base 7 "check_strike" ["code", "hue", "place", "new"] (spChkStrike K) := X.check_strike.df fun f fd F => ok_chkStrike F (dCh.mono (by decide)) (dIp.mono (by decide)) dFp
  obtain ⟨fdT, FT, bT⟩ := aTk
  obtain ⟨fdGe, FGe, bGe⟩ := aGt
  obtain ⟨fdPu, FPu, bPu⟩ := aPt
  obtain ⟨fdO, FO, bO⟩ := aO
  obtain ⟨fdE, FE, bE⟩ := aSe
  obtain ⟨fdS, FS, bS⟩ := aSt
  obtain ⟨fdH, FH, bH⟩ := aSh
  obtain ⟨fdU, FU, bU⟩ := aTu
  obtain ⟨fdG, FG, bG⟩ := aGo
  obtain ⟨fdA, FA, bA⟩ := aMa
  have A1 : ∀ f sp, selG K CW fS fH fU fG fM fT f = some sp → Held P w K mg base 3 f sp := fun f sp h => by
    unfold selG at h
    split at h
    · rename_i ef
      cases h
      subst ef
      exact ⟨fdS, _, (ok_doStop FS ZW).mono (by decide), FS.kp, bS⟩
    · split at h
      · rename_i ef
        cases h
        subst ef
        exact ⟨fdH, _, ok_doShow FH ZW dSe, FH.kp, bH⟩
      · split at h
        · rename_i ef
          cases h
          subst ef
          exact ⟨fdU, _, ok_doTurn FU ZW dSe (dPo.mono (by decide)), FU.kp, bU⟩
        · split at h
          · rename_i ef
            cases h
            subst ef
            exact ⟨fdG, _, ok_doGoto FG ZW (dPo.mono (by decide)), FG.kp, bG⟩
          · split at h
            · rename_i ef
              cases h
              subst ef
              exact ⟨fdA, _, ok_doMark FA ZW T (dAg.mono (by decide)) (dEm.mono (by decide)) (dSo.mono (by decide)), FA.kp, bA⟩
            · split at h
              · rename_i ef
                cases h
                subst ef
                exact ⟨fdT, _, (ok_doTake FT ZW T).mono (by decide), FT.kp, bT⟩
              · cases h
  have A2 : ∀ f sp, selD K CW fO fE fGe fPu f = some sp → Held P w K mg base 3 f sp := fun f sp h => by
    unfold selD at h
    split at h
    · rename_i ef
      cases h
      subst ef
      exact ⟨fdO, _, (ok_doOffer FO ZW).mono (by decide), FO.kp, bO⟩
    · split at h
      · rename_i ef
        cases h
        subst ef
        exact ⟨fdE, _, (ok_doSet FE ZW).mono (by decide), FE.kp, bE⟩
      · split at h
        · rename_i ef
          cases h
          subst ef
          exact ⟨fdGe, _, (ok_doGet FGe ZW).mono (by decide), FGe.kp, bGe⟩
        · split at h
          · rename_i ef
            cases h
            subst ef
            exact ⟨fdPu, _, (ok_doPut FPu ZW).mono (by decide), FPu.kp, bPu⟩
          · cases h
  have dDc : Df P w K mg base 4 "do_cell" ["works", "at"] (spDoCell K CW) := X.do_cell.df fun f fd F => ok_doCell F ZW T G A A1 A2 (dIs.mono (by decide)) (dDw.mono (by decide))
  have dDs : Df P w K mg base 5 "do_step" ["works"] (spDoStep K CW) := X.do_step.df fun f fd F => ok_doStep F ZW (dFe.mono (by decide)) dDc
  have dCo : Df P w K mg base 5 "do_coming" ["works"] (spComing K CW) := X.do_coming.df fun f fd F => ok_coming F ZW T (dDk.mono (by decide))
  have dGo : Df P w K mg base 6 "go_on" ["works", "steps"] (spGoOn K CW) := X.go_on.df fun f fd F => ok_goOn F ZW T dCo dDs
  obtain ⟨fL, fdL, FL, meL, bL⟩ := mLook
  have GL : FnOk P w K mg base CX0 3 fL fdL ["self"] (spLook K CM CW) := ok_look FL ZM ZW dFe
  obtain ⟨fg, fdg, Fg, meg, bg⟩ := mGo
  obtain ⟨fr, fdr, Fr, mer, br⟩ := mReg
  obtain ⟨fc, fdc, Fc, mec, bc⟩ := mCel
  obtain ⟨fo, fdo, Fo, meo, bo⟩ := mOwn
  obtain ⟨fk, fdk, Fk, mek⟩ := mStk
  obtain ⟨fm, fdm, Fm, mem, bm⟩ := mMo
  obtain ⟨p4, f4, fd4, F4, q4, b4⟩ := pLeft
  obtain ⟨p1, f1, fd1, F1, q1, b1⟩ := pRow
  obtain ⟨p2, f2, fd2, F2, q2, b2⟩ := pSteps
  obtain ⟨p3, f3, fd3, F3, q3, b3⟩ := pState
  obtain ⟨p5, f5, fd5, F5, q5, b5⟩ := pSlots
  obtain ⟨p6, f6, fd6, F6, q6, b6⟩ := pPtr
  have GI : FnOk P w K mg base CX0 30 fI fdI ["self", "code", "inputs", "strikes"] (spMInit K CM (RepM K CM CW)) := (ok_minit FI T N ZM ZW FW bW dCc dCI dCk).mono (by decide)
  exact {
    cls := ZM.cls
    gC := gM
    ins := by
      rintro H a M F ⟨dx, x, v, D, vc, c, A0, rfl⟩
      exact ⟨dx, _, A0.ins, .inl rfl, ml_go _ _ _, ml_strike _ _ _, ml_registers _ _ _, ml_cells _ _ _, ml_moment _ _ _, ml_own _ _ _, adV M, ml_address _ _ _, dp_adV M⟩
    frame := by
      rintro H H' a M F ⟨dx, x, v, D, vc, c, A0, rfl⟩ k
      exact ⟨dx, x, v, D, vc, c, A0.frame k, rfl⟩
    live := by
      rintro H a M F ⟨dx, x, v, D, vc, c, A0, rfl⟩ b hb
      rcases hb with rfl | rfl | hb
      · exact ⟨_, A0.ins⟩
      · exact ⟨_, A0.own⟩
      · exact A0.wl.live hb
    init := ⟨fI, fdI, .none, e, GI, mkM, bI, hE⟩
    init4 := ⟨fI, fdI, GI, mkM, bI4⟩
    go := ⟨fg, fdg, (ok_mgo Fg ZM (dCS.mono (by decide)) dGo GL meL bL).mono (by decide), meg, bg⟩
    registers := ⟨fr, fdr, (ok_mreg Fr T ZM ZW dCh).mono (by decide), mer, br⟩
    cells := ⟨fc, fdc, (ok_mcel Fc T ZM ZW dCh).mono (by decide), mec, bc⟩
    row := ⟨p1, f1, fd1, (ok_mrow F1 T ZM ZW).mono (by decide), q1, b1⟩
    steps := ⟨p2, f2, fd2, (ok_msteps F2 ZM ZW).mono (by decide), q2, b2⟩
    state := ⟨p3, f3, fd3, (ok_mstate F3 ZM ZW).mono (by decide), q3, b3⟩
    pointers := ⟨p6, f6, fd6, (ok_mpointers F6 T ZM ZW).mono (by decide), q6, b6⟩
    slots := ⟨p5, f5, fd5, (ok_mslots F5 T ZM ZW).mono (by decide), q5, b5⟩
    nAd := ZM.n_address
    strike := ⟨fk, fdk, gS, gVS, (ok_mstrike Fk ZM dCx (dDk.mono (by decide)) GL meL bL).mono (by decide), mek, kbn_strike Fk, fun _ _ _ _ => rfl⟩
    left := ⟨p4, f4, fd4, (ok_mleft F4 ZM dLo).mono (by decide), q4, b4⟩
    own := ⟨fo, fdo, (ok_mown Fo ZM ZW dCh dHi).mono (by decide), meo, bo⟩
    moment := ⟨fm, fdm, (ok_moment Fm ZM dMo).mono (by decide), mem, bm⟩ }
end Hue
namespace Hue
open L2 PySem.Spec PySem PyProof.Rows
theorem count_filter (ns : List Int) (z : Int) : (ns.filter fun y => decide (y = z)).length = ns.count z := by
  rw [List.count_eq_countP, List.countP_eq_length_filter]
  rfl
def spAgreed (K : PySem.W.Frag) : Sp := fun vs H Q _ => ∃ (a : Addr) (ns : List Int) (need : Nat), vs = [.ref a, .int (need : Int)] ∧ SqL K H a (ns.map V.int) ∧ ns.length ≤ 100 ∧
  ∀ (p : Addr) (H' : Hp), Same H H' → H p = none → H' p = some (.lst ((agreed ns need).toList.map V.int)) → Q (.ref p) H'
section
variable {P : Program} {w : World} {K : PySem.W.Frag} {mg : Str → Option Value} {base : Heap}
theorem scAgreed : FnScope ["values", "need", "found", "value", "other"] ["values", "need"] (defScope sAgreed) := ⟨rfl, rfl, rfl, by decide +kernel, rfl, by decide +kernel, by decide +kernel⟩
theorem df_agreed (X : Tx K mg "_law_mk_agreed" sAgreed ["values", "need"]) (T : Bt mg) : Df P w K mg base 1 "_law_mk_agreed" ["values", "need"] (spAgreed K) := by
  refine X.df fun f fd F => F.ok scAgreed (fun vs H Q E h => ?_) (fun cdv A outer s H vs Q E hr h => ?_)
  · obtain ⟨a, ns, need, rfl, _⟩ := h
    rfl
  · obtain ⟨a, ns, need, rfl, hS, hl, q⟩ := h
    have nd := scAgreed.nd
    refine ⟨_, pss_cons (ps_setLc (i := 2) (own := [("value", 3)]) (g := gName 3) (by rfl) nd rfl rfl (sw_true rfl rfl rfl (by decide +kernel)) (pi_list (pv 0)) (blkOk_by (own := [("value", 3)]) (N := ["values", "need", "found", "value", "other"]) (sc := defScope sAgreed) (by decide +kernel)) (fun _ _ _ _ _ => pg_name (i := 3) nd rfl (Or.inr rfl))
          (fun _ _ _ _ _ => pts_one (pt_cmpR op_ge (pe_callB (r := rLenK K) (by exact call_lenK) (by rfl) T.len PySem.boot_len (pa_cons (pe_lc (own := [("other", 4)]) (g := gName 4) (wi := iList K (tVar 0)) (by rfl) nd (by exact pi_list (pv 0)) (blkOk_by (own := [("other", 4)]) (N := ["values", "need", "found", "value", "other"]) (by rfl)) (fun _ _ _ _ _ => pg_name (i := 4) nd rfl (Or.inl rfl))
              (fun _ _ _ _ _ => pts_one (pt_cmpR op_eq (pv 4) (pv 3) (nomark _)))
              (fun _ _ _ _ _ => pv 4)) pa_nil)) (pv 1) (nomark _)))
          (fun _ _ _ _ _ => pv 3))
      (pss_one (ps_ret (pe_slice sl_list (pv 2) po_none (po_some pe_int)))), ?_⟩
    refine ⟨_, rfl, a, rfl, ⟨_, hS⟩, fun D hD => ?_⟩
    refine lc_list (K := K) (a := a) (xs := ns.map V.int) (fun i H' => H' D = some (.lst (((ns.take i).filter fun x => decide (need ≤ ns.count x)).map V.int)) ∧ Same H H') ⟨upd_same, same_new hD⟩ (fun i H' _ h => h.2.seq hS) (fun i x H' hx h => ?_) (fun H' h => ?_)
    · obtain ⟨hD', sm⟩ := h
      rw [List.getElem?_map] at hx
      obtain ⟨z, hz, ez⟩ := Option.map_eq_some_iff.mp hx
      subst ez
      have hi : i < ns.length := (List.getElem?_eq_some_iff.mp hz).1
      refine ⟨rfl, _, rfl, a, rfl, ⟨_, sm.seq hS⟩, fun D2 hD2 => ?_⟩
      have n2 : D ≠ D2 := ne_of_none hD' hD2
      refine lc_list (K := K) (a := a) (xs := ns.map V.int) (fun j H2 => H2 D2 = some (.lst (((ns.take j).filter fun y => decide (y = z)).map V.int)) ∧ (∀ b o, b ≠ D2 → H' b = some o → H2 b = some o)) ⟨upd_same, fun b o n e => by rw [upd_ne n]; exact e⟩ (fun j H2 _ h => ?_) (fun j y H2 hy h => ?_) (fun H2 h => ?_)
      · exact (show Same H H2 from fun b o e => h.2 b o (ne_of_none (sm _ _ e) hD2) (sm _ _ e)).seq hS
      · obtain ⟨hD3, k⟩ := h
        rw [List.getElem?_map] at hy
        obtain ⟨u, hu, eu⟩ := Option.map_eq_some_iff.mp hy
        subst eu
        have hj : j < ns.length := (List.getElem?_eq_some_iff.mp hu).1
        have hlen : (((ns.take j).filter fun y => decide (y = z)).map V.int).length < sizeLine := by
          rw [List.length_map]
          have h1 := List.length_filter_le (fun y => decide (y = z)) (ns.take j)
          rw [List.length_take] at h1
          exact small1000 (by omega)
        refine ⟨rfl, _, rfl, _, rfl, rfl, _, rfl, ite2 (fun e => ?_) (fun e => ?_)⟩
        · have e' : u = z := V.int.inj (of_decide_eq_true e)
          refine ⟨_, rfl, _, hD3, hlen, ?_, fun b o n e2 => by rw [upd_ne n]; exact k b o n e2⟩
          rw [upd_same, filter_take _ hu, if_pos (decide_eq_true e'), List.map_append]
          rfl
        · have e' : ¬ u = z := fun w => e (decide_eq_true (congrArg V.int w))
          refine ⟨?_, k⟩
          rw [filter_take _ hu, if_neg (by rw [decide_eq_false e']; exact Bool.false_ne_true), List.append_nil]
          exact hD3
      · obtain ⟨hD3, k⟩ := h
        rw [List.length_map, List.take_length] at hD3
        have hD4 := k D _ n2 hD'
        have sm2 : Same H H2 := fun b o e => k b o (ne_of_none (sm _ _ e) hD2) (sm _ _ e)
        have hl1 : (((ns.take i).filter fun x => decide (need ≤ ns.count x)).map V.int).length < sizeLine := by
          rw [List.length_map]
          have h1 := List.length_filter_le (fun x => decide (need ≤ ns.count x)) (ns.take i)
          rw [List.length_take] at h1
          exact small1000 (by omega)
        refine ⟨_, _, rfl, .inl (.inl (.inl hD3)), _, rfl, _, _, rfl, rfl, _, rfl, ?_⟩
        rw [List.length_map, count_filter]
        refine ite2 (fun e => ?_) (fun e => ?_)
        · have e' : need ≤ ns.count z := by
            have := of_decide_eq_true e
            omega
          refine ⟨_, rfl, _, hD4, hl1, ?_, fun b o e2 => ?_⟩
          · rw [upd_same, filter_take _ hz, if_pos (decide_eq_true e'), List.map_append]
            rfl
          · rw [upd_ne (ne_of_none e2 hD)]
            exact sm2 _ _ e2
        · have e' : ¬ need ≤ ns.count z := fun w => e (decide_eq_true (by omega))
          refine ⟨?_, sm2⟩
          rw [filter_take _ hz, if_neg (by rw [decide_eq_false e']; exact Bool.false_ne_true), List.append_nil]
          exact hD4
    · obtain ⟨hD', sm⟩ := h
      rw [List.length_map, List.take_length] at hD'
      refine ⟨_, rfl, _, rfl, D, _, rfl, .inl (.inl hD'), fun p hp => ?_⟩
      refine q p _ (sm.trans (same_new hp)) (sm.free hp) ?_
      rw [upd_same, cut_to1, ← List.map_take, take1_filter]
      rfl
end
end Hue
namespace Hue
open L2 PySem.Spec PySem PyProof.Rows
theorem tuple_mul1 (l : Addr) (items : Array Value) (n : Nat) (dd : Option Addr) (sl : Array (Option Value)) (u : Tok) : Meets (Builtin.«tuple.__mul__» ⟨[.ref l, .int 1 u], []⟩) (fun _ R s => s.heap.get? l = some { cls := .type "tuple", dict := dd, data := .seq items n, slots := sl } ∧ R (.ok (.ret (Value.ref l))) s) :=
  .of_wp fun prog w A R s h => by
    obtain ⟨hp, g, d, tk, os⟩ := s
    obtain ⟨ho, h⟩ := h
    have f1 := AutoSeq1.idx_int
    wp_walk using wpAny_loadPart' ho
    exact ⟨_, rfl, h⟩
/-- tuple * k for every k from 1 on -/
def rRepA (K : PySem.W.Frag) : R2 := fun x y H Q => ∃ l k xs, x = .ref l ∧ y = .int k ∧ SqT K H l xs ∧ xs ≠ [] ∧ 1 ≤ k ∧ k ≤ 1000 ∧ xs.length ≤ 1000 ∧ ∀ p H', Same H H' → SqT K H' p (List.replicate k.toNat xs).flatten → Q (.ref p) H'
theorem op_repA {X : Cx} : OpR X (binaryOp .Mult) (rRepA X.K) := by
  intro pins s σ H x y v u Q I rx ry h
  obtain ⟨l, k, xs, rfl, rfl, hT, hne, h1, h2, hz, q⟩ := h
  by_cases hk : 2 ≤ k
  · exact op_repT pins s σ H _ _ v u Q I rx ry ⟨l, k, xs, rfl, rfl, hT, hne, hk, h2, hz, fun p hp => q p _ (same_new hp) (.inl (.inl upd_same))⟩
  · obtain rfl : k = 1 := by omega
    cases rx
    obtain ⟨t, rfl⟩ := ry
    obtain ⟨its, r, ⟨⟨cls, dd, data, sl⟩, ho, hc, n, hd⟩, hs⟩ := I.tuple hT
    simp only at hc hd
    subst hc hd
    have step1 := tuple_mul1 l its.toArray n dd sl t
    have step2 := int_rmul_tuple 1 t l its.toArray n dd sl
    refine wpAny_binaryOp_repeat_ref (T := "tuple") (U := "int") (by decide) ⟨_, ho, rfl⟩ (fun s' => typeIs_int s' 1 t) noFill_tuple_mul F.fills_int_mul F.slot_int_rmul repeat_tuple F.slot_int_index.lookup ?_
    refine call_meets F.slot_int_rmul (typeIs_int s 1 t) F.entry_int_rmul (F.args_int_rmul_2 _ _) step2 ⟨ho, ?_⟩
    refine ⟨rfl, ⟨_, ho, rfl⟩, ?_⟩
    refine call_meets F.slot_tuple_mul ⟨_, ho, rfl⟩ F.entry_tuple_mul (F.args_tuple_mul_2 _ _) step1 ⟨ho, ?_⟩
    refine ⟨.ref l, H, I, rfl, q l H (Same.refl H) ?_⟩
    show SqT X.K H l ([xs] : List (List V)).flatten
    rw [List.flatten_cons, List.flatten_nil, List.append_nil]
    exact hT
/-- repr of an int, of None -/
def rRep (xs : List V) (H : Hp) (Q : VK) : Prop := (∃ i, xs = [.int i] ∧ i.natAbs.log2 < 1920 ∧ Q (.str (toString i)) H) ∨ (xs = [.non] ∧ Q (.str "None") H)
theorem call_repr_o {X : Cx} : CallR X (.builtin "repr") rRep := by
  intro pins s σ H xs us Q I r h
  rcases h with ⟨i, e, hz, q⟩ | ⟨e, q⟩
  · exact SkE.call_repr_int pins s σ H xs us Q I r ⟨i, e, hz, q⟩
  · subst e
    obtain ⟨u, rfl, ru⟩ := vals1 r
    cases (show u = Value.none from ru)
    exact PySem.P.repr_of_none ⟨.str _, H, I.tok _, ⟨_, rfl⟩, q⟩
/-- o.m(k = v, ..): keywords alone -/
def tMethKw (C : Addr) (m : Str) (n : Nat) (sp : Sp) (gV : List V → List V → List V) (E : XK) (ta : TE) (tk : TA) : TE := fun σ H Q => ta σ H fun x H1 => ∃ a dx fs, x = .ref a ∧ H1 a = some (.ins C dx fs) ∧ fs.lookup m = none ∧ tk σ H1 fun zs H2 => zs.length = n ∧ sp (gV [x] zs) H2 Q E
theorem pe_methKw {X : Cx} {CX : CXT} {k : Nat} {f C : Addr} {fd : FuncData} {ps ks : List Str} {sp : Sp} {E : XK} {m : Str} {o : Expr} {apos pos : Pos} {kws : List Keyword} {ta : TE} {tk : TA} {g : List Value → List Value → List Value} {gV : List V → List V → List V} {pl : Sem Bool}
    (ho : PE X o ta) (c : Cls X.K C) (hm : Meth X.K C m f) (F : FnOk X.prog X.w X.K X.mg X.base CX k f fd ps sp) (hr : Room k X.A) (hb : KBn X.K fd ps 1 ks g gV) (hx : Passes CX X E) (hkw : PK X kws tk)
    (hall : (backToKw pos (keywordEach kws X.env)).all (·.1.isSome) = true := by rfl) (hks : (backToKw pos (keywordEach kws X.env)).filterMap (·.1) = ks := by rfl)
    (hpl : ((backTo pos (starEach [] X.env)).any (·.1) || (backToKw pos (keywordEach kws X.env)).any (·.1.isNone)) = false := by rfl)
    (ht : eval (.Call (.Attribute o m apos) [] kws pos) X.env = (do let ov ← eval o X.env; standAt apos.atName; let (f, first) ← holding [ov] (getMethod ov m pl); callWith pos f first (backTo pos (starEach [] X.env)) (backToKw pos (keywordEach kws X.env))) := by rfl) :
    PE X (.Call (.Attribute o m apos) [] kws pos) (tMethKw C m ks.length sp gV E ta tk) := by
  constructor
  intro pins s σ H Q I h
  refine PySem.W.methodCall_KW (pl := pl) (thn (ho.run pins s σ H _ I h) fun u s1 hh => ?_) ht
  obtain ⟨x, H1, I1, rx, a, dx, fs, ex, ea, l, q⟩ := hh
  subst ex
  obtain rfl : u = Value.ref a := rx
  refine getmeth_ok I1 ea c hm l (PySem.W.callWith_KW0 (first := [.ref a]) (h₀ := X.base) I.ok.mod.kin hm.kp hall ?_ hpl)
  refine thn (hkw.run pos pins s1 σ H1 _ I1 q) fun ws s2 hh => ?_
  obtain ⟨zs, H2, I2, rz, l2, q2⟩ := hh
  refine ⟨I2.kIn, ?_⟩
  rw [hks]
  exact run_fnN (us := [.ref a]) (vs := [.ref a]) F hr hb hx I2 (.cons rfl .nil) rz rfl l2 q2
end Hue
namespace Hue
/-! ### sets at the beginning, struck pointers, one step more -/
structure S13 (c : Code) (M : Mac) (p : Nat) (left : List Int) : Prop where
  at_ : At M p
  code : M.code = c
  row : M.row = []
  left : M.left = left
  steps : M.steps = p
  hue : ∀ i u, M.hues[i]? = some u → u.regs.length = 8 ∧ u.own = c.own i
theorem S13.set {c : Code} {M : Mac} {p i b : Nat} {n : Int} {left : List Int} (S : S13 c M p left) (hz : c.cells[p]? = some (.ins i (.set b n))) (hi : i < c.h) : S13 c M.step (p + 1) left := by
  have hz' : M.code.cells[p]? = some (.ins i (.set b n)) := by rw [S.code]; exact hz
  have hil : i < M.hues.length := by rw [S.at_.len, S.code]; exact hi
  have hu := S.hue i M.hues[i] (List.getElem?_eq_getElem hil)
  have ek : M.ownAt p i = some (.set b n) := by
    unfold Mac.ownAt
    rw [List.getElem?_eq_getElem hil]
    show M.hues[i].own.getD p none = _
    rw [hu.2]
    exact own_get hz
  have es : M.step = (M.doIns p i (.set b n)).tick := by
    rw [S.at_.step hz']
    show (match M.ownAt p i with | some k => M.doIns p i k | none => M.allPtr ((p : Int) + 1)).tick = _
    rw [ek]
  rw [es]
  refine ⟨⟨S.at_.run, S.at_.wait, ?_, ?_, S.at_.votes⟩, S.code, S.row, S.left, ?_, ?_⟩
  · show (upHue _ _ _).length = _
    rw [upHue_len, List.length_map]
    exact S.at_.len
  · intro u hu
    obtain ⟨j, hj⟩ := List.mem_iff_getElem?.mp hu
    obtain ⟨v, hv, e⟩ := upHue_get hj
    rw [List.getElem?_map] at hv
    obtain ⟨v0, hv0, ev⟩ := Option.map_eq_some_iff.mp hv
    subst ev
    rw [e]
    split
    · show (p : Int) + 1 = ((p + 1 : Nat) : Int)
      omega
    · show (p : Int) + 1 = ((p + 1 : Nat) : Int)
      omega
  · show M.steps + 1 = p + 1
    rw [S.steps]
  · intro j u hj
    obtain ⟨v, hv, e⟩ := upHue_get hj
    rw [List.getElem?_map] at hv
    obtain ⟨v0, hv0, ev⟩ := Option.map_eq_some_iff.mp hv
    subst ev
    have q := S.hue j v0 hv0
    rw [e]
    split
    · exact ⟨by show (v0.regs.set b n).length = 8; rw [List.length_set]; exact q.1, q.2⟩
    · exact q
theorem S13.sets {c : Code} : ∀ (n : Nat) {M : Mac} {p : Nat} {left : List Int}, S13 c M p left → (∀ k, k < n → ∃ i b z, c.cells[p + k]? = some (.ins i (.set b z)) ∧ i < c.h) → S13 c (M.go n) (p + n) left
  | 0, M, p, left, S, _ => S
  | n + 1, M, p, left, S, h => by
    obtain ⟨i, b, z, hz, hi⟩ := h 0 (by omega)
    have S1 := S.set (b := b) hz hi
    have q := S13.sets n S1 fun k hk => by
      have z := h (k + 1) (by omega)
      rw [show p + 1 + k = p + (k + 1) by omega]
      exact z
    rw [show p + (n + 1) = p + 1 + n by omega]
    exact q
theorem S13.begun {c : Code} (hv : votesOk c.votes) (ins : List Int) : S13 c (c.begun ins []) 0 ins := by
  have S := S14.begun (c := c) hv ins
  exact ⟨S.at_, rfl, rfl, rfl, rfl, fun i u h => by
    obtain ⟨h1, _, h3⟩ := S.hue i u h
    exact ⟨by rw [h1]; exact List.length_replicate, h3⟩⟩
/-- the first k pointers are struck, M0 is what was before -/
structure P13 (c : Code) (M0 M : Mac) (ps : List Int) (k : Nat) : Prop where
  code : M.code = c
  st : M.st = .running
  wait : M.wait = []
  row : M.row = []
  left : M.left = M0.left
  steps : M.steps = M0.steps
  len : M.hues.length = M0.hues.length
  hue : ∀ i u u0, M.hues[i]? = some u → M0.hues[i]? = some u0 → u.regs = u0.regs ∧ u.own = u0.own ∧ (i < k → some u.ptr = ps[i]?)
theorem P13.begun {c : Code} {M : Mac} {p : Nat} {left : List Int} (S : S13 c M p left) (ps : List Int) : P13 c M M ps 0 :=
  ⟨S.code, S.at_.run, S.at_.wait, S.row, rfl, rfl, rfl, fun i u u0 h h0 => by
    rw [h] at h0
    cases h0
    exact ⟨rfl, rfl, fun z => absurd z (Nat.not_lt_zero _)⟩⟩
theorem P13.strike {c : Code} {M0 M : Mac} {ps : List Int} {k : Nat} {n : Int} (T : P13 c M0 M ps k) (h : ps[k]? = some n) : P13 c M0 (M.strike k .ptr (.num n)) ps (k + 1) := by
  refine ⟨T.code, T.st, T.wait, T.row, T.left, T.steps, ?_, fun i u u0 hu h0 => ?_⟩
  · show (upHue _ _ _).length = _
    rw [upHue_len]
    exact T.len
  · obtain ⟨v, hv, e⟩ := upHue_get hu
    obtain ⟨q1, q2, q3⟩ := T.hue i v u0 hv h0
    rw [e]
    by_cases z : k = i
    · subst z
      rw [if_pos rfl]
      exact ⟨q1, q2, fun _ => h.symm⟩
    · rw [if_neg z]
      exact ⟨q1, q2, fun hi => q3 (by omega)⟩
theorem P13.ptrs {c : Code} {M0 M : Mac} {ps : List Int} (T : P13 c M0 M ps ps.length) (hl : M0.hues.length = ps.length) : (M.hues.map fun u => u.ptr) = ps := by
  refine List.ext_getElem? fun i => ?_
  rw [List.getElem?_map]
  cases hu : M.hues[i]? with
  | none =>
    have : M.hues.length ≤ i := List.getElem?_eq_none_iff.mp hu
    rw [List.getElem?_eq_none (by rw [T.len] at this; omega)]
    rfl
  | some u =>
    have hi : i < M.hues.length := (List.getElem?_eq_some_iff.mp hu).1
    have hi0 : i < M0.hues.length := by rw [← T.len]; exact hi
    exact (T.hue i u _ hu (List.getElem?_eq_getElem hi0)).2.2 (by omega)
theorem P13.at_ {c : Code} {M0 M : Mac} {ps : List Int} (T : P13 c M0 M ps ps.length) (hl : M0.hues.length = ps.length) : M.at_ = ((agreed ps (c.need c.h)).toList.filter fun p => decide (0 ≤ p ∧ p < (c.cells.length : Int))).head?.map Int.toNat := by
  unfold Mac.at_
  rw [T.ptrs hl, T.code]
  cases agreed ps (c.need c.h) with
  | none => rfl
  | some p =>
    show (if 0 ≤ p ∧ p < (c.cells.length : Int) then some p.toNat else none) = (([p].filter fun p => decide (0 ≤ p ∧ p < (c.cells.length : Int))).head?.map Int.toNat)
    rw [List.filter_cons]
    by_cases h : 0 ≤ p ∧ p < (c.cells.length : Int)
    · rw [if_pos h, if_pos (decide_eq_true h)]
      rfl
    · rw [if_neg h, if_neg (by rw [decide_eq_false h]; exact Bool.false_ne_true)]
      rfl
theorem P13.addr {c : Code} {M0 M : Mac} {ps : List Int} {k : Nat} (T : P13 c M0 M ps k) : M.addr = M.at_ := by
  unfold Mac.addr
  rw [if_pos T.st]
theorem P13.no {c : Code} {M0 M : Mac} {ps : List Int} {k : Nat} (T : P13 c M0 M ps k) (h : M.at_ = none) : M.step = M.caught.tick := by
  unfold Mac.step
  rw [if_pos T.st, due_nil T.wait]
  unfold Mac.exec
  rw [h]
theorem P13.yes {c : Code} {M0 M : Mac} {ps : List Int} {k p i b : Nat} {n : Int} (T : P13 c M0 M ps k) (h : M.at_ = some p) (hz : c.cells[p]? = some (.ins i (.set b n))) (hi : i < M.hues.length) (h0 : ∀ i u, M0.hues[i]? = some u → u.own = c.own i) :
    M.step = (M.doIns p i (.set b n)).tick := by
  have hz' : M.code.cells[p]? = some (.ins i (.set b n)) := by rw [T.code]; exact hz
  have hi0 : i < M0.hues.length := by rw [← T.len]; exact hi
  have ek : M.ownAt p i = some (.set b n) := by
    unfold Mac.ownAt
    rw [List.getElem?_eq_getElem hi]
    show M.hues[i].own.getD p none = _
    rw [(T.hue i _ _ (List.getElem?_eq_getElem hi) (List.getElem?_eq_getElem hi0)).2.1, h0 i _ (List.getElem?_eq_getElem hi0)]
    exact own_get hz
  unfold Mac.step
  rw [if_pos T.st, due_nil T.wait]
  unfold Mac.exec
  rw [h]
  show (match M.code.cells[p]? with | some z => M.cell p z | none => M.caught).tick = _
  rw [hz']
  show (match M.ownAt p i with | some k => M.doIns p i k | none => M.allPtr ((p : Int) + 1)).tick = _
  rw [ek]
theorem doIns_ptr (M : Mac) (p i : Nat) (b : Nat) (n : Int) : ((M.doIns p i (.set b n)).tick.hues.map fun u => u.ptr) = List.replicate M.hues.length ((p : Int) + 1) := by
  refine List.eq_replicate_iff.mpr ⟨?_, fun x hx => ?_⟩
  · rw [List.length_map]
    show (upHue _ _ _).length = _
    rw [upHue_len, List.length_map]
  · obtain ⟨u, hu, rfl⟩ := List.mem_map.mp hx
    obtain ⟨j, hj⟩ := List.mem_iff_getElem?.mp hu
    obtain ⟨v, hv, e⟩ := upHue_get hj
    rw [List.getElem?_map] at hv
    obtain ⟨v0, hv0, ev⟩ := Option.map_eq_some_iff.mp hv
    subst ev
    rw [e]
    split <;> rfl
theorem doIns_regs {M : Mac} {p i b j : Nat} {n : Int} {u : Hu} (h : (M.doIns p i (.set b n)).tick.hues[j]? = some u) : ∃ v, M.hues[j]? = some v ∧ u.regs = (if i = j then v.regs.set b n else v.regs) := by
  obtain ⟨v, hv, e⟩ := upHue_get h
  rw [List.getElem?_map] at hv
  obtain ⟨v0, hv0, ev⟩ := Option.map_eq_some_iff.mp hv
  subst ev
  refine ⟨v0, hv0, ?_⟩
  rw [e]
  split <;> rfl
theorem doIns_len (M : Mac) (p i : Nat) (k : Ins) : (M.doIns p i k).tick.hues.length = M.hues.length := by
  show (upHue _ _ _).length = _
  rw [upHue_len, List.length_map]
end Hue
namespace Hue
open L2 PySem.Spec PySem PyProof.Rows
/-! ### shapes of moments -/
theorem lay_str {x : Str} (h : PyData.canLay0 (.str x) = true) (ns : List PyData) (hn : PyData.canLayAll0 ns = true ∧ PyData.depthAll ns ≤ 0) (i : Nat) : PyData.canLay0 (.tuple (nD i :: .str x :: ns)) = true ∧ PyData.depth (.tuple (nD i :: .str x :: ns)) ≤ 1 := by
  refine ⟨?_, ?_⟩
  · show (true && (PyData.canLay0 (.str x) && PyData.canLayAll0 ns)) = true
    rw [h, hn.1]
    rfl
  · show max 0 (max 0 (PyData.depthAll ns)) + 1 ≤ 1
    have := hn.2
    omega
theorem lay_nats (ns : List Nat) : PyData.canLayAll0 (ns.map nD) = true ∧ PyData.depthAll (ns.map nD) ≤ 0 := lays_map nD 0 (fun n => ⟨rfl, Nat.le_refl _⟩) ns
theorem lay_wd (w : Wd) : PyData.canLay0 (.str (wdS w)) = true := by cases w <;> decide +kernel
theorem lay_ins (i : Nat) (k : Ins) : PyData.canLay0 (insD i k) = true ∧ PyData.depth (insD i k) ≤ 1 := by
  cases k with
  | set b n => exact lay_str (x := "set") (by decide +kernel) [nD b, .int n] ⟨rfl, Nat.le_refl _⟩ i
  | op w b c d => exact lay_str (lay_wd w) _ (lay_nats [b, c, d]) i
  | get b c x y => exact lay_str (x := "get") (by decide +kernel) _ (lay_nats [b, c, x, y]) i
  | put b c x y => exact lay_str (x := "put") (by decide +kernel) _ (lay_nats [b, c, x, y]) i
  | offer b => exact lay_str (x := "offer") (by decide +kernel) _ (lay_nats [b]) i
def hueD (x : Hu × Nat) : PyData := .tuple [.tuple (x.1.regs.map .int), .tuple (x.1.bank.map .int), .int x.1.ptr, slotD x.1.slot, .tuple ((ownsL x.1.own).map (insD x.2))]
theorem lay_hue (x : Hu × Nat) : PyData.canLay0 (hueD x) = true ∧ PyData.depth (hueD x) ≤ 3 := by
  obtain ⟨a1, a2⟩ := lays_map PyData.int 0 lay_int x.1.regs
  obtain ⟨b1, b2⟩ := lays_map PyData.int 0 lay_int x.1.bank
  obtain ⟨c1, c2⟩ := lays_map (insD x.2) 1 (lay_ins x.2) (ownsL x.1.own)
  obtain ⟨s1, s2⟩ := lay_slot x.1.slot
  refine ⟨?_, ?_⟩
  · show (PyData.canLayAll0 (x.1.regs.map PyData.int) && (PyData.canLayAll0 (x.1.bank.map PyData.int) && (true && (PyData.canLay0 (slotD x.1.slot) && (PyData.canLayAll0 ((ownsL x.1.own).map (insD x.2)) && true))))) = true
    rw [a1, b1, c1, s1]
    rfl
  · show max (PyData.depthAll (x.1.regs.map PyData.int) + 1) (max (PyData.depthAll (x.1.bank.map PyData.int) + 1) (max 0 (max (PyData.depth (slotD x.1.slot)) (max (PyData.depthAll ((ownsL x.1.own).map (insD x.2)) + 1) 0)))) + 1 ≤ 3
    omega
theorem shaped_hues (us : List Hu) : SeqAt.shaped (.tuple (us.zipIdx.map hueD)) = true := shaped_tuple 3 (by decide) (lays_map hueD 3 lay_hue _)
theorem momD_eq (M : Mac) : momD M = .tuple [.tuple (M.hues.zipIdx.map hueD), .tuple [.str (staS M.st), .tuple (M.left.map .int)]] := rfl
/-! ### what stands in data -/
theorem dp_tup {K : PySem.W.Frag} {H : Hp} {v : V} {ds : List PyData} (h : Dp K H v (.tuple ds)) : ∃ a xs, v = .ref a ∧ SqT K H a xs ∧ DpAll K H xs ds := by
  cases h with
  | tup s d => exact ⟨_, _, rfl, s, d⟩
theorem dps_at {K : PySem.W.Frag} {H : Hp} : ∀ {vs : List V} {ds : List PyData} {i : Nat} {d : PyData}, DpAll K H vs ds → ds[i]? = some d → ∃ v, vs[i]? = some v ∧ Dp K H v d
  | _, _, 0, _, .cons a _, h => by
    cases (Option.some.inj h)
    exact ⟨_, rfl, a⟩
  | _, _, i + 1, _, .cons _ b, h => dps_at (i := i) b h
  | _, _, _, _, .nil, h => by simp at h
theorem dp_int {K : PySem.W.Frag} {H : Hp} {v : V} {n : Int} (h : Dp K H v (.int n)) : v = .int n := by
  cases h
  rfl
theorem eqv_nil (ns : List Int) : PyData.eqv (.list (ns.map .int)) (.list []) = ns.isEmpty := by
  cases ns <;> rfl
abbrev N13 : List Str := ["state", "votes", "size", "hues", "many", "cells", "machine", "steps", "some", "hue", "pointers", "pointer", "before", "at", "agreed", "same", "spot"]
abbrev bRight : List Stmt := defBody sRight
def code13 (vs cs : List Nat) : Code := ⟨vs, 100, cs.zipIdx.map fun x => Cel.ins x.1 (.set 3 (10 + (x.2 : Int))), []⟩
theorem code13_at {vs cs : List Nat} {k d : Nat} (h : cs[k]? = some d) : (code13 vs cs).cells[k]? = some (.ins d (.set 3 (10 + (k : Int)))) := by
  show (cs.zipIdx.map _)[k]? = _
  rw [List.getElem?_map, List.getElem?_zipIdx, h]
  show some (Cel.ins d (.set 3 (10 + ((0 + k : Nat) : Int)))) = _
  rw [Nat.zero_add]
section
variable {P : Program} {w : World} {K : PySem.W.Frag} {mg : Str → Option Value} {base : Heap}
theorem scRight : FnScope N13 ["state"] (defScope sRight) := ⟨rfl, rfl, rfl, by decide +kernel, rfl, by decide +kernel, by decide +kernel⟩
/-- the last part: the step, and what is asked behind it -/
theorem blk_last {f : Addr} {cdv : Value} {A : Around} {outer : List Env} {s : Shared} {H0 : Hp} {E : XK} {C : Addr} {Rep : RepT} (hr : Room 31 (A.deeper (envOfC "_law_mk_pointers_right" (defScope sRight) s.heap.objs.size f cdv))) (O : MOps P w K mg base 30 C Rep) (T : Bt mg) :
    ∃ t, PSs (cxOf CX0 P w K mg base N13 "_law_mk_pointers_right" (defScope sRight) f cdv A outer s H0 E).nox (bRight.drop 12) t ∧
      ∀ (vs cs : List Nat) (ps gl : List Int) (crefs : List V) (st av ac am so pa ag : Addr) (vb : V) (stp : Nat) (H : Hp) (M0 M : Mac) (F : Addr → Prop) (D : Ends) (x2 x9 x11 x13 x15 x16 : Option V),
        votesOk vs → cs.length = 6 → (∀ d ∈ cs, d < vs.length) → Rep H am M F → P13 (code13 vs cs) M0 M ps ps.length → ps.length = vs.length → M0.hues.length = vs.length → (∀ i u, M0.hues[i]? = some u → u.regs.length = 8 ∧ u.own = (code13 vs cs).own i) → M0.steps = stp → M0.left = [5] →
        M.at_ = gl.head?.map Int.toNat → (∀ p ∈ gl, 0 ≤ p ∧ p < 6) → H ag = some (.lst (gl.map V.int)) → ¬ F ag → SqT K H ac crefs → DpAll K H crefs ((code13 vs cs).cells.map celD) → Dp K H vb (momD M) →
        (∀ H', (∀ b o, ¬ F b → H b = some o → H' b = some o) → D.rt (.bl true) H') →
        t D [some (.ref st), some (.ref av), x2, some (.int (vs.length : Int)), some (.int 6), some (.ref ac), some (.ref am), some (.int (stp : Int)), some (.ref so), x9, some (.ref pa), x11, some vb, x13, some (.ref ag), x15, x16] H := by
  obtain ⟨fg, fdg, G_go, m_go, b_go⟩ := O.go
  obtain ⟨fm, fdm, G_moment, m_moment, b_moment⟩ := O.moment
  obtain ⟨fr, fdr, G_registers, m_registers, b_registers⟩ := O.registers
  obtain ⟨pw, fw, fdw, G_row, p_row, b_row⟩ := O.row
  obtain ⟨pl, fl, fdl, G_left, p_left, b_left⟩ := O.left
  obtain ⟨pt, ft, fdt, G_state, p_state, b_state⟩ := O.state
  obtain ⟨pp, fp, fdp, G_pointers, p_pointers, b_pointers⟩ := O.pointers
  obtain ⟨pst, fst, fdst, G_steps, p_steps, b_steps⟩ := O.steps
  have nd := scRight.nd
  refine ⟨_, pss_cons (ps_expr (pe_meth (pv 6) O.cls m_go G_go (hr.mono (by decide)) b_go .nil pass0 (pa_cons pe_int pa_nil)))
      (pss_cons (ps_if (pt_cmpR (op_eqD hr.units) (pv 14) (pe_lst pa_nil) (nomark _))
      (pss_cons (ps_set (i := 15) nd rfl (.inl rfl) (pe_and (pe_cmpR (op_eqD hr.units) (pe_ix ix_tup (pe_meth0 (pv 6) O.cls m_moment G_moment (hr.mono (by decide)) b_moment .nil pass0) pe_int (fun _ _ => rfl)) (pe_ix ix_tup (pv 12) pe_int (fun _ _ => rfl)) (nomark _)) (pe_one (pe_cmpR (op_eqD hr.units) (pe_prop (pv 6) O.cls p_left G_left hr b_left .nil pass0 rfl) (pe_lst (pa_cons pe_int pa_nil)) (nomark _)))))
        (pss_one (ps_ret (pe_and (pv 15) (pe_and (pe_cmpR op_eq (pe_prop (pv 6) O.cls p_state G_state hr b_state .nil pass0 rfl) pe_str (nomark _)) (pe_and (pe_cmpR op_eq (pe_prop (pv 6) O.cls p_steps G_steps hr b_steps .nil pass0 rfl) (pe_op op_add (pv 7) pe_int) (nomark _)) (pe_one (pe_cmpR op_isN (pe_fld (pv 6) rfl) pe_non (nomark _)))))))))
      pss_nil)
      (pss_cons (ps_set (i := 13) nd rfl (.inl rfl) (pe_ix ix_list (pv 14) pe_int (fun _ _ => rfl)))
      (pss_cons (ps_if (PW.pt (pw_or (pt_cmpR (op_neD hr.units) (pe_prop (pv 6) O.cls p_pointers G_pointers hr b_pointers .nil pass0 rfl) (pe_op op_repA (pe_tup (pa_cons (pe_op op_add (pv 13) pe_int) pa_nil)) (pv 3)) (nomark _)) (pw_or1 (pt_cmpR op_ne (pe_ix ix_tup (pe_meth (pv 6) O.cls m_registers G_registers (hr.mono (by decide)) b_registers .nil pass0 (pa_cons (pe_ix ix_tup (pe_ix ix_tup (pv 5) (pv 13) (fun _ _ => rfl)) pe_int (fun _ _ => rfl)) pa_nil)) pe_int (fun _ _ => rfl)) (pe_op op_add pe_int (pv 13)) (nomark _)))))
      (pss_one (ps_ret pe_bl))
      pss_nil)
      (pss_cons (ps_for PassesOwn.never rfl (pi_range1 (by rfl) T.range (pa_cons (pv 3) pa_nil)) (pg_name (i := 9) nd rfl (.inl rfl))
      (pss_one (ps_if (PW.pt (pw_and (pt_cmpR op_ne (pv 9) (pe_ix ix_tup (pe_ix ix_tup (pv 5) (pv 13) (fun _ _ => rfl)) pe_int (fun _ _ => rfl)) (nomark _)) (pw_and1 (pt_cmpR (op_neD hr.units) (pe_meth (pv 6) O.cls m_registers G_registers (hr.mono (by decide)) b_registers .nil pass0 (pa_cons (pv 9) pa_nil)) (pe_ix ix_tup (pe_ix ix_tup (pe_ix ix_tup (pv 12) pe_int (fun _ _ => rfl)) (pv 9) (fun _ _ => rfl)) pe_int (fun _ _ => rfl)) (nomark _)))))
        (pss_one (ps_ret pe_bl))
        pss_nil)))
      (pss_one (ps_ret (pe_and (pe_cmpR op_eq (pe_prop (pv 6) O.cls p_state G_state hr b_state .nil pass0 rfl) pe_str (nomark _)) (pe_one (pe_cmpR (op_eqD hr.units) (pe_prop (pv 6) O.cls p_row G_row hr b_row .nil pass0 rfl) (pe_lst pa_nil) (nomark _)))))))))), ?_⟩
  intro vs cs ps gl crefs st av ac am so pa ag vb stp H M0 M F D x2 x9 x11 x13 x15 x16 hv hcs hcd rep TT hps hm0 hm1 hst0 hl0 hat hg6 hag hnF hac hcr hvb q
  obtain ⟨dx, fs1, hins, hFa, l1, l2, l3, l4, l5, l6⟩ := O.ins _ _ _ _ rep
  refine ⟨_, rfl, am, dx, fs1, rfl, hins, l1, am, 1, M, F, rfl, rep, by decide, by rw [TT.row]; decide, fun F2 H2 rep2 ch => ?_⟩
  rw [go_one] at rep2
  have hag2 := ch.keep _ _ hnF hag
  obtain ⟨dx2, fs2, hins2, _, _, _, l3', _, l5', _⟩ := O.ins _ _ _ _ rep2
  -- agreed == []
  refine ⟨_, rfl, (show 0 ≤ sizeLine by decide), fun p3 hp3 => ?_⟩
  have s23 : Same H2 (upd H2 p3 (.lst [])) := same_new hp3
  refine ⟨_, _, .lst (.inl (.inl (s23 _ _ hag2))) (dp_ints gl), .lst (.inl (.inl upd_same)) .nil, shaped_intL gl, shaped_intL [], _, rfl, ?_⟩
  rw [eqv_nil]
  generalize upd H2 p3 (.lst []) = H3 at *
  have rep3 := O.frame _ _ _ _ _ rep2 fun x o _ e => s23 _ _ e
  cases gl with
  | nil =>
    refine iteT ?_
    have eM : M.step = M.caught.tick := TT.no hat
    have emom : momD M.step = .tuple [.tuple (M.hues.zipIdx.map hueD), .tuple [.str (staS .caught), .tuple (M.left.map .int)]] := by
      rw [eM]
      rfl
    -- machine.moment()[0] == before[0]
    refine ⟨_, rfl, am, dx2, fs2, rfl, s23 _ _ hins2, l5', am, M.step, F2, rfl, rep3, fun v4 H4 s4 d4 => ?_⟩
    rw [emom] at d4
    obtain ⟨a4, ys4, rfl, hs4, hd4⟩ := dp_tup d4
    obtain ⟨v40, hv40, hd40⟩ := dps_at (i := 0) hd4 rfl
    rw [momD_eq] at hvb
    obtain ⟨ab, ysb, rfl, hsb, hdb⟩ := dp_tup hvb
    obtain ⟨vb0, hvb0, hdb0⟩ := dps_at (i := 0) hdb rfl
    have tkB : Tk H H4 := ch.tk.trans (Tk.same (s23.trans s4))
    have nlh : noL (.tuple (M.hues.zipIdx.map hueD)) = true := noLs_map hueD (fun x => by
      show (noLs (x.1.regs.map PyData.int) && (noLs (x.1.bank.map PyData.int) && (true && (noL (slotD x.1.slot) && (noLs ((ownsL x.1.own).map (insD x.2)) && true))))) = true
      rw [noLs_map _ (fun _ => rfl), noLs_map _ (fun _ => rfl), noLs_map (insD x.2) (fun k => by cases k <;> rfl)]
      cases x.1.slot <;> rfl) _
    refine ⟨a4, ys4, 0, v40, rfl, rfl, hs4, at_of (j := 0) rfl hv40, ?_⟩
    refine ⟨_, rfl, ab, ysb, 0, vb0, rfl, rfl, tkB.seq hsb, at_of (j := 0) rfl hvb0, ?_⟩
    refine ⟨_, _, hd40, dp_tk tkB _ _ nlh hdb0, shaped_hues _, shaped_hues _, _, rfl, ?_⟩
    rw [eqv_same (shaped_hues _)]
    refine iteT ?_
    -- machine.left == [5]
    have rep4 := O.frame _ _ _ _ _ rep3 fun x o _ e => s4 _ _ e
    refine ⟨_, rfl, am, dx2, fs2, rfl, (s23.trans s4) _ _ hins2, am, M.step, F2, rfl, rep4, fun v5 H5 s5 d5 => ?_⟩
    replace d5 : Dp K H5 v5 (.list (M.step.left.map PyData.int)) := d5
    rw [show M.step.left = [5] by rw [eM]; exact TT.left.trans hl0] at d5
    refine ⟨(show 1 ≤ sizeLine by decide), fun p6 hp6 => ?_⟩
    have s56 := same_new (o := .lst [V.int 5]) hp6
    refine ⟨_, _, dp_same s56 _ _ d5, .lst (.inl (.inl upd_same)) (dp_ints [5]), shaped_intL [5], shaped_intL [5], ?_⟩
    rw [eqv_same (shaped_intL [5])]
    have s26 := (s23.trans s4).trans (s5.trans s56)
    generalize upd H5 p6 (.lst [V.int 5]) = H6 at *
    -- return same and ..
    refine ⟨_, rfl, _, rfl, iteT ?_⟩
    have rep6 := O.frame _ _ _ _ _ rep2 fun x o _ e => s26 _ _ e
    refine ⟨_, rfl, am, dx2, fs2, rfl, s26 _ _ hins2, am, M.step, F2, rfl, rep6, fun v7 H7 s7 d7 => ?_⟩
    replace d7 : Dp K H7 v7 (.str (staS M.step.st)) := d7
    rw [show M.step.st = .caught by rw [eM]; rfl] at d7
    cases d7
    refine ⟨rfl, _, rfl, ?_⟩
    rw [decide_eq_true (show V.str (staS .caught) = V.str (Str.ofString "caught") from rfl)]
    refine iteT ?_
    have s27 := s26.trans s7
    have rep7 := O.frame _ _ _ _ _ rep2 fun x o _ e => s27 _ _ e
    refine ⟨_, rfl, am, dx2, fs2, rfl, s27 _ _ hins2, am, M.step, F2, rfl, rep7, fun v8 H8 s8 d8 => ?_⟩
    replace d8 : Dp K H8 v8 (.int (M.step.steps : Int)) := d8
    rw [show M.step.steps = stp + 1 by rw [eM]; show M.steps + 1 = stp + 1; rw [TT.steps, hst0]] at d8
    cases d8
    refine ⟨_, rfl, _, _, rfl, rfl, rfl, _, rfl, ?_⟩
    rw [decide_eq_true (show V.int (((stp + 1 : Nat)) : Int) = V.int ((stp : Int) + 1) from rfl)]
    refine iteT ?_
    have s28 := s27.trans s8
    have rep8 := O.frame _ _ _ _ _ rep2 fun x o _ e => s28 _ _ e
    obtain ⟨dx8, fs8, hins8, _, _, _, _, _, _, _, va, hva, dva⟩ := O.ins _ _ _ _ rep8
    refine ⟨_, rfl, am, C, dx8, fs8, va, rfl, hins8, O.cls, O.nAd, hva, ?_⟩
    rw [show M.step.addr = none by rw [eM]; rfl] at dva
    cases dva
    refine ⟨rfl, ?_⟩
    exact q _ fun b o n e => s28 _ _ (ch.keep b o n e)
  | cons p r =>
    refine iteF ?_
    obtain ⟨hp0, hp6⟩ := hg6 p (List.mem_cons.mpr (.inl rfl))
    have hk : p.toNat < cs.length := by omega
    have hz := code13_at (vs := vs) (List.getElem?_eq_getElem hk)
    have hd := hcd _ (List.getElem_mem hk)
    generalize cs[p.toNat] = dd at *
    have hml : M.hues.length = vs.length := by rw [TT.len]; exact hm0
    have eM : M.step = (M.doIns p.toNat dd (.set 3 (10 + (p.toNat : Int)))).tick := TT.yes hat hz (by rw [hml]; exact hd) (fun i u e => (hm1 i u e).2)
    have ep : ((p.toNat : Nat) : Int) = p := Int.toNat_of_nonneg hp0
    rw [ep] at eM hz
    -- at = agreed[0]
    refine ⟨_, rfl, ag, _, 0, .int p, rfl, rfl, .inl (.inl (s23 _ _ hag2)), at_of (j := 0) rfl rfl, ?_⟩
    -- machine.pointers != (at + 1,) * hues
    refine ⟨_, rfl, am, dx2, fs2, rfl, s23 _ _ hins2, am, M.step, F2, rfl, rep3, fun v4 H4 s4 d4 => ?_⟩
    replace d4 : Dp K H4 v4 (.tuple (M.step.hues.map fun u => .int u.ptr)) := d4
    have eptr : (M.step.hues.map fun u => PyData.int u.ptr) = (List.replicate vs.length (p + 1)).map PyData.int := by
      have z := doIns_ptr M p.toNat dd 3 (10 + p)
      rw [hml, ep] at z
      rw [eM, ← z, List.map_map]
      rfl
    rw [eptr] at d4
    refine ⟨_, rfl, _, _, rfl, rfl, (show 1 ≤ sizeLine by decide), fun p5 hp5 => ?_⟩
    have s45 := same_new (o := .tup [V.int (p + 1)]) hp5
    refine ⟨_, rfl, p5, (vs.length : Int), [V.int (p + 1)], rfl, rfl, .inl (.inl upd_same), by simp, by have := hv.1; omega, by have := hv.2.1; omega, (show 1 ≤ 1000 by decide), fun p6 H6 s56 hq6 => ?_⟩
    rw [Int.toNat_natCast] at hq6
    have efl : (List.replicate vs.length [V.int (p + 1)]).flatten = (List.replicate vs.length (p + 1)).map V.int := by
      rw [List.map_replicate]
      generalize vs.length = n
      induction n with
      | zero => rfl
      | succ n ih =>
        rw [List.replicate_succ, List.replicate_succ, List.flatten_cons, ih]
        rfl
    rw [efl] at hq6
    have s46 := s45.trans s56
    refine ⟨_, _, dp_same s46 _ _ d4, .tup hq6 (dp_ints _), shaped_intT _, shaped_intT _, _, rfl, ?_⟩
    rw [eqv_same (shaped_intT _)]
    refine iteF ?_
    have s26 := (s23.trans s4).trans s46
    -- machine.registers(cells[at][0])[3] != 10 + at
    have rep6 := O.frame _ _ _ _ _ rep2 fun x o _ e => s26 _ _ e
    have tkC : Tk H H6 := ch.tk.trans (Tk.same s26)
    have nlc : noLs ((code13 vs cs).cells.map celD) = true := by
      show noLs ((cs.zipIdx.map fun x => Cel.ins x.1 (.set 3 (10 + (x.2 : Int)))).map celD) = true
      rw [List.map_map]
      exact noLs_map _ (fun x => rfl) _
    have hcr6 := dps_tk tkC _ _ nlc hcr
    obtain ⟨vc, hvc, hdc⟩ := dps_at (i := p.toNat) hcr6 (by rw [List.getElem?_map, hz]; rfl)
    obtain ⟨a7, ys7, rfl, hs7, hd7⟩ := dp_tup (show Dp K H6 vc (.tuple [nD dd, .str "set", nD 3, .int (10 + p)]) from hdc)
    obtain ⟨v70, hv70, hd70⟩ := dps_at (i := 0) hd7 rfl
    have e70 := dp_int hd70
    subst e70
    have hil : dd < M.step.hues.length := by rw [eM, doIns_len, hml]; exact hd
    obtain ⟨u0, hu0, hur⟩ := doIns_regs (M := M) (p := p.toNat) (i := dd) (b := 3) (j := dd) (n := 10 + p) (by rw [← eM]; exact List.getElem?_eq_getElem hil)
    rw [if_pos rfl] at hur
    have hu8 : u0.regs.length = 8 := by
      have hi0 : dd < M0.hues.length := by rw [hm0]; exact hd
      have z := (TT.hue dd u0 _ hu0 (List.getElem?_eq_getElem hi0)).1
      rw [z]
      exact (hm1 dd _ (List.getElem?_eq_getElem hi0)).1
    refine ⟨_, rfl, am, dx2, fs2, rfl, s26 _ _ hins2, l3', _, rfl, _, rfl, ac, crefs, p, .ref a7, rfl, rfl, tkC.seq hac, at_of (j := p.toNat) ep.symm hvc, a7, ys7, 0, _, rfl, rfl, hs7, at_of (j := 0) rfl hv70, am, dd, M.step, F2, _, rfl, rep6, List.getElem?_eq_getElem hil, fun v8 H8 s8 d8 => ?_⟩
    replace d8 : Dp K H8 v8 (.tuple (M.step.hues[dd].regs.map PyData.int)) := d8
    rw [hur] at d8
    obtain ⟨a8, ys8, rfl, hs8, hd8⟩ := dp_tup d8
    obtain ⟨v83, hv83, hd83⟩ := dps_at (i := 3) (d := .int (10 + p)) hd8 (by rw [List.getElem?_map, List.getElem?_set_self (by omega)]; rfl)
    have e83 := dp_int hd83
    subst e83
    refine ⟨a8, ys8, 3, _, rfl, rfl, hs8, at_of (j := 3) rfl hv83, _, rfl, _, _, rfl, rfl, rfl, _, rfl, ?_⟩
    rw [decide_eq_true (show V.int (10 + p) = V.int (10 + p) from rfl)]
    refine iteF ?_
    -- the other hues
    have s28 := s26.trans s8
    refine ⟨_, rfl, (vs.length : Int), rfl, by omega, by have := hv.2.1; omega, ?_⟩
    rw [Int.toNat_natCast]
    rw [momD_eq] at hvb
    obtain ⟨ab, ysb, rfl, hsb, hdb⟩ := dp_tup hvb
    obtain ⟨vb0, hvb0, hdb0⟩ := dps_at (i := 0) hdb rfl
    obtain ⟨ab0, ysb0, rfl, hsb0, hdb0'⟩ := dp_tup hdb0
    refine for_range (lo := 0) (n := vs.length) (fun i σ H' => ∃ y9 : Option V, σ = [some (.ref st), some (.ref av), x2, some (.int (vs.length : Int)), some (.int 6), some (.ref ac), some (.ref am), some (.int (stp : Int)), some (.ref so), y9, some (.ref pa), x11, some (.ref ab), some (.int p), some (.ref ag), x15, x16] ∧ Same H8 H')
      ⟨_, rfl, Same.refl _⟩ (fun i σ H9 hi h => ?_) (fun σ H9 h => ?_)
    · obtain ⟨y9, rfl, s89⟩ := h
      have s29 := s28.trans s89
      have tk9 : Tk H H9 := ch.tk.trans (Tk.same s29)
      have hi0 : i < M.hues.length := by rw [hml]; exact hi
      have hi2 : i < M.step.hues.length := by rw [eM, doIns_len]; exact hi0
      obtain ⟨vb1, hvb1, hdb1⟩ := dps_at (i := i) (d := hueD (M.hues[i], i)) hdb0' (by rw [List.getElem?_map, List.getElem?_zipIdx, List.getElem?_eq_getElem hi0]; show some (hueD (M.hues[i], 0 + i)) = _; rw [Nat.zero_add])
      obtain ⟨ab1, ysb1, rfl, hsb1, hdb1'⟩ := dp_tup hdb1
      obtain ⟨vb2, hvb2, hdb2⟩ := dps_at (i := 0) hdb1' rfl
      have hs7' : SqT K H9 a7 ys7 := (Tk.same (s8.trans s89)).seq hs7
      refine ⟨_, rfl, _, rfl, _, rfl, ac, crefs, p, .ref a7, rfl, rfl, tk9.seq hac, at_of (j := p.toNat) ep.symm hvc, a7, ys7, 0, _, rfl, rfl, hs7', at_of (j := 0) rfl hv70, rfl, _, rfl, ite2 (fun e => ?_) (fun e => ?_)⟩
      · have hne : ¬ dd = i := fun z => by
          have e : (!decide (V.int (0 + (i : Int)) = V.int (dd : Int))) = true := e
          rw [z, Int.zero_add, decide_eq_true (rfl : V.int (i : Int) = V.int (i : Int))] at e
          cases e
        have ei : V.int (0 + (i : Int)) = V.int (i : Int) := by rw [Int.zero_add]
        have rep9 := O.frame _ _ _ _ _ rep2 fun x o _ e => s29 _ _ e
        refine ⟨_, rfl, am, dx2, fs2, rfl, s29 _ _ hins2, l3', _, rfl, am, i, M.step, F2, _, ?_, rep9, List.getElem?_eq_getElem hi2, fun v10 H10 s10 d10 => ?_⟩
        · show [V.ref am, V.int (0 + (i : Int))] = [V.ref am, V.int (i : Int)]
          rw [ei]
        replace d10 : Dp K H10 v10 (.tuple (M.step.hues[i].regs.map PyData.int)) := d10
        obtain ⟨u1, hu1, hur1⟩ := doIns_regs (M := M) (p := p.toNat) (i := dd) (b := 3) (j := i) (n := 10 + p) (by rw [← eM]; exact List.getElem?_eq_getElem hi2)
        rw [if_neg hne] at hur1
        have eu : u1 = M.hues[i] := by
          rw [List.getElem?_eq_getElem hi0] at hu1
          exact (Option.some.inj hu1).symm
        rw [hur1, eu] at d10
        have tk10 : Tk H H10 := tk9.trans (Tk.same s10)
        refine ⟨_, rfl, ab, ysb, 0, .ref ab0, rfl, rfl, tk10.seq hsb, at_of (j := 0) rfl hvb0, _, rfl, ab0, ysb0, _, .ref ab1, rfl, rfl, tk10.seq hsb0, at_of (j := i) (by omega) hvb1, ab1, ysb1, 0, vb2, rfl, rfl, tk10.seq hsb1, at_of (j := 0) rfl hvb2, ?_⟩
        refine ⟨_, _, d10, dp_tk tk10 (.tuple (M.hues[i].regs.map PyData.int)) _ (noLs_map PyData.int (fun _ => rfl) _) hdb2, shaped_intT _, shaped_intT _, _, rfl, ?_⟩
        rw [eqv_same (shaped_intT _)]
        exact iteF ⟨_, rfl, s89.trans s10⟩
      · have e' : (!decide (V.int (0 + (i : Int)) = V.int (dd : Int))) = false := Bool.eq_false_iff.mpr e
        exact iteF ⟨_, rfl, s89⟩
    · obtain ⟨y9, rfl, s89⟩ := h
      have s29 := s28.trans s89
      have rep9 := O.frame _ _ _ _ _ rep2 fun x o _ e => s29 _ _ e
      refine ⟨_, rfl, am, dx2, fs2, rfl, s29 _ _ hins2, am, M.step, F2, rfl, rep9, fun v10 H10 s10 d10 => ?_⟩
      replace d10 : Dp K H10 v10 (.str (staS M.step.st)) := d10
      rw [show M.step.st = .running by rw [eM]; exact TT.st] at d10
      cases d10
      refine ⟨rfl, _, rfl, ?_⟩
      rw [decide_eq_true (show V.str (staS .running) = V.str (Str.ofString "running") from rfl)]
      refine iteT ?_
      have s210 := s29.trans s10
      have rep10 := O.frame _ _ _ _ _ rep2 fun x o _ e => s210 _ _ e
      refine ⟨_, rfl, am, dx2, fs2, rfl, s210 _ _ hins2, am, M.step, F2, rfl, rep10, fun v11 H11 s11 d11 => ?_⟩
      replace d11 : Dp K H11 v11 (.list (M.step.row.map itemD)) := d11
      rw [show M.step.row = [] by rw [eM]; exact TT.row] at d11
      refine ⟨(show 0 ≤ sizeLine by decide), fun p12 hp12 => ?_⟩
      have s12 := same_new (o := .lst []) hp12
      refine ⟨_, _, dp_same s12 _ _ d11, .lst (.inl (.inl upd_same)) .nil, shaped_row [], shaped_row [], ?_⟩
      rw [show PyData.eqv (.list (([] : List Item).map itemD)) (.list []) = true from rfl]
      exact q _ fun b o n e => s12 _ _ (s11 _ _ (s210 _ _ (ch.keep b o n e)))
end
end Hue
namespace Hue
open L2 PySem.Spec PySem PyProof.Rows
theorem code13_len (vs cs : List Nat) : (code13 vs cs).cells.length = cs.length := by
  show (cs.zipIdx.map _).length = _
  rw [List.length_map, List.length_zipIdx]
theorem agreed_mem {α : Type} [DecidableEq α] {xs : List α} {k : Nat} {x : α} (h : agreed xs k = some x) : x ∈ xs := List.mem_of_find?_eq_some h
section
variable {P : Program} {w : World} {K : PySem.W.Frag} {mg : Str → Option Value} {base : Heap}
/-- behind the strikes -/
theorem blk_mid {f : Addr} {cdv : Value} {A : Around} {outer : List Env} {s : Shared} {H0 : Hp} {E : XK} {C : Addr} {Rep : RepT} (hr : Room 31 (A.deeper (envOfC "_law_mk_pointers_right" (defScope sRight) s.heap.objs.size f cdv))) (O : MOps P w K mg base 30 C Rep) (T : Bt mg)
    (DA : Df P w K mg base 1 "_law_mk_agreed" ["values", "need"] (spAgreed K)) :
    ∃ t, PSs (cxOf CX0 P w K mg base N13 "_law_mk_pointers_right" (defScope sRight) f cdv A outer s H0 E).nox (bRight.drop 8) t ∧
      ∀ (vs cs : List Nat) (ps : List Int) (crefs : List V) (st av ac am so pa : Addr) (stp : Nat) (H : Hp) (M0 M : Mac) (F : Addr → Prop) (D : Ends) (x2 x9 x11 x12 x13 x14 x15 x16 : Option V),
        votesOk vs → cs.length = 6 → (∀ d ∈ cs, d < vs.length) → Rep H am M F → P13 (code13 vs cs) M0 M ps ps.length → ps.length = vs.length → M0.hues.length = vs.length → (∀ i u, M0.hues[i]? = some u → u.regs.length = 8 ∧ u.own = (code13 vs cs).own i) → M0.steps = stp → M0.left = [5] →
        (∀ p ∈ ps, 0 ≤ p ∧ p ≤ 9999) → SqT K H av (vs.map fun n : Nat => V.int (n : Int)) → H pa = some (.lst (ps.map V.int)) → SqT K H ac crefs → DpAll K H crefs ((code13 vs cs).cells.map celD) →
        (∀ H', (∀ b o, ¬ F b → H b = some o → H' b = some o) → D.rt (.bl true) H') →
        t D [some (.ref st), some (.ref av), x2, some (.int (vs.length : Int)), some (.int 6), some (.ref ac), some (.ref am), some (.int (stp : Int)), some (.ref so), x9, some (.ref pa), x11, x12, x13, x14, x15, x16] H := by
  obtain ⟨tR, pR, qR⟩ := blk_last (H0 := H0) (E := E) (outer := outer) hr O T
  obtain ⟨fA, fdA, G_law_mk_agreed, g_law_mk_agreed, k_law_mk_agreed, b_law_mk_agreed⟩ := DA
  obtain ⟨fm, fdm, G_moment, m_moment, b_moment⟩ := O.moment
  obtain ⟨pp, fp, fdp, G_pointers, p_pointers, b_pointers⟩ := O.pointers
  obtain ⟨pst, fst, fdst, G_steps, p_steps, b_steps⟩ := O.steps
  have nd := scRight.nd
  refine ⟨_, pss_cons (ps_set (i := 12) nd rfl (.inl rfl) (pe_meth0 (pv 6) O.cls m_moment G_moment (hr.mono (by decide)) b_moment .nil pass0)) (pss_cons (ps_if (PW.pt (pw_or (pt_cmpR (op_neD hr.units) (pe_prop (pv 6) O.cls p_pointers G_pointers hr b_pointers .nil pass0 rfl) (pe_callTy call_tuple_of (by rfl) T.tuple (by decide +kernel) (pa_cons (pv 10) pa_nil)) (nomark _)) (pw_or1 (pt_cmpR op_ne (pe_prop (pv 6) O.cls p_steps G_steps hr b_steps .nil pass0 rfl) (pv 7) (nomark _)))))
      (pss_one (ps_ret pe_bl))
      pss_nil) (pss_cons (ps_setLc (i := 14) (own := [("at", 13)]) (g := gName 13) (by rfl) nd rfl rfl (sw_true rfl rfl rfl (by decide +kernel)) (pi_list (pe_call G_law_mk_agreed (hr.mono (by decide)) rfl g_law_mk_agreed k_law_mk_agreed b_law_mk_agreed .nil pass0 (pa_cons (pv 10) (pa_cons (pe_ix ix_tup (pv 1) (pe_op op_sub (pv 3) pe_int) (fun _ _ => rfl)) pa_nil)))) (blkOk_by (own := [("at", 13)]) (N := ["state", "votes", "size", "hues", "many", "cells", "machine", "steps", "some", "hue", "pointers", "pointer", "before", "at", "agreed", "same", "spot"]) (sc := defScope sRight) (by decide +kernel)) (fun _ _ _ _ _ => pg_name (i := 13) nd rfl (Or.inl rfl))
          (fun _ _ _ _ _ => pts_one (pt_cmpR op_lt (pv 13) (pv 4) (nomark _)))
          (fun _ _ _ _ _ => pv 13)) (pss_cons (ps_if (pt_cmpR op_ne (pe_callB call_repr_o (by rfl) T.repr (by decide +kernel) (pa_cons (pe_fld (pv 6) rfl) pa_nil)) (pe_ifExp (pt_cmpR (op_neD hr.units) (pv 14) (pe_lst pa_nil) (nomark _)) (pe_callB call_repr_o (by rfl) T.repr (by decide +kernel) (pa_cons (pe_ix ix_list (pv 14) pe_int (fun _ _ => rfl)) pa_nil)) pe_str) (nomark _))
      (pss_one (ps_ret pe_bl))
      pss_nil) pR))), ?_⟩
  intro vs cs ps crefs st av ac am so pa stp H M0 M F D x2 x9 x11 x12 x13 x14 x15 x16 hv hcs hcd rep TT hps hm0 hm1 hst0 hl0 hpb hav hpa hac hcr q
  obtain ⟨dx, fs1, hins, hFa, l1, l2, l3, l4, l5, l6⟩ := O.ins _ _ _ _ rep
  have hv1 := hv.1
  have hv5 := hv.2.1
  -- before = machine.moment()
  refine ⟨_, rfl, am, dx, fs1, rfl, hins, l5, am, M, F, rfl, rep, fun vb H1 s1 d1 => ?_⟩
  have rep1 := O.frame _ _ _ _ _ rep fun x o _ e => s1 _ _ e
  -- machine.pointers != tuple(pointers) or machine.steps != steps
  refine ⟨_, rfl, am, dx, fs1, rfl, s1 _ _ hins, am, M, F, rfl, rep1, fun v2 H2 s2 d2 => ?_⟩
  replace d2 : Dp K H2 v2 (.tuple (M.hues.map fun u => .int u.ptr)) := d2
  have eptr : (M.hues.map fun u => PyData.int u.ptr) = ps.map PyData.int := by
    have z := TT.ptrs (by rw [hm0, hps])
    rw [← z, List.map_map]
    rfl
  rw [eptr] at d2
  refine ⟨_, rfl, pa, _, rfl, .inl ⟨.inl (.inl (s2 _ _ (s1 _ _ hpa))), fun p3 hp3 => ?_⟩⟩
  have s3 := same_new (o := .tup (ps.map V.int)) hp3
  refine ⟨_, _, dp_same s3 _ _ d2, .tup (.inl (.inl upd_same)) (dp_ints ps), shaped_intT _, shaped_intT _, _, rfl, ?_⟩
  rw [eqv_same (shaped_intT _)]
  refine iteF ?_
  have s13 := s1.trans (s2.trans s3)
  have rep3 := O.frame _ _ _ _ _ rep fun x o _ e => s13 _ _ e
  refine ⟨_, rfl, am, dx, fs1, rfl, s13 _ _ hins, am, M, F, rfl, rep3, fun v4 H4 s4 d4 => ?_⟩
  replace d4 : Dp K H4 v4 (.int (M.steps : Int)) := d4
  rw [show M.steps = stp by rw [TT.steps, hst0]] at d4
  cases d4
  refine ⟨_, rfl, rfl, _, rfl, ?_⟩
  rw [decide_eq_true (show V.int (stp : Int) = V.int (stp : Int) from rfl)]
  refine iteF ?_
  have s14 := s13.trans s4
  -- agreed
  have hneed : vs.length - 1 < vs.length := by omega
  have eneed : (code13 vs cs).need (code13 vs cs).h = vs[vs.length - 1] := by
    show vs.getD (vs.length - 1) 0 = _
    rw [List.getD_eq_getElem?_getD, List.getElem?_eq_getElem hneed]
    rfl
  refine ⟨_, rfl, _, rfl, _, rfl, _, _, rfl, rfl, av, _, _, .int ((vs[vs.length - 1] : Nat) : Int), rfl, rfl, (Tk.same s14).seq hav, at_of (j := vs.length - 1) (by omega) (by rw [List.getElem?_map, List.getElem?_eq_getElem hneed]; rfl), pa, ps, vs[vs.length - 1], rfl, .inl (.inl (s14 _ _ hpa)), by omega, fun pg H5 s5 npg hpg => ?_⟩
  refine ⟨pg, rfl, ⟨_, .inl (.inl hpg)⟩, fun Dd hDd => ?_⟩
  have s15 := s14.trans s5
  refine lc_list (K := K) (a := pg) (xs := (agreed ps vs[vs.length - 1]).toList.map V.int) (fun i H' => H' Dd = some (.lst ((((agreed ps vs[vs.length - 1]).toList.take i).filter fun p => decide (p < 6)).map V.int)) ∧ Same H5 H') ⟨upd_same, same_new hDd⟩ (fun i H' _ h => h.2.seq (.inl (.inl hpg))) (fun i x H' hx h => ?_) (fun H6 h => ?_)
  · obtain ⟨hD', sm⟩ := h
    rw [List.getElem?_map] at hx
    obtain ⟨z, hz, ez⟩ := Option.map_eq_some_iff.mp hx
    subst ez
    have hlen : ((((agreed ps vs[vs.length - 1]).toList.take i).filter fun p => decide (p < 6)).map V.int).length < sizeLine := by
      rw [List.length_map]
      have h1 := List.length_filter_le (fun p : Int => decide (p < 6)) ((agreed ps vs[vs.length - 1]).toList.take i)
      have h2 : (agreed ps vs[vs.length - 1]).toList.length ≤ 1 := by
        cases agreed ps vs[vs.length - 1] <;> simp
      rw [List.length_take] at h1
      exact small1000 (by omega)
    refine ⟨rfl, _, rfl, _, rfl, _, _, rfl, rfl, _, rfl, ite2 (fun e => ?_) (fun e => ?_)⟩
    · refine ⟨_, rfl, _, hD', hlen, ?_, Same.mut (show Same H5 H' from sm) hDd⟩
      rw [upd_same, filter_take _ hz, if_pos e, List.map_append]
      rfl
    · refine ⟨?_, sm⟩
      rw [filter_take _ hz, if_neg e, List.append_nil]
      exact hD'
  · obtain ⟨hD6, s56⟩ := h
    rw [List.length_map, List.take_length] at hD6
    have s16 := s15.trans s56
    have nDd : H Dd = none := s15.free hDd
    have nFD : ¬ F Dd := fun z => by
      obtain ⟨o, ho⟩ := O.live _ _ _ _ rep Dd z
      rw [ho] at nDd
      cases nDd
    have hat : M.at_ = ((agreed ps vs[vs.length - 1]).toList.filter fun p => decide (p < 6)).head?.map Int.toNat := by
      rw [TT.at_ (by rw [hm0, hps]), eneed]
      congr 2
      refine List.filter_congr fun p hp => ?_
      have hm : p ∈ ps := agreed_mem (Option.mem_toList.mp hp)
      rw [code13_len, hcs]
      have := (hpb p hm).1
      by_cases z : p < 6
      · rw [decide_eq_true z, decide_eq_true ⟨this, z⟩]
      · rw [decide_eq_false z, decide_eq_false fun y => z y.2]
    have hgl : ∀ p ∈ (agreed ps vs[vs.length - 1]).toList.filter (fun p => decide (p < 6)), 0 ≤ p ∧ p < 6 := fun p hp => by
      obtain ⟨h1, h2⟩ := List.mem_filter.mp hp
      exact ⟨(hpb p (agreed_mem (Option.mem_toList.mp h1))).1, of_decide_eq_true h2⟩
    generalize hg : (agreed ps vs[vs.length - 1]).toList.filter (fun p => decide (p < 6)) = gl at *
    have rep6 := O.frame _ _ _ _ _ rep fun x o _ e => s16 _ _ e
    -- repr(machine.address) != ..
    obtain ⟨dx6, fs6, hins6, _, _, _, _, _, _, _, v7, hva, d7⟩ := O.ins _ _ _ _ rep6
    refine ⟨_, rfl, am, C, dx6, fs6, v7, rfl, hins6, O.cls, O.nAd, hva, ?_⟩
    have s7 : Same H6 H6 := fun _ _ e => e
    rw [TT.addr, hat] at d7
    have fin : ∀ H8, Same H6 H8 → tR D [some (.ref st), some (.ref av), x2, some (.int (vs.length : Int)), some (.int 6), some (.ref ac), some (.ref am), some (.int (stp : Int)), some (.ref so), x9, some (.ref pa), x11, some vb, x13, some (.ref Dd), x15, x16] H8 := fun H8 s8 => by
      have s18 := (s16.trans s7).trans s8
      refine qR vs cs ps gl crefs st av ac am so pa Dd vb stp H8 M0 M F D x2 x9 x11 x13 x15 x16 hv hcs hcd (O.frame _ _ _ _ _ rep fun x o _ e => s18 _ _ e) TT hps hm0 hm1 hst0 hl0 hat hgl (s8 _ _ hD6) nFD ((Tk.same s18).seq hac) ?_ (dp_same (((s2.trans s3).trans (s4.trans (s5.trans s56))).trans (s7.trans s8)) _ _ d1) fun H' k => q H' fun b o n e => k b o n (s18 _ _ e)
      refine dps_tk (Tk.same s18) _ _ ?_ hcr
      show noLs ((cs.zipIdx.map fun x => Cel.ins x.1 (.set 3 (10 + (x.2 : Int)))).map celD) = true
      rw [List.map_map]
      exact noLs_map _ (fun x => rfl) _
    cases gl with
    | nil =>
      cases d7
      refine .inr ⟨rfl, ?_⟩
      refine ⟨_, rfl, (show 0 ≤ sizeLine by decide), fun p8 hp8 => ?_⟩
      have s8 : Same H6 (upd H6 p8 (.lst [])) := same_new hp8
      refine ⟨_, _, .lst (.inl (.inl (s8 _ _ hD6))) (dp_ints []), .lst (.inl (.inl upd_same)) .nil, shaped_intL [], shaped_intL [], _, rfl, ?_⟩
      refine iteF ?_
      refine ⟨rfl, _, rfl, ?_⟩
      refine iteF ?_
      exact fin _ s8
    | cons p r =>
      obtain ⟨hp0, hp6⟩ := hgl p (List.mem_cons.mpr (.inl rfl))
      have d7 : Dp K H6 v7 (.int ((p.toNat : Nat) : Int)) := d7
      rw [Int.toNat_of_nonneg hp0] at d7
      cases d7
      have hlog : p.natAbs.log2 < 1920 := by
        have h1 : p.natAbs < 2 ^ 3 := by omega
        have h2 : p.natAbs.log2 ≤ p.natAbs := Nat.log2_le_self _
        omega
      refine .inl ⟨p, rfl, hlog, ?_⟩
      refine ⟨_, rfl, (show 0 ≤ sizeLine by decide), fun p8 hp8 => ?_⟩
      have s8 : Same H6 (upd H6 p8 (.lst [])) := same_new hp8
      refine ⟨_, _, .lst (.inl (.inl (s8 _ _ hD6))) (dp_ints (p :: r)), .lst (.inl (.inl upd_same)) .nil, shaped_intL _, shaped_intL [], _, rfl, ?_⟩
      rw [eqv_nil]
      refine iteT ?_
      refine ⟨_, rfl, Dd, _, 0, .int p, rfl, rfl, .inl (.inl (s8 _ _ hD6)), at_of (j := 0) rfl rfl, .inl ⟨p, rfl, hlog, ?_⟩⟩
      refine ⟨rfl, _, rfl, ?_⟩
      rw [decide_eq_true (rfl : V.str (toString p) = V.str (toString p))]
      refine iteF ?_
      exact fin _ s8
end
end Hue
namespace Hue
open L2 PySem.Spec PySem PyProof.Rows
def spVotes : Sp := fun vs H Q _ => ∃ (st g c : Addr) (t : Nat), vs = [.ref st] ∧ StAt H st g c t ∧ t < 2 ^ 39 ∧
  ∀ (ns : List Nat) (a : Addr) (t' : Nat) (H' : Hp), votesOk ns → t' ≤ t + 11 → StAt H' st g c t' → Kp st g H H' → H a = none → H' a = some (.tup (ns.map fun n : Nat => V.int (n : Int))) → Q (.ref a) H'
section
variable {P : Program} {w : World} {K : PySem.W.Frag} {mg : Str → Option Value} {base : Heap}
theorem scVotes : FnScope ["state", "hues", "found", "width", "least"] ["state"] (defScope sVotes) := ⟨rfl, rfl, rfl, by decide +kernel, rfl, by decide +kernel, by decide +kernel⟩
theorem df_votes (X : Tx K mg "_law_votes" sVotes ["state"]) (D : Df P w K mg base 3 "_law_pick" ["state", "some"] (spPick K)) (D2 : Df P w K mg base 2 "_law_draw" ["state", "room"] spDraw) (T : Bt mg) : Df P w K mg base 4 "_law_votes" ["state"] spVotes := by
  obtain ⟨fp, fdp, G_law_pick, g_law_pick, k_law_pick, b_law_pick⟩ := D
  obtain ⟨fd, fdd, G_law_draw, g_law_draw, k_law_draw, b_law_draw⟩ := D2.mono (by decide : 2 ≤ 3)
  refine X.df fun f fd F => F.ok scVotes (fun vs H Q E h => ?_) (fun cdv A outer s H vs Q E hr h => ?_)
  · obtain ⟨st, g, c, t, rfl, _⟩ := h
    rfl
  · obtain ⟨st, g, c, t, rfl, S, ht, q⟩ := h
    have nd := scVotes.nd
    refine ⟨_, pss_cons (ps_par (i := 1) (j := 2) (by rfl) nd rfl rfl (by decide) rfl rfl (pa_cons (pe_call G_law_pick hr rfl g_law_pick k_law_pick b_law_pick .nil pass0 (pa_cons (pv 0) (pa_cons (pe_lst (pa_cons pe_int (pa_cons pe_int (pa_cons pe_int (pa_cons pe_int (pa_cons pe_int (pa_cons pe_int (pa_cons pe_int pa_nil)))))))) pa_nil))) (pa_cons (pe_lst pa_nil) pa_nil)) (by rfl))
      (pss_cons (ps_for PassesOwn.never rfl (pi_range2 (by rfl) T.range (pa_cons pe_int (pa_cons (pe_op op_add (pv 1) pe_int) pa_nil))) (pg_name (i := 3) nd rfl (.inl rfl))
      (pss_cons (ps_set (i := 4) nd rfl (.inl rfl) (pe_op op_add (pe_op op_fdivN (pv 3) pe_int) pe_int))
        (pss_one (ps_expr (pe_bm PySem.F.plainAttrs_list PySem.F.slot_list_append PySem.F.type_list_append mt_append (pv 2) (pa_cons (pe_call G_law_pick hr rfl g_law_pick k_law_pick b_law_pick .nil pass0 (pa_cons (pv 0) (pa_cons (pe_lst (pa_cons (pv 4) (pa_cons (pv 3) (pa_cons (pe_op op_add (pv 4) (pe_call G_law_draw hr rfl g_law_draw k_law_draw b_law_draw .nil pass0 (pa_cons (pv 0) (pa_cons (pe_op op_sub (pv 3) (pe_op op_fdivN (pv 3) pe_int)) pa_nil)))) pa_nil)))) pa_nil))) pa_nil))))))
      (pss_one (ps_ret (pe_callTy call_tuple_of (by rfl) T.tuple (by decide +kernel) (pa_cons (pv 2) pa_nil))))), ?_⟩
    refine ⟨_, rfl, by decide, fun p hp => ?_⟩
    obtain ⟨n1, n2⟩ := S.new hp
    refine ⟨st, g, c, p, t, _, rfl, S.same (same_new hp), by omega, .inl (.inl upd_same), n1, n2, by decide, by decide, fun i v t1 H1 hi ht1 S1 k1 => ?_⟩
    have hv : ∃ n : Nat, v = .int (n : Int) ∧ 1 ≤ n ∧ n ≤ 5 := by
      have hm := List.mem_of_getElem? hi
      simp only [List.mem_cons, List.not_mem_nil, or_false] at hm
      rcases hm with rfl | rfl | rfl | rfl | rfl | rfl | rfl
      · exact ⟨3, rfl, by decide, by decide⟩
      · exact ⟨2, rfl, by decide, by decide⟩
      · exact ⟨3, rfl, by decide, by decide⟩
      · exact ⟨1, rfl, by decide, by decide⟩
      · exact ⟨5, rfl, by decide, by decide⟩
      · exact ⟨4, rfl, by decide, by decide⟩
      · exact ⟨2, rfl, by decide, by decide⟩
    obtain ⟨n, rfl, hn1, hn5⟩ := hv
    have k0 : Kp st g H H1 := (Kp.of (same_new hp)).trans k1
    refine ⟨by decide, fun D hD => ⟨_, _, rfl, ?_⟩⟩
    have hDH := k0.free S1 hD
    obtain ⟨nD1, nD2⟩ := S1.new hD
    have nD3 := S1.newc hD
    refine ⟨_, rfl, _, _, rfl, rfl, 1, (n : Int) + 1, rfl, ⟨by decide, by decide, by omega, by omega⟩, ?_⟩
    rw [show ((n : Int) + 1 - 1).toNat = n by omega]
    refine for_range (lo := 1) (n := n) (fun i σ H' => ∃ (ns : List Nat) (t2 : Nat) (x3 x4 : Option V), σ = [some (.ref st), some (.int (n : Int)), some (.ref D), x3, x4] ∧ ns.length = i ∧ (∀ j v, ns[j]? = some v → v ≤ j + 1 ∧ j + 1 < 2 * v) ∧ t2 ≤ t1 + 2 * i ∧ H' D = some (.lst (ns.map fun n : Nat => V.int (n : Int))) ∧ StAt H' st g c t2 ∧ Kp st g H H')
      ⟨[], t1, none, none, rfl, rfl, fun j v h => (by simp at h), Nat.le_refl _, upd_same, S1.same (same_new hD), k0.trans (Kp.of (same_new hD))⟩ (fun i σ H' hi h => ?_) (fun σ H' h => ?_)
    · obtain ⟨ns, t2, x3, x4, rfl, hl, hb, ht2, hd, S2, k2⟩ := h
      -- least
      refine ⟨_, rfl, _, _, rfl, rfl, ⟨by decide, by decide⟩, _, _, rfl, rfl, ?_⟩
      -- the list of three, the draw within
      have e1 : (1 + (i : Int)).fdiv 2 = (((i + 1) / 2 : Nat) : Int) := by
        rw [Int.fdiv_eq_ediv_of_nonneg _ (by decide)]
        omega
      refine ⟨_, rfl, .inl ⟨rfl, _, .inl (.inl hd)⟩, _, rfl, _, rfl, _, rfl, _, rfl, _, rfl, _, rfl, _, rfl, _, _, rfl, rfl, ⟨by decide, by decide⟩, _, _, rfl, rfl, st, g, c, t2, _, rfl, S2, by omega, by omega, by omega, fun v t3 H3 hv0 hv1 ht3 S3 k3 => ?_⟩
      refine ⟨_, _, rfl, rfl, by show 3 ≤ sizeLine; decide, fun p3 hp3 => ?_⟩
      obtain ⟨m1, m2⟩ := S3.new hp3
      refine ⟨st, g, c, p3, t3, _, rfl, S3.same (same_new hp3), by omega, .inl (.inl upd_same), m1, m2, (by show 0 < 3; decide), (by show 3 < 2 ^ 20; decide), fun j u t4 H4 hj ht4 S4 k4 => ?_⟩
      have hu : ∃ m : Nat, u = .int (m : Int) ∧ m ≤ i + 1 ∧ i + 1 < 2 * m := by
        have hm := List.mem_of_getElem? hj
        simp only [List.mem_cons, List.not_mem_nil, or_false] at hm
        rcases hm with rfl | rfl | rfl
        · exact ⟨(i + 1) / 2 + 1, by rw [e1]; congr 1, by omega, by omega⟩
        · exact ⟨i + 1, by congr 1; omega, by omega, by omega⟩
        · refine ⟨(i + 1) / 2 + 1 + v.toNat, ?_, ?_, ?_⟩
          · rw [e1]
            congr 1
            omega
          · omega
          · omega
      obtain ⟨m, rfl, hm1, hm2⟩ := hu
      have hd4 : H4 D = some (.lst (ns.map fun n : Nat => V.int (n : Int))) := k4 _ _ nD1 nD2 (same_new hp3 _ _ (k3 _ _ nD1 nD2 hd))
      refine ⟨_, _, _, rfl, rfl, hd4, by rw [List.length_map]; exact small1000 (by omega), ns ++ [m], t4, _, _, rfl, by rw [List.length_append, hl]; rfl, fun j v hjv => ?_, by omega, by rw [upd_same, List.map_append]; rfl, S4.upd nD1 nD2 nD3, (((k2.trans k3).trans (Kp.of (same_new hp3))).trans k4).mut hDH⟩
      by_cases hlt : j < ns.length
      · rw [List.getElem?_append_left hlt] at hjv
        exact hb j v hjv
      · rw [List.getElem?_append_right (by omega)] at hjv
        have hj0 : j - ns.length = 0 := by
          by_cases z : j - ns.length = 0
          · exact z
          · rw [List.getElem?_eq_none (by show 1 ≤ _; omega)] at hjv
            cases hjv
        rw [hj0] at hjv
        have ev : m = v := Option.some.inj hjv
        subst ev
        omega
    · obtain ⟨ns, t2, x3, x4, rfl, hl, hb, ht2, hd, S2, k2⟩ := h
      refine ⟨_, rfl, D, _, rfl, .inl ⟨.inl (.inl hd), fun r hr' => ?_⟩⟩
      have k3 := k2.trans (Kp.of (same_new (o := .tup (ns.map fun n : Nat => V.int (n : Int))) hr'))
      exact q ns r t2 _ ⟨by omega, by omega, hb⟩ (by omega) (S2.same (same_new hr')) k3 (k2.free S2 hr') upd_same
end
end Hue
namespace Hue
open L2 PySem.Spec PySem PyProof.Rows
theorem StAt.out {H H' : Hp} {st g c : Addr} {t : Nat} {F : Addr → Prop} (S : StAt H st g c t) (o : ¬ F st ∧ ¬ F g ∧ ¬ F c) (k : ∀ b u, ¬ F b → H b = some u → H' b = some u) : StAt H' st g c t := by
  obtain ⟨n, gs, cs, r, h1, h2, h3⟩ := S
  exact ⟨n, gs, cs, r, k _ _ o.1 h1, k _ _ o.2.1 h2, k _ _ o.2.2 h3⟩
theorem for_enum {K : PySem.W.Frag} {a : Addr} {xs : List V} {g : TG} {tb : TS} {D : Ends} {σ : L2.St} {H : Hp} (Pv : Nat → L2.St → Hp → Prop) (h0 : Pv 0 σ H) (hq : ∀ i σ H, i ≤ xs.length → Pv i σ H → SqL K H a xs) (hs : ∀ (i : Nat) (x : V) (T : Addr) (σ : L2.St) (H : Hp), xs[i]? = some x → Pv i σ H → H T = none → g (.ref T) σ (upd H T (.tup [.int (i : Int), x])) fun σ2 H2 => tb { D with nx := Pv (i + 1), ct := Pv (i + 1), bk := D.nx } σ2 H2) (hd : ∀ σ H, Pv xs.length σ H → D.nx σ H) : ∃ W : Nat → Nat → L2.St → Hp → Prop, (∃ m, W 0 m σ H) ∧ ∀ i m σ H, W i m σ H → ((Ite K a).stop i H ∧ D.nx σ H) ∨ ((Ite K a).go i H ∧ ∃ N : L2.St → Hp → Prop, (∀ σ' H', N σ' H' → ∃ m', m' < m ∧ W (i + 1) m' σ' H') ∧ ∀ v H', (Ite K a).yld i H v H' → g v σ H' fun σ2 H2 => tb { D with nx := N, ct := N, bk := D.nx } σ2 H2) := by
  refine ⟨fun i m σ H => m = xs.length - i ∧ i ≤ xs.length ∧ Pv i σ H, ⟨xs.length, rfl, Nat.zero_le _, h0⟩, fun i m σ H hw => ?_⟩
  obtain ⟨em, hi, p⟩ := hw
  subst em
  have q := hq i σ H hi p
  by_cases hlt : i < xs.length
  · have hx : xs[i]? = some xs[i] := List.getElem?_eq_getElem hlt
    refine .inr ⟨⟨xs, _, q, hx⟩, Pv (i + 1), fun σ' H' p' => ⟨xs.length - (i + 1), by omega, rfl, hlt, p'⟩, fun v H' y => ?_⟩
    obtain ⟨T, x, ev, hT, eH, fx⟩ := y
    subst ev eH
    exact hs i x T σ H (fx xs q) p hT
  · have e : i = xs.length := by omega
    subst e
    exact .inl ⟨⟨xs, q, Nat.le_refl _⟩, hd σ H p⟩
def spRight : Sp := fun vs H Q _ => ∃ (st g c : Addr) (t : Nat), vs = [.ref st] ∧ StAt H st g c t ∧ t < 2 ^ 39 ∧ ∀ (t' : Nat) (H' : Hp), t' ≤ t + 100 → StAt H' st g c t' → Q (.bl true) H'
section
variable {P : Program} {w : World} {K : PySem.W.Frag} {mg : Str → Option Value} {base : Heap}
/-- the strikes -/
theorem blk_str {f : Addr} {cdv : Value} {A : Around} {outer : List Env} {s : Shared} {H0 : Hp} {E : XK} {C : Addr} {Rep : RepT} (hr : Room 31 (A.deeper (envOfC "_law_mk_pointers_right" (defScope sRight) s.heap.objs.size f cdv))) (O : MOps P w K mg base 30 C Rep) (T : Bt mg)
    (DA : Df P w K mg base 1 "_law_mk_agreed" ["values", "need"] (spAgreed K)) (D2 : Df P w K mg base 2 "_law_draw" ["state", "room"] spDraw) (D3 : Df P w K mg base 3 "_law_pick" ["state", "some"] (spPick K)) :
    ∃ t, PSs (cxOf CX0 P w K mg base N13 "_law_mk_pointers_right" (defScope sRight) f cdv A outer s H0 E).nox (bRight.drop 5) t ∧
      ∀ (vs cs : List Nat) (crefs : List V) (st g c av ac am : Addr) (t0 stp : Nat) (H : Hp) (M0 : Mac) (F : Addr → Prop) (D : Ends) (x2 x8 x9 x10 x11 x12 x13 x14 x15 x16 : Option V),
        votesOk vs → cs.length = 6 → (∀ d ∈ cs, d < vs.length) → Rep H am M0 F → S13 (code13 vs cs) M0 stp [5] → stp < 4 → StAt H st g c t0 → t0 < 2 ^ 39 + 50 → ¬ F st ∧ ¬ F g ∧ ¬ F c → SqT K H av (vs.map fun n : Nat => V.int (n : Int)) → SqT K H ac crefs → DpAll K H crefs ((code13 vs cs).cells.map celD) →
        (∀ t' H', t' ≤ t0 + 10 → StAt H' st g c t' → D.rt (.bl true) H') →
        t D [some (.ref st), some (.ref av), x2, some (.int (vs.length : Int)), some (.int 6), some (.ref ac), some (.ref am), some (.int (stp : Int)), x8, x9, x10, x11, x12, x13, x14, x15, x16] H := by
  obtain ⟨tR, pR, qR⟩ := blk_mid (H0 := H0) (E := E) (outer := outer) hr O T DA
  obtain ⟨f2, fd2, G_law_draw, g_law_draw, k_law_draw, b_law_draw⟩ := D2
  obtain ⟨f3, fd3, G_law_pick, g_law_pick, k_law_pick, b_law_pick⟩ := D3
  obtain ⟨fk, fdk, gk, gV, G_strike, m_strike, b_strike, hgV⟩ := O.strike
  have nd := scRight.nd
  refine ⟨_, pss_cons (ps_set (i := 8) nd rfl (.inr rfl) (pe_lst (pa_cons (pe_call G_law_draw (hr.mono (by decide)) rfl g_law_draw k_law_draw b_law_draw .nil pass0 (pa_cons (pv 0) (pa_cons (pv 4) pa_nil))) (pa_cons (pv 7) (pa_cons (pe_call G_law_pick (hr.mono (by decide)) rfl g_law_pick k_law_pick b_law_pick .nil pass0 (pa_cons (pv 0) (pa_cons (pe_lst (pa_cons (pv 4) (pa_cons pe_int (pa_cons pe_int pa_nil)))) pa_nil))) pa_nil))))) (pss_cons (ps_setLc (i := 10) (own := [("hue", 9)]) (g := gName 9) (by rfl) nd rfl rfl (sw_true rfl rfl rfl (by decide +kernel)) (pi_range1 (by rfl) T.range (pa_cons (pv 3) pa_nil)) (blkOk_by (own := [("hue", 9)]) (N := ["state", "votes", "size", "hues", "many", "cells", "machine", "steps", "some", "hue", "pointers", "pointer", "before", "at", "agreed", "same", "spot"]) (sc := defScope sRight) (by decide +kernel)) (fun _ _ _ _ _ => pg_name (i := 9) nd rfl (Or.inl rfl))
          (fun _ _ _ _ _ => pts_nil)
          (fun _ _ _ _ _ => pe_call G_law_pick (hr.mono (by decide)) rfl g_law_pick k_law_pick b_law_pick .nil pass0 (pa_cons (pv 0) (pa_cons (pv 8) pa_nil)))) (pss_cons (ps_for PassesOwn.never rfl (pi_enum (by rfl) T.enumerate (pa_cons (pv 10) pa_nil)) (pg_tup (by rfl) (pgs_cons (pg_name (i := 9) nd rfl (.inl rfl)) (pgs_cons (pg_name (i := 11) nd rfl (.inl rfl)) pgs_nil)))
      (pss_one (ps_expr (pe_methKw (pv 6) O.cls m_strike G_strike (hr.mono (by decide)) b_strike pass0 (pk_cons (pv 11) (pk_cons (pe_tup (pa_cons pe_str pa_nil)) (pk_cons (pv 9) pk_nil))))))) pR)), ?_⟩
  intro vs cs crefs st g c av ac am t0 stp H M0 F D x2 x8 x9 x10 x11 x12 x13 x14 x15 x16 hv hcs hcd rep S0 hstp S ht0 oF hav hac hcr q
  have hv1 := hv.1
  have hv5 := hv.2.1
  have hM0 : M0.hues.length = vs.length := by rw [S0.at_.len, S0.code]; rfl
  have mv : ∀ {H' : Hp} {t t' : Nat}, StAt H' st g c t → Kp st g H H' → Rep H' am M0 F := fun S' k => O.frame _ _ _ _ _ rep fun b o hb e => hb.elim (fun hb => k b o (fun z => oF.1 (by rw [← z]; exact hb)) (fun z => oF.2.1 (by rw [← z]; exact hb)) e) fun ht => Tk.kp S k b o ht e
  have lvF := O.live _ _ _ _ rep
  -- some
  refine ⟨_, rfl, _, rfl, st, g, c, t0, 6, rfl, S, by omega, by decide, by decide, fun a1 t1 H1 ha0 ha1 ht1 S1 k1 => ?_⟩
  refine ⟨_, rfl, _, rfl, _, rfl, (show 3 ≤ sizeLine by decide), fun p2 hp2 => ?_⟩
  obtain ⟨n21, n22⟩ := S1.new hp2
  refine ⟨st, g, c, p2, t1, _, rfl, S1.same (same_new hp2), by omega, .inl (.inl upd_same), n21, n22, (show 0 < 3 by decide), (show 3 < 2 ^ 20 by decide), fun i2 v2 t2 H2 hi2 ht2 S2 k2 => ?_⟩
  have hv2 : ∃ z : Int, v2 = .int z ∧ 0 ≤ z ∧ z ≤ 9999 := by
    have hm := List.mem_of_getElem? hi2
    simp only [List.mem_cons, List.not_mem_nil, or_false] at hm
    rcases hm with rfl | rfl | rfl
    · exact ⟨_, rfl, by decide, by decide⟩
    · exact ⟨_, rfl, by decide, by decide⟩
    · exact ⟨_, rfl, by decide, by decide⟩
  obtain ⟨a2, rfl, ha20, ha21⟩ := hv2
  have k12 := (k1.trans (Kp.of (same_new (o := .lst [V.int 6, V.int 9999, V.int 0]) hp2))).trans k2
  refine ⟨(show 3 ≤ sizeLine by decide), fun so hso => ?_⟩
  obtain ⟨nso1, nso2⟩ := S2.new hso
  have nso3 := S2.newc hso
  have S2' := S2.same (same_new (o := .lst [V.int a1, V.int (stp : Int), V.int a2]) hso)
  have k2' := k12.trans (Kp.of (same_new (o := .lst [V.int a1, V.int (stp : Int), V.int a2]) hso))
  have hso2 : (upd H2 so (.lst [V.int a1, V.int (stp : Int), V.int a2])) so = some (.lst [V.int a1, V.int (stp : Int), V.int a2]) := upd_same
  generalize upd H2 so (.lst [V.int a1, V.int (stp : Int), V.int a2]) = H3 at *
  -- pointers
  refine ⟨_, rfl, (vs.length : Int), rfl, by omega, by omega, fun Dp_ hDp => ?_⟩
  obtain ⟨nD1, nD2⟩ := S2'.new hDp
  have nD3 := S2'.newc hDp
  have hDH : H Dp_ = none := k2'.free S2' hDp
  have nsD : so ≠ Dp_ := ne_of_none hso2 hDp
  rw [Int.toNat_natCast]
  refine lc_range (lo := 0) (n := vs.length) (fun i H' => ∃ (t : Nat) (ps : List Int), H' Dp_ = some (.lst (ps.map V.int)) ∧ ps.length = i ∧ (∀ p ∈ ps, 0 ≤ p ∧ p ≤ 9999) ∧ StAt H' st g c t ∧ t ≤ t2 + i ∧ Kp st g H H' ∧ H' so = some (.lst [V.int a1, V.int (stp : Int), V.int a2]))
    ⟨t2, [], upd_same, rfl, fun p hp => absurd hp List.not_mem_nil, S2'.same (same_new hDp), Nat.le_refl _, k2'.mut hDH, by rw [upd_ne nsD]; exact hso2⟩ (fun i H' hi h => ?_) (fun H4 h => ?_)
  · obtain ⟨t, ps, e1, e2, e3, S4, ht4, k4, e5⟩ := h
    refine ⟨rfl, _, rfl, _, rfl, st, g, c, so, t, _, rfl, S4, by omega, .inl (.inl e5), nso1, nso2, (show 0 < 3 by decide), (show 3 < 2 ^ 20 by decide), fun j v t5 H5 hj ht5 S5 k5 => ?_⟩
    have hv5' : ∃ z : Int, v = .int z ∧ 0 ≤ z ∧ z ≤ 9999 := by
      have hm := List.mem_of_getElem? hj
      simp only [List.mem_cons, List.not_mem_nil, or_false] at hm
      rcases hm with rfl | rfl | rfl
      · exact ⟨_, rfl, ha0, by omega⟩
      · exact ⟨_, rfl, by omega, by omega⟩
      · exact ⟨_, rfl, ha20, ha21⟩
    obtain ⟨z, rfl, hz0, hz1⟩ := hv5'
    have e1' := k5 _ _ nD1 nD2 e1
    refine ⟨_, e1', by rw [List.length_map]; exact small1000 (by omega), t5, ps ++ [z], by rw [upd_same, List.map_append]; rfl, by rw [List.length_append, e2]; rfl, fun p hp => ?_, S5.upd nD1 nD2 nD3, by omega, (k4.trans k5).mut hDH, by rw [upd_ne nsD]; exact k5 _ _ nso1 nso2 e5⟩
    rcases List.mem_append.mp hp with y | y
    · exact e3 p y
    · rw [List.mem_singleton.mp y]
      exact ⟨hz0, hz1⟩
  · obtain ⟨t4, ps, e1, e2, e3, S4, ht4, k4, e5⟩ := h
    have rep4 : Rep H4 am M0 F := O.frame _ _ _ _ _ rep fun b o hb e => hb.elim (fun hb => k4 b o (fun z => oF.1 (by rw [← z]; exact hb)) (fun z => oF.2.1 (by rw [← z]; exact hb)) e) fun ht => Tk.kp S k4 b o ht e
    have nFD : ¬ F Dp_ := fun z => by
      obtain ⟨o, ho⟩ := lvF _ z
      rw [ho] at hDH
      cases hDH
    have tk4 : Tk H H4 := Tk.kp S k4
    -- the strikes
    refine ⟨_, rfl, Dp_, _, rfl, .inl (.inl e1), ?_⟩
    refine for_enum (xs := ps.map V.int) (fun j σ H' => ∃ (M : Mac) (F' : Addr → Prop) (y9 y11 : Option V), σ = [some (.ref st), some (.ref av), x2, some (.int (vs.length : Int)), some (.int 6), some (.ref ac), some (.ref am), some (.int (stp : Int)), some (.ref so), y9, some (.ref Dp_), y11, x12, x13, x14, x15, x16] ∧
        Rep H' am M F' ∧ P13 (code13 vs cs) M0 M ps j ∧ (∀ b o, ¬ F b → H4 b = some o → H' b = some o ∧ ¬ F' b) ∧ Tk H4 H')
      ⟨M0, F, _, _, rfl, rep4, P13.begun S0 ps, fun b o n e => ⟨e, n⟩, Tk.refl _⟩ (fun j σ H' _ hh => ?_) (fun j x tp σ H' hx hh hT => ?_) (fun σ H' hh => ?_)
    · obtain ⟨M, F', y9, y11, rfl, rp, T1, k, kt⟩ := hh
      exact .inl (.inl (k _ _ nFD e1).1)
    · obtain ⟨M, F', y9, y11, rfl, rp, T1, k, kt⟩ := hh
      rw [List.getElem?_map] at hx
      obtain ⟨z, hz, ez⟩ := Option.map_eq_some_iff.mp hx
      subst ez
      have hjl : j < ps.length := (List.getElem?_eq_some_iff.mp hz).1
      have hzb := e3 z (List.mem_of_getElem? hz)
      refine ⟨tp, [.int (j : Int), .int z], rfl, .inl (.inl upd_same), rfl, .int (j : Int), [.int z], rfl, .int z, [], rfl, rfl, ?_⟩
      have sm : Same H' (upd H' tp (.tup [.int (j : Int), .int z])) := same_new hT
      have rp1 := O.frame _ _ _ _ _ rp fun b o _ e => sm _ _ e
      obtain ⟨dx, fs1, hins, hFa, l1, l2, l3, l4, l5, l6⟩ := O.ins _ _ _ _ rp1
      refine ⟨_, rfl, am, dx, fs1, rfl, hins, l2, _, rfl, (show 1 ≤ sizeLine by decide), fun p6 hp6 => ⟨_, rfl, rfl, ?_⟩⟩
      have s6 : Same _ (upd (upd H' tp (.tup [.int (j : Int), .int z])) p6 (.tup [.str "pointer"])) := same_new hp6
      rw [hgV]
      have hjh : j < M.code.h := by
        rw [T1.code]
        show j < vs.length
        omega
      refine ⟨am, j, .ref p6, .int z, .ptr, .num z, M, F', rfl, O.frame _ _ _ _ _ rp1 fun b o _ e => s6 _ _ e, hjh, .tup (.inl (.inl upd_same)) (.cons (.str _) .nil), .int z, hzb, trivial, fun F2 H7 rp2 ch => ?_⟩
      refine ⟨_, F2, _, _, rfl, rp2, T1.strike hz, fun b o n e => ?_, kt.trans ((Tk.same (sm.trans s6)).trans ch.tk)⟩
      obtain ⟨g1, g2⟩ := k b o n e
      have g3 := s6 _ _ (sm _ _ g1)
      refine ⟨ch.keep _ _ g2 g3, fun y => ?_⟩
      rcases ch.sub b y with u | u
      · exact g2 u
      · rw [g3] at u
        cases u
    · obtain ⟨M, F', y9, y11, rfl, rp, T1, k, kt⟩ := hh
      rw [List.length_map] at T1
      have tkA := tk4.trans kt
      refine qR vs cs ps crefs st av ac am so Dp_ stp H' M0 M F' D x2 _ _ x12 x13 x14 x15 x16 hv hcs hcd rp T1 e2 hM0 S0.hue S0.steps S0.left e3 (tkA.seq hav) (k _ _ nFD e1).1 (tkA.seq hac) ?_ fun H9 k9 => ?_
      · refine dps_tk tkA _ _ ?_ hcr
        show noLs ((cs.zipIdx.map fun x => Cel.ins x.1 (.set 3 (10 + (x.2 : Int)))).map celD) = true
        rw [List.map_map]
        exact noLs_map _ (fun x => rfl) _
      · refine q t4 H9 (by omega) ?_
        obtain ⟨n, gs, cs', r, h1, h2, h3⟩ := S4
        have go : ∀ b o, ¬ F b → H4 b = some o → H9 b = some o := fun b o nb e => by
          obtain ⟨g1, g2⟩ := k b o nb e
          exact k9 _ _ g2 g1
        exact ⟨n, gs, cs', r, go _ _ oF.1 h1, go _ _ oF.2.1 h2, go _ _ oF.2.2 h3⟩
end
end Hue
namespace Hue
open L2 PySem.Spec PySem PyProof.Rows
def spLaw (K : PySem.W.Frag) : Sp := fun vs H Q _ => ∃ (a : Addr) (ns : List Int), vs = [.ref a] ∧ SqL K H a (ns.map V.int) ∧ ns.length ≤ 63 ∧ ∀ H', Q (.bl true) H'
section
variable {P : Program} {w : World} {K : PySem.W.Frag} {mg : Str → Option Value} {base : Heap}
theorem df_right (X : Tx K mg "_law_mk_pointers_right" sRight ["state"]) {C : Addr} {Rep : RepT} (O : MOps P w K mg base 30 C Rep) (T : Bt mg)
    (DA : Df P w K mg base 1 "_law_mk_agreed" ["values", "need"] (spAgreed K)) (D2 : Df P w K mg base 2 "_law_draw" ["state", "room"] spDraw) (D3 : Df P w K mg base 3 "_law_pick" ["state", "some"] (spPick K)) (D4 : Df P w K mg base 4 "_law_votes" ["state"] spVotes) :
    Df P w K mg base 32 "_law_mk_pointers_right" ["state"] spRight := by
  obtain ⟨f2, fd2, G_law_draw, g_law_draw, k_law_draw, b_law_draw⟩ := id D2
  obtain ⟨f4, fd4, G_law_votes, g_law_votes, k_law_votes, b_law_votes⟩ := D4
  obtain ⟨fI, fdI, dvI, eI, G_init, m_init, b_init, hE⟩ := O.init
  obtain ⟨fg, fdg, G_go, m_go, b_go⟩ := O.go
  refine X.df fun f fd F => F.ok scRight (fun vs H Q E h => ?_) (fun cdv A outer s H vs Q E hr h => ?_)
  · obtain ⟨st, g, c, t, rfl, _⟩ := h
    rfl
  · obtain ⟨st, g, c, t, rfl, S, ht, q⟩ := h
    have nd := scRight.nd
    obtain ⟨tR, pR, qR⟩ := blk_str (H0 := H) (E := E) (outer := outer) hr O T DA D2 D3
    refine ⟨_, pss_cons (ps_par (i := 1) (j := 2) (by rfl) nd rfl rfl (by decide) rfl rfl (pa_cons (pe_call G_law_votes (hr.mono (by decide)) rfl g_law_votes k_law_votes b_law_votes .nil pass0 (pa_cons (pv 0) pa_nil)) (pa_cons pe_int pa_nil)) (by rfl)) (pss_cons (ps_asg (pe_tup (pa_cons (pe_callB call_len_seq (by rfl) T.len PySem.boot_len (pa_cons (pv 1) pa_nil)) (pa_cons pe_int pa_nil))) (pg_tup (by rfl) (pgs_cons (pg_name (i := 3) nd rfl (.inr rfl)) (pgs_cons (pg_name (i := 4) nd rfl (.inr rfl)) pgs_nil)))) (pss_cons (ps_set (i := 5) nd rfl (.inl rfl) (pe_callTy call_tuple_of (by rfl) T.tuple (by decide +kernel) (pa_cons (pe_lc (own := [("spot", 16)]) (g := gName 16) (by rfl) nd (pi_range1 (by rfl) T.range (pa_cons (pv 4) pa_nil)) (blkOk_by (own := [("spot", 16)]) (N := ["state", "votes", "size", "hues", "many", "cells", "machine", "steps", "some", "hue", "pointers", "pointer", "before", "at", "agreed", "same", "spot"]) (sc := defScope sRight) (by decide +kernel)) (fun _ _ _ _ _ => pg_name (i := 16) nd rfl (Or.inl rfl))
          (fun _ _ _ _ _ => pts_nil)
          (fun _ _ _ _ _ => pe_tup (pa_cons (pe_call G_law_draw (hr.mono (by decide)) rfl g_law_draw k_law_draw b_law_draw .nil pass0 (pa_cons (pv 0) (pa_cons (pv 3) pa_nil))) (pa_cons pe_str (pa_cons pe_int (pa_cons (pe_op op_add pe_int (pv 16)) pa_nil)))))) pa_nil))) (pss_cons (ps_par (i := 6) (j := 7) (by rfl) nd rfl rfl (by decide) rfl rfl (pa_cons (pe_make m_init G_init hr rfl O.gC b_init (.cons (show L2.RelV (V.ref eI) (Value.ref eI) from rfl) .nil) pass0 (pa_cons (pe_tup (pa_cons (pv 1) (pa_cons (pv 2) (pa_cons (pv 5) (pa_cons (pe_tup pa_nil) pa_nil))))) (pa_cons (pe_lst (pa_cons pe_int pa_nil)) pa_nil))) (pa_cons (pe_call G_law_draw (hr.mono (by decide)) rfl g_law_draw k_law_draw b_law_draw .nil pass0 (pa_cons (pv 0) (pa_cons pe_int pa_nil))) pa_nil)) (by rfl)) (pss_cons (ps_expr (pe_meth (pv 6) O.cls m_go G_go (hr.mono (by decide)) b_go .nil pass0 (pa_cons (pv 7) pa_nil))) pR)))), ?_⟩
    refine ⟨_, rfl, st, g, c, t, rfl, S, by omega, fun vs av t1 H1 hvs ht1 S1 k1 nav hav => ⟨_, _, rfl, ?_⟩⟩
    have hv1 := hvs.1
    have hv5 := hvs.2.1
    refine ⟨_, rfl, av, _, rfl, .inr (.inl (.inl hav)), (show 2 ≤ sizeLine by decide), fun p hp => ?_⟩
    have sp : Same H1 (upd H1 p (.tup [V.int ((vs.map fun n : Nat => V.int (n : Int)).length : Int), V.int 6])) := same_new hp
    refine ⟨p, [.int ((vs.map fun n : Nat => V.int (n : Int)).length : Int), .int 6], rfl, .inl (.inl upd_same), rfl, _, [.int 6], rfl, .int 6, [], rfl, rfl, ?_⟩
    have hlen : (vs.map fun n : Nat => V.int (n : Int)).length = vs.length := List.length_map _
    have S2 := S1.same sp
    have hav2 := sp _ _ hav
    generalize upd H1 p (.tup [V.int ((vs.map fun n : Nat => V.int (n : Int)).length : Int), V.int 6]) = H2 at *
    rw [hlen]
    -- cells
    refine ⟨_, rfl, 6, rfl, by decide, by decide, fun D hD => ?_⟩
    obtain ⟨nD1, nD2⟩ := S2.new hD
    have nD3 := S2.newc hD
    refine lc_range (lo := 0) (n := 6) (fun i H' => ∃ (t' : Nat) (cs : List Nat) (xs : List V), H' D = some (.lst xs) ∧ DpAll K H' xs ((cs.zipIdx.map fun x => Cel.ins x.1 (.set 3 (10 + (x.2 : Int)))).map celD) ∧ cs.length = i ∧ (∀ d ∈ cs, d < vs.length) ∧ StAt H' st g c t' ∧ t' ≤ t1 + i ∧ Tk H2 H')
      ⟨t1, [], [], upd_same, .nil, rfl, fun d hd => absurd hd List.not_mem_nil, S2.same (same_new hD), Nat.le_refl _, Tk.new hD⟩ (fun i H' hi h => ?_) (fun H3 h => ?_)
    · obtain ⟨t', cs, xs, e1, e2, e3, e4, S3, ht3, k3⟩ := h
      refine ⟨rfl, _, rfl, _, rfl, st, g, c, t', _, rfl, S3, by omega, by omega, by omega, fun v t4 H4 hv0 hv1 ht4 S4 k4 => ?_⟩
      refine ⟨_, rfl, _, _, rfl, rfl, (show 4 ≤ sizeLine by decide), fun p5 hp5 => ?_⟩
      have e1' := k4 _ _ nD1 nD2 e1
      have n5 : D ≠ p5 := ne_of_none e1' hp5
      have kA : Tk H' (upd (upd H4 p5 (.tup [V.int v, V.str "set", V.int 3, V.int (10 + (0 + (i : Int)))])) D (.lst (xs ++ [.ref p5]))) := ((Tk.kp S3 k4).trans (Tk.new hp5)).trans (Tk.lst (xs := xs) (by rw [upd_ne n5]; exact e1'))
      have hxl : xs.length = i := by
        have := dps_len e2
        rw [List.length_map, List.length_map, List.length_zipIdx, e3] at this
        exact this
      refine ⟨_, by rw [upd_ne n5]; exact e1', small1000 (by omega), t4, cs ++ [v.toNat], xs ++ [.ref p5], upd_same, ?_, by rw [List.length_append, e3]; rfl, fun d hd => ?_, (S4.same (same_new hp5)).upd nD1 nD2 nD3, by omega, k3.trans kA⟩
      · rw [List.zipIdx_append, List.map_append, List.map_append]
        refine dps_app (dps_tk kA _ _ ?_ e2) (.cons (.tup (.inl (.inl (by rw [upd_ne n5.symm, upd_same]))) ?_) .nil)
        · rw [List.map_map]
          exact noLs_map _ (fun x => rfl) _
        · refine .cons ?_ (.cons (.str _) (.cons (.int _) (.cons ?_ .nil)))
          · show Dp K _ (.int v) (.int ((v.toNat : Nat) : Int))
            rw [Int.toNat_of_nonneg hv0]
            exact .int v
          · show Dp K _ (.int (10 + (0 + (i : Int)))) (.int (10 + ((0 + cs.length : Nat) : Int)))
            rw [e3, show (10 + (0 + (i : Int))) = (10 + ((0 + i : Nat) : Int)) by omega]
            exact .int _
      · rcases List.mem_append.mp hd with y | y
        · exact e4 d y
        · rw [List.mem_singleton.mp y]
          omega
    · obtain ⟨t3, cs, xs, e1, e2, e3, e4, S3, ht3, k3⟩ := h
      refine ⟨D, xs, rfl, .inl ⟨.inl (.inl e1), fun pc hpc => ?_⟩⟩
      have s4 := same_new (o := .tup xs) hpc
      -- Machine(..)
      refine ⟨_, rfl, _, rfl, _, rfl, (show 0 ≤ sizeLine by decide), fun pe hpe => ⟨(show 4 ≤ sizeLine by decide), fun pk hpk => ⟨(show 1 ≤ sizeLine by decide), fun pi hpi x dx hx hdx ndx => ?_⟩⟩⟩
      have s5 := same_new (o := .tup []) hpe
      have s6 := same_new (o := .tup [.ref av, .int 100, .ref pc, .ref pe]) hpk
      have s7 := same_new (o := .lst [.int 5]) hpi
      have s37 := s4.trans (s5.trans (s6.trans s7))
      have s8 := same_new (o := .own x) hdx
      have nxd : x ≠ dx := fun z => ndx z.symm
      have hx8 : (upd (upd (upd (upd (upd H3 pc (.tup xs)) pe (.tup [])) pk (.tup [.ref av, .int 100, .ref pc, .ref pe])) pi (.lst [.int 5])) dx (.own x)) x = none := by
        rw [upd_ne nxd]
        exact hx
      have s9 := same_new (o := .ins C dx []) hx8
      have s89 := s8.trans s9
      have nlc : noLs ((cs.zipIdx.map fun x => Cel.ins x.1 (.set 3 (10 + (x.2 : Int)))).map celD) = true := by
        rw [List.map_map]
        exact noLs_map _ (fun x => rfl) _
      have hcode : Dp K (upd (upd (upd (upd H3 pc (.tup xs)) pe (.tup [])) pk (.tup [.ref av, .int 100, .ref pc, .ref pe])) pi (.lst [.int 5])) (.ref pk) (codeD (code13 vs cs)) := by
        refine .tup (.inl (.inl (s7 _ _ upd_same))) (.cons (.tup ((k3.trans (Tk.same s37)).seq (.inl (.inl hav2))) (dps_map (fun n => .int _) vs)) (.cons (.int _) (.cons (.tup (.inl (.inl ((s5.trans (s6.trans s7)) _ _ upd_same))) (dps_same s37 _ _ e2)) (.cons (.tup (.inl (.inl ((s6.trans s7) _ _ upd_same))) .nil) .nil))))
      have hins5 : Dp K (upd (upd (upd (upd H3 pc (.tup xs)) pe (.tup [])) pk (.tup [.ref av, .int 100, .ref pc, .ref pe])) pi (.lst [.int 5])) (.ref pi) (.list ([(5 : Int)].map .int)) := .lst (.inl (.inl upd_same)) (dp_ints [5])
      have hpcF := (s5.trans (s6.trans s7)) pc (.tup xs) upd_same
      generalize upd (upd (upd (upd H3 pc (.tup xs)) pe (.tup [])) pk (.tup [.ref av, .int 100, .ref pc, .ref pe])) pi (.lst [.int 5]) = H7 at *
      have cok : (code13 vs cs).Ok := by
        refine ⟨hvs, (show 2 ≤ 100 ∧ 100 ≤ 10000 by decide), by rw [code13_len, e3]; decide, fun z hz => ?_, (show 0 ≤ 600 by decide), fun n hn => absurd hn List.not_mem_nil⟩
        obtain ⟨⟨d, k⟩, hd, rfl⟩ := List.mem_map.mp hz
        have hm := List.mem_zipIdx_iff_getElem?.mp hd
        have hk : k < cs.length := (List.getElem?_eq_some_iff.mp hm).1
        exact ⟨e4 d (List.mem_of_getElem? hm), by show 3 < 8; decide, by show (0 : Int) ≤ 10 + (k : Int); omega, by show 10 + (k : Int) < 100; omega⟩
      refine ⟨x, dx, _, _, _, code13 vs cs, [5], [], rfl, upd_same, by rw [upd_ne ndx, upd_same], dp_same s89 _ _ hcode, .inl (dp_same s89 _ _ hins5), .inr (.tup (hE _) .nil), cok, ⟨by decide, fun n hn => by rw [List.mem_singleton.mp hn]; decide⟩, ⟨by decide, fun k hk => absurd hk List.not_mem_nil, List.Pairwise.nil⟩, (fun z hz => by
        obtain ⟨y, _, rfl⟩ := List.mem_map.mp hz
        trivial), (fun _ h => absurd h List.not_mem_nil), fun Ft H11 rep keep sub => ⟨rfl, ?_⟩⟩
      have s11 : Same H7 H11 := fun b o e => keep b o (s89 _ _ e) (ne_of_none e hx) (ne_of_none e hdx)
      have outF : ∀ b o, H7 b = some o → ¬ Ft b := fun b o e z => by
        rcases sub b z with y | y | y
        · rw [y, hx] at e
          cases e
        · rw [y, hdx] at e
          cases e
        · rw [s89 _ _ e] at y
          cases y
      have S11 := S3.same (s37.trans s11)
      have oSt : ¬ Ft st ∧ ¬ Ft g ∧ ¬ Ft c := by
        obtain ⟨n, gs, cs', r, h1, h2, h3⟩ := S3.same s37
        exact ⟨outF _ _ h1, outF _ _ h2, outF _ _ h3⟩
      -- steps = draw
      refine ⟨_, rfl, st, g, c, t3, 4, rfl, S11, by omega, by decide, by decide, fun v t12 H12 hv0 hv4 ht12 S12 k12 => ⟨_, _, rfl, ?_⟩⟩
      have rep12 : Rep H12 x ((code13 vs cs).begun [5] []) Ft := O.frame _ _ _ _ _ rep fun b o hb e => hb.elim (fun hb => k12 b o (fun z => oSt.1 (by rw [← z]; exact hb)) (fun z => oSt.2.1 (by rw [← z]; exact hb)) e) fun ht => Tk.kp S11 k12 b o ht e
      have tk12 : Tk H7 H12 := (Tk.same s11).trans (Tk.kp S11 k12)
      obtain ⟨dx1, fs1, hins, hFa, l1, l2, l3, l4, l5, l6⟩ := O.ins _ _ _ _ rep12
      refine ⟨_, rfl, x, dx1, fs1, rfl, hins, l1, _, rfl, x, v.toNat, _, Ft, ?_, rep12, by omega, by show 0 + v.toNat ≤ 16000000; omega, fun F2 H13 rep13 ch => ?_⟩
      · show [V.ref x, V.int v] = [V.ref x, V.int ((v.toNat : Nat) : Int)]
        rw [Int.toNat_of_nonneg hv0]
      have run := (S13.begun (c := code13 vs cs) hvs [5]).sets v.toNat fun k hk => ⟨cs[k]'(by omega), 3, 10 + (k : Int), by rw [Nat.zero_add]; exact code13_at (List.getElem?_eq_getElem (by omega)), e4 _ (List.getElem_mem (by omega))⟩
      rw [Nat.zero_add] at run
      have S13' := S12.out oSt ch.keep
      have oSt2 : ¬ F2 st ∧ ¬ F2 g ∧ ¬ F2 c := by
        obtain ⟨n, gs, cs', r, h1, h2, h3⟩ := S12
        have go : ∀ b o, H12 b = some o → ¬ Ft b → ¬ F2 b := fun b o e nb y => by
          rcases ch.sub b y with u | u
          · exact nb u
          · rw [e] at u
            cases u
        exact ⟨go _ _ h1 oSt.1, go _ _ h2 oSt.2.1, go _ _ h3 oSt.2.2⟩
      have tk13 := tk12.trans ch.tk
      have ev : V.int v = V.int ((v.toNat : Nat) : Int) := by rw [Int.toNat_of_nonneg hv0]
      show tR _ [some (.ref st), some (.ref av), some (.int 100), some (.int (vs.length : Int)), some (.int 6), some (.ref pc), some (.ref x), some (V.int v), none, none, none, none, none, none, none, none, none] H13
      rw [ev]
      refine qR vs cs xs st g c av pc x t12 v.toNat H13 _ F2 _ _ _ _ _ _ _ _ _ _ _ hvs e3 e4 rep13 run (by omega) S13' (by omega) oSt2 (((k3.trans (Tk.same s37)).trans tk13).seq (.inl (.inl hav2))) (tk13.seq (.inl (.inl hpcF))) (dps_tk ((Tk.same s37).trans tk13) _ _ nlc e2) fun t' H' ht' S' => q t' H' (by omega) S'
theorem scLaw : FnScope ["script", "state", "turn"] ["script"] (defScope sLaw) := ⟨rfl, rfl, rfl, by decide +kernel, rfl, by decide +kernel, by decide +kernel⟩
theorem ok_law {f : Addr} {fd : FuncData} (F : Fun K "law" "law" sLaw f fd) (T : Bt mg) (D1 : Df P w K mg base 1 "_law_begun" ["script"] (spBegun K)) (D7 : Df P w K mg base 32 "_law_mk_pointers_right" ["state"] spRight) : FnOk P w K mg base CX0 34 f fd ["script"] (spLaw K) := by
  obtain ⟨f1, fd1, G_law_begun, g_law_begun, k_law_begun, b_law_begun⟩ := D1
  obtain ⟨f7, fd7, G_law_mk_pointers_right, g_law_mk_pointers_right, k_law_mk_pointers_right, b_law_mk_pointers_right⟩ := D7
  refine F.ok scLaw (fun vs H Q E h => ?_) (fun cdv A outer s H vs Q E hr h => ?_)
  · obtain ⟨a, ns, rfl, _⟩ := h
    rfl
  · obtain ⟨a, ns, rfl, hS, hl, q⟩ := h
    have nd := scLaw.nd
    refine ⟨_, pss_cons (ps_set (i := 1) nd rfl (.inl rfl) (pe_call G_law_begun (hr.mono (by decide)) rfl g_law_begun k_law_begun b_law_begun .nil pass0 (pa_cons (pv 0) pa_nil)))
      (pss_cons (ps_for PassesOwn.never rfl (pi_range1 (by rfl) T.range (pa_cons pe_int pa_nil)) (pg_name (i := 2) nd rfl (.inl rfl))
      (pss_one (ps_if (pt_not (pt_val (pe_call G_law_mk_pointers_right (hr.mono (by decide)) rfl g_law_mk_pointers_right k_law_mk_pointers_right b_law_mk_pointers_right .nil pass0 (pa_cons (pv 1) pa_nil))))
        (pss_one (ps_ret pe_bl))
        pss_nil)))
      (pss_one (ps_ret pe_bl))), ?_⟩
    refine ⟨_, rfl, a, ns, rfl, hS, hl, fun st g c H1 sm S1 nst ng => ?_⟩
    refine ⟨8, rfl, by decide, by decide, ?_⟩
    refine for_range (lo := 0) (n := 8) (fun i σ H' => ∃ (t : Nat) (x2 : Option V), σ = [some (.ref a), some (.ref st), x2] ∧ StAt H' st g c t ∧ t ≤ 1000 * i) ⟨0, none, rfl, S1, Nat.le_refl _⟩ (fun i σ H' hi h => ?_) (fun σ H' h => ?_)
    · obtain ⟨t, x2, rfl, S, ht⟩ := h
      refine ⟨_, rfl, st, g, c, t, rfl, S, by omega, fun t' H2 ht' S' => ⟨_, rfl, iteF ?_⟩⟩
      exact ⟨t', _, rfl, S', by omega⟩
    · obtain ⟨t, x2, rfl, S, ht⟩ := h
      exact q H'
end
end Hue
namespace Hue
open L2 PySem.Spec PySem PyProof.Rows
/-! ### the end: from what the top leaves -/
section
variable {K : PySem.W.Frag} {h : Heap} {mg : Str → Option Value}
theorem IntG.of (X : K.In h) (G : h.Ns mainGlobals mg) {x : Str} {n : Int} {t : Nat} (e : PySem.W.nsIn K mainGlobals x = some (some (.int n t))) : IntG mg x n := ⟨t, PySem.W.mg_of X G e⟩
theorem Tx.of (X : K.In h) (G : h.Ns mainGlobals mg) {x : Str} {st : Stmt} {ps : List Str} {f : Addr} {od an : Option Addr} {oc kV dc pm cd ct : Value} {sl : Array (Option Value)}
    (b : ∀ (kV dc pm : Value) (an : Option Addr) (cd ct : Value) (us : List Value), us.length = ps.length → bindArgs (PySem.W.fnOf x x (defArgs st) (defBody st) (defScope st) .none kV dc pm an cd ct) ⟨us, []⟩ = pure (ps.zip us))
    (a : PySem.W.nsIn K mainGlobals x = some (some (.ref f))) (l : K.lookup f = some ⟨oc, od, .func (PySem.W.fnOf x x (defArgs st) (defBody st) (defScope st) .none kV dc pm an cd ct), sl⟩) (c : PySem.W.codeIn K cd x = true) (k : PySem.W.keepIn K (.ref f) = true) : Tx K mg x st ps := by
  have F := fun_mk (st := st) l c k
  exact ⟨f, _, F, PySem.W.mg_of X G a, F.binds (ps := ps) b⟩
theorem ActT.of {x : Str} {st : Stmt} {ps : List Str} {f : Addr} {od an : Option Addr} {oc kV dc pm cd ct : Value} {sl : Array (Option Value)}
    (b : ∀ (kV dc pm : Value) (an : Option Addr) (cd ct : Value) (us : List Value), us.length = ps.length → bindArgs (PySem.W.fnOf x x (defArgs st) (defBody st) (defScope st) .none kV dc pm an cd ct) ⟨us, []⟩ = pure (ps.zip us))
    (l : K.lookup f = some ⟨oc, od, .func (PySem.W.fnOf x x (defArgs st) (defBody st) (defScope st) .none kV dc pm an cd ct), sl⟩) (c : PySem.W.codeIn K cd x = true) (k : PySem.W.keepIn K (.ref f) = true) : ActT K x st ps f := by
  have F := fun_mk (st := st) l c k
  exact ⟨_, F, F.binds (ps := ps) b⟩
theorem MethT.of {C : Addr} {m qual : Str} {st : Stmt} {ps : List Str} {f : Addr} {od an : Option Addr} {oc kV dc pm cd ct : Value} {sl : Array (Option Value)}
    (b : ∀ (kV dc pm : Value) (an : Option Addr) (cd ct : Value) (us : List Value), us.length = ps.length → bindArgs (PySem.W.fnOf m qual (defArgs st) (defBody st) (defScope st) .none kV dc pm an cd ct) ⟨us, []⟩ = pure (ps.zip us))
    (a : PySem.W.findIn K (.ref C) m = some (some (.ref f))) (i : PySem.W.isFn K (.ref f) = true) (l : K.lookup f = some ⟨oc, od, .func (PySem.W.fnOf m qual (defArgs st) (defBody st) (defScope st) .none kV dc pm an cd ct), sl⟩) (c : PySem.W.codeIn K cd qual = true) (k : PySem.W.keepIn K (.ref f) = true) : MethT K C m qual st ps := by
  have F := fun_mk (st := st) l c k
  exact ⟨f, _, F, ⟨a, i, k⟩, F.binds (ps := ps) b⟩
theorem StkT.of {C : Addr} {f : Addr} {od an : Option Addr} {oc kV dc pm cd ct : Value} {sl : Array (Option Value)}
    (a : PySem.W.findIn K (.ref C) "strike" = some (some (.ref f))) (i : PySem.W.isFn K (.ref f) = true) (l : K.lookup f = some ⟨oc, od, .func (PySem.W.fnOf "strike" "Machine.strike" (defArgs sMStrike) (defBody sMStrike) (defScope sMStrike) .none kV dc pm an cd ct), sl⟩) (c : PySem.W.codeIn K cd "Machine.strike" = true) (k : PySem.W.keepIn K (.ref f) = true) : StkT K C := by
  have F := fun_mk (st := sMStrike) l c k
  exact ⟨f, _, F, ⟨a, i, k⟩⟩
theorem PropT.of {C : Addr} {m qual : Str} {st : Stmt} {p f : Addr} {od an : Option Addr} {oc kV dc pm cd ct : Value} {sl : Array (Option Value)} {rest : List Value}
    (b : ∀ (kV dc pm : Value) (an : Option Addr) (cd ct : Value) (us : List Value), us.length = 1 → bindArgs (PySem.W.fnOf m qual (defArgs st) (defBody st) (defScope st) .none kV dc pm an cd ct) ⟨us, []⟩ = pure ((["self"] : List Str).zip us))
    (a : PySem.W.findIn K (.ref C) m = some (some (.ref p))) (g : PySem.W.specialIn K (.ref p) "__get__" = some (some (.builtin "property.__get__"))) (t : PySem.W.takesIn K (.ref p) = some true) (r : PySem.W.recIn K p "property" = some (.ref f :: rest)) (l : K.lookup f = some ⟨oc, od, .func (PySem.W.fnOf m qual (defArgs st) (defBody st) (defScope st) .none kV dc pm an cd ct), sl⟩) (c : PySem.W.codeIn K cd qual = true) (k : PySem.W.keepIn K (.ref f) = true) : PropT K C m qual st := by
  have F := fun_mk (st := st) l c k
  exact ⟨p, f, _, F, ⟨a, g, t, rest, r⟩, F.binds (ps := ["self"]) b⟩
theorem KTexts.of {a b : Addr} {key : Str} {ks : List Str} {t : Option Addr} {its : Array Value} {n : Nat} {sl : Array (Option Value)} (e : PySem.W.nsIn K a key = some (some (.ref b))) (l : K.lookup b = some ⟨.type "tuple", t, .seq its n, sl⟩) (z : its.size ≤ sizeLine) (v : Vals (ks.map V.str) its.toList) : KTexts K a key ks :=
  ⟨b, e, fun _ => .inr ⟨_, its, n, l, rfl, rfl, z, v⟩⟩
theorem sqT_K {b : Addr} {xs : List V} {t : Option Addr} {its : Array Value} {n : Nat} {sl : Array (Option Value)} (l : K.lookup b = some ⟨.type "tuple", t, .seq its n, sl⟩) (z : its.size ≤ sizeLine) (v : Vals xs its.toList) : ∀ H, SqT K H b xs := fun _ => .inr ⟨_, its, n, l, rfl, rfl, z, v⟩
theorem funD1 {x qual : Str} {args : Arguments} {body : List Stmt} {scope : Scope} {f T e : Addr} {od an dT : Option Addr} {oc kV dc pm cd ct cT : Value} {sl slT : Array (Option Value)} {n : Nat}
    (l : K.lookup f = some ⟨oc, od, .func (PySem.W.fnOf x qual args body scope (.ref T) kV dc pm an cd ct), sl⟩) (c : PySem.W.codeIn K cd qual = true) (k : PySem.W.keepIn K (.ref f) = true) (lT : K.lookup T = some ⟨cT, dT, .seq #[.ref e] n, slT⟩) : FunD K x qual args body scope [.ref e] [] f (PySem.W.fnOf x qual args body scope (.ref T) kV dc pm an cd ct) :=
  ⟨⟨oc, od, .ref T, kV, dc, pm, an, cd, ct, sl, rfl, l, c, .inr ⟨by simp, T, _, [.ref e], n, rfl, lT, rfl, .cons rfl .nil⟩, .inl rfl⟩, k⟩
theorem bindsM {f e : Addr} {fd : FuncData} (F : FunD K "__init__" "Machine.__init__" (defArgs sMInit) (defBody sMInit) (defScope sMInit) [.ref e] [] f fd) : L2.Binds K fd ["self", "code", "inputs", "strikes"] [.ref e] := by
  obtain ⟨ds, v, b⟩ := F.binds1 (ps := ["self", "code", "inputs", "strikes"]) 3 0 (by simp) rfl fun T kV doc pm an cdv ct us its hu hi => match us, its, hu, hi with
    | [_, _, _], [_], _, _ => ⟨_, rfl, rfl⟩
  cases v with
  | cons r t =>
    cases t
    cases r
    exact b
theorem bindsM4 {f e : Addr} {fd : FuncData} (F : FunD K "__init__" "Machine.__init__" (defArgs sMInit) (defBody sMInit) (defScope sMInit) [.ref e] [] f fd) : L2.Binds K fd ["self", "code", "inputs", "strikes"] [] := by
  obtain ⟨ds, v, b⟩ := F.binds1 (ps := ["self", "code", "inputs", "strikes"]) 4 1 (by simp) rfl fun T kV doc pm an cdv ct us its hu hi => match us, its, hu, hi with
    | [_, _, _, _], [_], _, _ => ⟨_, rfl, rfl⟩
  cases v
  exact b
end
theorem walk {l : PySem.W.OpenLaw} {q : Program} {loose : List Str} {XP : (Str → Option Value) → Heap → Prop} {YP : World → Heap → Prop} {d : DefRec} {K : Params → PySem.W.Frag} (hn : l.most = some 63) (hdf : d.params.defaults = [])
    (hY : ∀ (w : World) (h : Heap), YP w h → (K w.params).In h)
    (F : ∀ (w : World) (mg : Str → Option Value) (fa : Addr) (h : Heap), (K w.params).In h → h.Ns mainGlobals mg → mg d.name = some (.ref fa) →
      ∃ fd : FuncData, (∀ (s : Shared) (u : Value), BindsTo s fd ⟨[u], []⟩ [("script", u)]) ∧ ∀ base : Heap, (K w.params).In base → base.Ns mainGlobals mg → FnOk l.prog w (K w.params) mg base CX0 34 fa fd ["script"] (spLaw (K w.params))) :
    PySem.W.WalkO q loose XP YP l.row.toRowW d [] (fun f vs => PySem.call f vs) :=
  L2.walk_of (n := 63) (k := 34) (x := "script") (CX := fun _ => CX0) (sp := fun w => spLaw (K w.params)) hn (by decide) hdf ⟨rfl, by decide, by decide⟩ hY F (fun _ _ a ns hl _ hS => ⟨a, ns, rfl, hS, hl, fun _ => rfl⟩) fun _ _ _ _ _ z => z
/-- the law's own defs -/
structure TxL (K : PySem.W.Frag) (mg : Str → Option Value) : Prop where
  begun : Tx K mg "_law_begun" sBegun ["script"]
  mixed : Tx K mg "_law_mixed" sMixed ["state"]
  draw : Tx K mg "_law_draw" sDraw ["state", "room"]
  pick : Tx K mg "_law_pick" sPick ["state", "some"]
  votes : Tx K mg "_law_votes" sVotes ["state"]
  agreed : Tx K mg "_law_mk_agreed" sAgreed ["values", "need"]
  right : Tx K mg "_law_mk_pointers_right" sRight ["state"]
theorem law_ok {P : Program} {w : World} {K : PySem.W.Frag} {mg : Str → Option Value} {base : Heap} {C fa : Addr} {Rep : RepT} {fd : FuncData} (T : Bt mg) (X : TxL K mg) (O : MOps P w K mg base 30 C Rep) (F : Fun K "law" "law" sLaw fa fd) : FnOk P w K mg base CX0 34 fa fd ["script"] (spLaw K) := by
  have d1 : Df P w K mg base 1 "_law_mixed" ["state"] spMixed := df_mixed X.mixed T
  have d2 : Df P w K mg base 2 "_law_draw" ["state", "room"] spDraw := df_draw X.draw d1 T
  have d3 : Df P w K mg base 3 "_law_pick" ["state", "some"] (spPick K) := df_pick X.pick d2 T
  exact ok_law F T (df_begun X.begun T) (df_right X.right O T (df_agreed X.agreed T) d2 d3 (df_votes X.votes d3 d2 T))
end Hue
namespace Hue
open L2 PySem.Spec PySem PyProof.Rows
theorem fin {l : PySem.W.OpenLaw} {w : World} {K : PySem.W.Frag} {h : Heap} {mg : Str → Option Value} {fa CB CW CM fB fW fM tM eM aW aT aI aS aD aG fO fE fS fH fU fY fZ fV fX fP fL : Addr} {odB anB odW anW odM anM odL anL dT dE : Option Addr} {slB slW slM slL slT slE : Array (Option Value)} {ocB kVB dcB pmB cdB ctB ocW kVW dcW pmW cdW ctW ocM kVM dcM pmM cdM ctM ocL kVL dcL pmL cdL ctL cT : Value} {eI eS eD eG : Array DictEntry} {nI nS nD nG nT nE : Nat} (X : K.In h) (G : h.Ns mainGlobals mg) (hfa : mg "law" = some (.ref fa)) (T : Bt mg) (N : Gn mg) (XT : Txs K mg) (XL : TxL K mg)
    (gB : PySem.W.nsIn K mainGlobals "Bounds" = some (some (.ref CB)))
    (pgB : PySem.W.plainGet K CB Str.empty = true)
    (hdB : PySem.W.hasDictIn K CB = true)
    (poB : PySem.W.plainOver K CB = true)
    (saB : PySem.W.findIn K (.ref CB) "__setattr__" = some (some (.builtin "object.__setattr__")))
    (mkB : PySem.W.makesIn K CB = true)
    (kcB : PySem.W.keepIn K (.ref CB) = true)
    (nBhues : PySem.W.findIn K (.ref CB) "hues" = some none)
    (nBsize : PySem.W.findIn K (.ref CB) "size" = some none)
    (nBbank : PySem.W.findIn K (.ref CB) "bank" = some none)
    (nBmany : PySem.W.findIn K (.ref CB) "many" = some none)
    (iB : PySem.W.findIn K (.ref CB) "__init__" = some (some (.ref fB)))
    (ifB : PySem.W.isFn K (.ref fB) = true)
    (lB : K.lookup fB = some ⟨ocB, odB, .func (PySem.W.fnOf "__init__" "Bounds.__init__" (defArgs sBounds) (defBody sBounds) (defScope sBounds) .none kVB dcB pmB anB cdB ctB), slB⟩)
    (cB : PySem.W.codeIn K cdB "Bounds.__init__" = true)
    (kB : PySem.W.keepIn K (.ref fB) = true)
    (gW : PySem.W.nsIn K mainGlobals "Works" = some (some (.ref CW)))
    (pgW : PySem.W.plainGet K CW Str.empty = true)
    (hdW : PySem.W.hasDictIn K CW = true)
    (poW : PySem.W.plainOver K CW = true)
    (saW : PySem.W.findIn K (.ref CW) "__setattr__" = some (some (.builtin "object.__setattr__")))
    (mkW : PySem.W.makesIn K CW = true)
    (kcW : PySem.W.keepIn K (.ref CW) = true)
    (nWvotes : PySem.W.findIn K (.ref CW) "votes" = some none)
    (nWsize : PySem.W.findIn K (.ref CW) "size" = some none)
    (nWfirst_tape : PySem.W.findIn K (.ref CW) "first_tape" = some none)
    (nWtape : PySem.W.findIn K (.ref CW) "tape" = some none)
    (nWnumbers : PySem.W.findIn K (.ref CW) "numbers" = some none)
    (nWbanks : PySem.W.findIn K (.ref CW) "banks" = some none)
    (nWheads : PySem.W.findIn K (.ref CW) "heads" = some none)
    (nWoffers : PySem.W.findIn K (.ref CW) "offers" = some none)
    (nWgiven : PySem.W.findIn K (.ref CW) "given" = some none)
    (nWtaken : PySem.W.findIn K (.ref CW) "taken" = some none)
    (nWplanned : PySem.W.findIn K (.ref CW) "planned" = some none)
    (nWstruck_many : PySem.W.findIn K (.ref CW) "struck_many" = some none)
    (nWshown : PySem.W.findIn K (.ref CW) "shown" = some none)
    (nWdone : PySem.W.findIn K (.ref CW) "done" = some none)
    (nWword : PySem.W.findIn K (.ref CW) "word" = some none)
    (iW : PySem.W.findIn K (.ref CW) "__init__" = some (some (.ref fW)))
    (ifW : PySem.W.isFn K (.ref fW) = true)
    (lW : K.lookup fW = some ⟨ocW, odW, .func (PySem.W.fnOf "__init__" "Works.__init__" (defArgs sWorks) (defBody sWorks) (defScope sWorks) .none kVW dcW pmW anW cdW ctW), slW⟩)
    (cW : PySem.W.codeIn K cdW "Works.__init__" = true)
    (kW : PySem.W.keepIn K (.ref fW) = true)
    (gM : PySem.W.nsIn K mainGlobals "Machine" = some (some (.ref CM)))
    (pgM : PySem.W.plainGet K CM Str.empty = true)
    (hdM : PySem.W.hasDictIn K CM = true)
    (poM : PySem.W.plainOver K CM = true)
    (saM : PySem.W.findIn K (.ref CM) "__setattr__" = some (some (.builtin "object.__setattr__")))
    (mkM : PySem.W.makesIn K CM = true)
    (kcM : PySem.W.keepIn K (.ref CM) = true)
    (nM_code : PySem.W.findIn K (.ref CM) "_code" = some none)
    (nM_works : PySem.W.findIn K (.ref CM) "_works" = some none)
    (nMaddress : PySem.W.findIn K (.ref CM) "address" = some none)
    (iM : PySem.W.findIn K (.ref CM) "__init__" = some (some (.ref fM)))
    (ifM : PySem.W.isFn K (.ref fM) = true)
    (lM : K.lookup fM = some ⟨ocM, odM, .func (PySem.W.fnOf "__init__" "Machine.__init__" (defArgs sMInit) (defBody sMInit) (defScope sMInit) (.ref tM) kVM dcM pmM anM cdM ctM), slM⟩)
    (cM : PySem.W.codeIn K cdM "Machine.__init__" = true)
    (kM : PySem.W.keepIn K (.ref fM) = true)
    (dM : K.lookup tM = some ⟨cT, dT, .seq #[.ref eM] nT, slT⟩)
    (eE : K.lookup eM = some ⟨.type "tuple", dE, .seq #[] nE, slE⟩)
    (gWORDS : PySem.W.nsIn K mainGlobals "WORDS" = some (some (.ref aW)))
    (sWORDS : ∀ H, SqT K H aW [.str "plus", .str "minus", .str "times", .str "rest", .str "less", .str "same"])
    (gTWO : PySem.W.nsIn K mainGlobals "TWO_OPERANDS" = some (some (.ref aT)))
    (sTWO : ∀ H, SqT K H aT [.str "register", .str "register", .str "register"])
    (gINSTRUCTIONS : PySem.W.nsIn K mainGlobals "INSTRUCTIONS" = some (some (.ref aI)))
    (dINSTRUCTIONS : K.lookup aI = some ⟨.type "dict", none, .dict eI nI, #[]⟩)
    (lINSTRUCTIONS : PySem.W.KeysLit w.params eI.toList)
    (wINSTRUCTIONS : (aI == sysModules) = false)
    (gSETTLES : PySem.W.nsIn K mainGlobals "SETTLES" = some (some (.ref aS)))
    (dSETTLES : K.lookup aS = some ⟨.type "dict", none, .dict eS nS, #[]⟩)
    (lSETTLES : PySem.W.KeysLit w.params eS.toList)
    (wSETTLES : (aS == sysModules) = false)
    (gDOING : PySem.W.nsIn K mainGlobals "DOING" = some (some (.ref aD)))
    (dDOING : K.lookup aD = some ⟨.type "dict", none, .dict eD nD, #[]⟩)
    (lDOING : PySem.W.KeysLit w.params eD.toList)
    (wDOING : (aD == sysModules) = false)
    (gSETTLING : PySem.W.nsIn K mainGlobals "SETTLING" = some (some (.ref aG)))
    (dSETTLING : K.lookup aG = some ⟨.type "dict", none, .dict eG nG, #[]⟩)
    (lSETTLING : PySem.W.KeysLit w.params eG.toList)
    (wSETTLING : (aG == sysModules) = false)
    (iSet : KTexts K aI "set" ["register", "number"])
    (iGet : KTexts K aI "get" ["register", "register", "base", "length"])
    (iPut : KTexts K aI "put" ["register", "register", "base", "length"])
    (iOffer : KTexts K aI "offer" ["register"])
    (sShow : KTexts K aS "show" ["port", "width"])
    (sTurn : KTexts K aS "turn" ["goal", "width"])
    (sTake : KTexts K aS "take" ["register", "width"])
    (sGoto : KTexts K aS "goto" ["goal"])
    (sStop : KTexts K aS "stop" [])
    (sMark : KTexts K aS "mark" [])
    (tO : PySem.W.nsIn K aD "offer" = some (some (.ref fO)))
    (aO : ActT K "do_offer" sDoOffer ["works", "hue", "cell"] fO)
    (tE : PySem.W.nsIn K aD "set" = some (some (.ref fE)))
    (aE : ActT K "do_set" sDoSet ["works", "hue", "cell"] fE)
    (tS : PySem.W.nsIn K aG "stop" = some (some (.ref fS)))
    (aS_ : ActT K "do_stop" sDoStop ["works", "cell"] fS)
    (tH : PySem.W.nsIn K aG "show" = some (some (.ref fH)))
    (aH : ActT K "do_show" sDoShow ["works", "cell"] fH)
    (tU : PySem.W.nsIn K aG "turn" = some (some (.ref fU)))
    (aU : ActT K "do_turn" sDoTurn ["works", "cell"] fU)
    (tY : PySem.W.nsIn K aG "goto" = some (some (.ref fY)))
    (aY : ActT K "do_goto" sDoGoto ["works", "cell"] fY)
    (tZ : PySem.W.nsIn K aG "mark" = some (some (.ref fZ)))
    (aZ : ActT K "do_mark" sDoMark ["works", "cell"] fZ)
    (tV : PySem.W.nsIn K aG "take" = some (some (.ref fV)))
    (aV : ActT K "do_take" sDoTake ["works", "cell"] fV)
    (tX : PySem.W.nsIn K aD "get" = some (some (.ref fX)))
    (aX : ActT K "do_get" sDoGet ["works", "hue", "cell"] fX)
    (tP : PySem.W.nsIn K aD "put" = some (some (.ref fP)))
    (aP : ActT K "do_put" sDoPut ["works", "hue", "cell"] fP)
    (neD : [fO, fE, fX, fP].Nodup)
    (neG : [fS, fH, fU, fY, fZ, fV].Nodup)
    (gP : IntG mg "GREATEST_POINTER" 9999)
    (mStk : StkT K CM)
    (m_go : MethT K CM "go" "Machine.go" sMGo ["self", "steps"])
    (m__look : MethT K CM "_look" "Machine._look" sMLook ["self"])
    (m_registers : MethT K CM "registers" "Machine.registers" sMRegisters ["self", "hue"])
    (m_cells : MethT K CM "cells" "Machine.cells" sMCells ["self", "hue"])
    (m_own : MethT K CM "own" "Machine.own" sMOwn ["self", "hue", "address"])
    (m_moment : MethT K CM "moment" "Machine.moment" sMMoment ["self"])
    (p_row : PropT K CM "row" "Machine.row" sMRow)
    (p_steps : PropT K CM "steps" "Machine.steps" sMSteps)
    (p_state : PropT K CM "state" "Machine.state" sMState)
    (p_slots : PropT K CM "slots" "Machine.slots" sMSlots)
    (p_pointers : PropT K CM "pointers" "Machine.pointers" sMPointers)
    (p_left : PropT K CM "left" "Machine.left" sMLeft)
    (aLaw : PySem.W.nsIn K mainGlobals "law" = some (some (.ref fL)))
    (lLaw : K.lookup fL = some ⟨ocL, odL, .func (PySem.W.fnOf "law" "law" (defArgs sLaw) (defBody sLaw) (defScope sLaw) .none kVL dcL pmL anL cdL ctL), slL⟩)
    (cLaw : PySem.W.codeIn K cdL "law" = true)
    (kLaw : PySem.W.keepIn K (.ref fL) = true)
    : ∃ fd : FuncData, (∀ (s : Shared) (v : Value), BindsTo s fd ⟨[v], []⟩ [("script", v)]) ∧ ∀ base : Heap, K.In base → base.Ns mainGlobals mg → FnOk l.prog w K mg base CX0 34 fa fd ["script"] (spLaw K) := by
  have e := hfa.symm.trans (PySem.W.mg_of X G aLaw)
  cases e
  have ZB : BC K mg CB fB := ⟨⟨pgB, hdB, poB, saB⟩, nBhues, nBsize, nBbank, nBmany, ⟨mkB, iB, ifB, kcB⟩, PySem.W.mg_of X G gB⟩
  have FB := fun_mk (st := sBounds) lB cB kB
  have bB := FB.binds (ps := ["self", "hues", "size", "bank", "many"]) fun _ _ _ _ _ _ us hl => match us, hl with | [_, _, _, _, _], _ => rfl
  have ZW : WC K mg CW fW := ⟨⟨pgW, hdW, poW, saW⟩, nWvotes, nWsize, nWfirst_tape, nWtape, nWnumbers, nWbanks, nWheads, nWoffers, nWgiven, nWtaken, nWplanned, nWstruck_many, nWshown, nWdone, nWword, ⟨mkW, iW, ifW, kcW⟩, PySem.W.mg_of X G gW⟩
  have FW := fun_mk (st := sWorks) lW cW kW
  have bW := FW.binds (ps := ["self", "code", "inputs", "strikes"]) fun _ _ _ _ _ _ us hl => match us, hl with | [_, _, _, _], _ => rfl
  have ZM : MC K CM := ⟨⟨pgM, hdM, poM, saM⟩, nM_code, nM_works, nMaddress⟩
  have FI := funD1 lM cM kM dM
  have GDf : GD K w mg aW aT aI aS eI nI eS nS := ⟨PySem.W.mg_of X G gWORDS, sWORDS, PySem.W.mg_of X G gTWO, sTWO, PySem.W.mg_of X G gINSTRUCTIONS, ⟨dINSTRUCTIONS, lINSTRUCTIONS, wINSTRUCTIONS⟩, PySem.W.mg_of X G gSETTLES, ⟨dSETTLES, lSETTLES, wSETTLES⟩, iSet, iGet, iPut, iOffer, sShow, sTurn, sTake, sGoto, sStop, sMark⟩
  have GAf : GA K w mg aD aG eD nD eG nG fO fE fX fP fS fH fU fY fZ fV := ⟨PySem.W.mg_of X G gDOING, ⟨dDOING, lDOING, wDOING⟩, PySem.W.mg_of X G gSETTLING, ⟨dSETTLING, lSETTLING, wSETTLING⟩, tO, tE, tX, tP, tV, tS, tH, tU, tY, tZ, neD, neG⟩
  refine ⟨PySem.W.fnOf "law" "law" (defArgs sLaw) (defBody sLaw) (defScope sLaw) .none kVL dcL pmL anL cdL ctL, fun s v => .of_eq rfl, fun base _ _ => ?_⟩
  exact law_ok T XL (mops T N GDf GAf XT ZB FB bB ZW FW bW ZM (PySem.W.mg_of X G gM) ⟨mkM, iM, ifM, kcM⟩ FI (bindsM FI) (bindsM4 FI) (sqT_K eE (by decide) .nil) aO aE aS_ aH aU aY aZ aV aX aP mStk m_moment p_left gP p_pointers m_go m__look m_registers m_cells m_own p_row p_steps p_state p_slots) (fun_mk (st := sLaw) lLaw cLaw kLaw)
end Hue
open PySem.W PyProof.Rows PySem
set_option maxRecDepth 100000 in
set_option maxHeartbeats 0 in
theorem PySem.Challenge.cw_hueward_k13_votes_of_pointers_holds : PySem.Challenge.rw_hueward_k13_votes_of_pointers.Holds := by
  w_on; o_law; k_head; (case hw => w_witness2)
  k_fill
  refine Hue.walk (l := PySem.Challenge.rw_hueward_k13_votes_of_pointers) rfl rfl (fun w h Y => PySem.W.kIn_of Y) ?F
  case F =>
    intro w mg fa h KX G hmg
    refine' Hue.fin KX G hmg ?qT ?qN ?qXT ?qXL ?qgB ?qpgB ?qhdB ?qpoB ?qsaB ?qmkB ?qkcB ?qnBhues ?qnBsize ?qnBbank ?qnBmany ?qiB ?qifB ?qlB ?qcB ?qkB ?qgW ?qpgW ?qhdW ?qpoW ?qsaW ?qmkW ?qkcW ?qnWvotes ?qnWsize ?qnWfirst_tape ?qnWtape ?qnWnumbers ?qnWbanks ?qnWheads ?qnWoffers ?qnWgiven ?qnWtaken ?qnWplanned ?qnWstruck_many ?qnWshown ?qnWdone ?qnWword ?qiW ?qifW ?qlW ?qcW ?qkW ?qgM ?qpgM ?qhdM ?qpoM ?qsaM ?qmkM ?qkcM ?qnM_code ?qnM_works ?qnMaddress ?qiM ?qifM ?qlM ?qcM ?qkM ?qdM ?qeE ?qgWORDS ?qsWORDS ?qgTWO ?qsTWO ?qgINSTRUCTIONS ?qdINSTRUCTIONS ?qlINSTRUCTIONS ?qwINSTRUCTIONS ?qgSETTLES ?qdSETTLES ?qlSETTLES ?qwSETTLES ?qgDOING ?qdDOING ?qlDOING ?qwDOING ?qgSETTLING ?qdSETTLING ?qlSETTLING ?qwSETTLING ?qiSet ?qiGet ?qiPut ?qiOffer ?qsShow ?qsTurn ?qsTake ?qsGoto ?qsStop ?qsMark ?qtO ?qaO ?qtE ?qaE ?qtS ?qaS_ ?qtH ?qaH ?qtU ?qaU ?qtY ?qaY ?qtZ ?qaZ ?qtV ?qaV ?qtX ?qaX ?qtP ?qaP ?qneD ?qneG ?qgP ?qmStk ?qm_go ?qm__look ?qm_registers ?qm_cells ?qm_own ?qm_moment ?qp_row ?qp_steps ?qp_state ?qp_slots ?qp_pointers ?qp_left ?qaLaw ?qlLaw ?qcLaw ?qkLaw
    (case qT =>
      refine' ⟨?b0, ?b1, ?b2, ?b3, ?b4, ?b5, ?b6, ?b7, ?b8, ?b9, ?b10, ?b11, ?b12, ?b13, ?b14, ?b15, ?b16, ?b17, ?b18, ?b19⟩
      (case b0 => exact PySem.W.mg_none_of KX G (by k_is))
      (case b1 => exact PySem.W.mg_none_of KX G (by k_is))
      (case b2 => exact PySem.W.mg_none_of KX G (by k_is))
      (case b3 => exact PySem.W.mg_none_of KX G (by k_is))
      (case b4 => exact PySem.W.mg_none_of KX G (by k_is))
      (case b5 => exact PySem.W.mg_none_of KX G (by k_is))
      (case b6 => exact PySem.W.mg_none_of KX G (by k_is))
      (case b7 => exact PySem.W.mg_none_of KX G (by k_is))
      (case b8 => exact PySem.W.mg_none_of KX G (by k_is))
      (case b9 => exact PySem.W.mg_none_of KX G (by k_is))
      (case b10 => exact PySem.W.mg_none_of KX G (by k_is))
      (case b11 => exact PySem.W.mg_none_of KX G (by k_is))
      (case b12 => exact PySem.W.mg_none_of KX G (by k_is))
      (case b13 => exact PySem.W.mg_none_of KX G (by k_is))
      (case b14 => exact PySem.W.mg_none_of KX G (by k_is))
      (case b15 => exact PySem.W.mg_none_of KX G (by k_is))
      (case b16 => exact PySem.W.mg_none_of KX G (by k_is))
      (case b17 => exact PySem.W.mg_none_of KX G (by k_is))
      (case b18 => exact PySem.W.mg_none_of KX G (by k_is))
      (case b19 => exact PySem.W.mg_none_of KX G (by k_is)))
    (case qN =>
      refine' ⟨?c0, ?c1, ?c2, ?c3, ?c4, ?c5, ?c6, ?c7, ?c8, ?c9, ?c10⟩
      (case c0 =>
        refine' Hue.IntG.of KX G ?z
        (case z => k_is))
      (case c1 =>
        refine' Hue.IntG.of KX G ?z
        (case z => k_is))
      (case c2 =>
        refine' Hue.IntG.of KX G ?z
        (case z => k_is))
      (case c3 =>
        refine' Hue.IntG.of KX G ?z
        (case z => k_is))
      (case c4 =>
        refine' Hue.IntG.of KX G ?z
        (case z => k_is))
      (case c5 =>
        refine' Hue.IntG.of KX G ?z
        (case z => k_is))
      (case c6 =>
        refine' Hue.IntG.of KX G ?z
        (case z => k_is))
      (case c7 =>
        refine' Hue.IntG.of KX G ?z
        (case z => k_is))
      (case c8 =>
        refine' Hue.IntG.of KX G ?z
        (case z => k_is))
      (case c9 =>
        refine' Hue.IntG.of KX G ?z
        (case z => k_is))
      (case c10 =>
        refine' Hue.IntG.of KX G ?z
        (case z => k_is)))
    (case qXT =>
      refine' ⟨?x0, ?x1, ?x2, ?x3, ?x4, ?x5, ?x6, ?x7, ?x8, ?x9, ?x10, ?x11, ?x12, ?x13, ?x14, ?x15, ?x16, ?x17, ?x18, ?x19, ?x20, ?x21, ?x22, ?x23, ?x24, ?x25, ?x26, ?x27, ?x28, ?x29, ?x30, ?x31, ?x32, ?x33, ?x34, ?x35, ?x36, ?x37, ?x38⟩
      (case x0 =>
        refine' Hue.Tx.of KX G (fun _ _ _ _ _ _ us hl => match us, hl with | [_, _], _ => rfl) ?a ?l ?c ?k
        (case a => k_is)
        (case l => k_is)
        (case c => k_is)
        (case k => k_is))
      (case x1 =>
        refine' Hue.Tx.of KX G (fun _ _ _ _ _ _ us hl => match us, hl with | [_, _, _], _ => rfl) ?a ?l ?c ?k
        (case a => k_is)
        (case l => k_is)
        (case c => k_is)
        (case k => k_is))
      (case x2 =>
        refine' Hue.Tx.of KX G (fun _ _ _ _ _ _ us hl => match us, hl with | [_], _ => rfl) ?a ?l ?c ?k
        (case a => k_is)
        (case l => k_is)
        (case c => k_is)
        (case k => k_is))
      (case x3 =>
        refine' Hue.Tx.of KX G (fun _ _ _ _ _ _ us hl => match us, hl with | [_], _ => rfl) ?a ?l ?c ?k
        (case a => k_is)
        (case l => k_is)
        (case c => k_is)
        (case k => k_is))
      (case x4 =>
        refine' Hue.Tx.of KX G (fun _ _ _ _ _ _ us hl => match us, hl with | [_], _ => rfl) ?a ?l ?c ?k
        (case a => k_is)
        (case l => k_is)
        (case c => k_is)
        (case k => k_is))
      (case x5 =>
        refine' Hue.Tx.of KX G (fun _ _ _ _ _ _ us hl => match us, hl with | [_], _ => rfl) ?a ?l ?c ?k
        (case a => k_is)
        (case l => k_is)
        (case c => k_is)
        (case k => k_is))
      (case x6 =>
        refine' Hue.Tx.of KX G (fun _ _ _ _ _ _ us hl => match us, hl with | [_, _, _], _ => rfl) ?a ?l ?c ?k
        (case a => k_is)
        (case l => k_is)
        (case c => k_is)
        (case k => k_is))
      (case x7 =>
        refine' Hue.Tx.of KX G (fun _ _ _ _ _ _ us hl => match us, hl with | [_, _], _ => rfl) ?a ?l ?c ?k
        (case a => k_is)
        (case l => k_is)
        (case c => k_is)
        (case k => k_is))
      (case x8 =>
        refine' Hue.Tx.of KX G (fun _ _ _ _ _ _ us hl => match us, hl with | [_, _, _], _ => rfl) ?a ?l ?c ?k
        (case a => k_is)
        (case l => k_is)
        (case c => k_is)
        (case k => k_is))
      (case x9 =>
        refine' Hue.Tx.of KX G (fun _ _ _ _ _ _ us hl => match us, hl with | [_, _, _], _ => rfl) ?a ?l ?c ?k
        (case a => k_is)
        (case l => k_is)
        (case c => k_is)
        (case k => k_is))
      (case x10 =>
        refine' Hue.Tx.of KX G (fun _ _ _ _ _ _ us hl => match us, hl with | [_], _ => rfl) ?a ?l ?c ?k
        (case a => k_is)
        (case l => k_is)
        (case c => k_is)
        (case k => k_is))
      (case x11 =>
        refine' Hue.Tx.of KX G (fun _ _ _ _ _ _ us hl => match us, hl with | [_, _], _ => rfl) ?a ?l ?c ?k
        (case a => k_is)
        (case l => k_is)
        (case c => k_is)
        (case k => k_is))
      (case x12 =>
        refine' Hue.Tx.of KX G (fun _ _ _ _ _ _ us hl => match us, hl with | [_], _ => rfl) ?a ?l ?c ?k
        (case a => k_is)
        (case l => k_is)
        (case c => k_is)
        (case k => k_is))
      (case x13 =>
        refine' Hue.Tx.of KX G (fun _ _ _ _ _ _ us hl => match us, hl with | [_], _ => rfl) ?a ?l ?c ?k
        (case a => k_is)
        (case l => k_is)
        (case c => k_is)
        (case k => k_is))
      (case x14 =>
        refine' Hue.Tx.of KX G (fun _ _ _ _ _ _ us hl => match us, hl with | [_, _], _ => rfl) ?a ?l ?c ?k
        (case a => k_is)
        (case l => k_is)
        (case c => k_is)
        (case k => k_is))
      (case x15 =>
        refine' Hue.Tx.of KX G (fun _ _ _ _ _ _ us hl => match us, hl with | [_], _ => rfl) ?a ?l ?c ?k
        (case a => k_is)
        (case l => k_is)
        (case c => k_is)
        (case k => k_is))
      (case x16 =>
        refine' Hue.Tx.of KX G (fun _ _ _ _ _ _ us hl => match us, hl with | [_, _], _ => rfl) ?a ?l ?c ?k
        (case a => k_is)
        (case l => k_is)
        (case c => k_is)
        (case k => k_is))
      (case x17 =>
        refine' Hue.Tx.of KX G (fun _ _ _ _ _ _ us hl => match us, hl with | [_, _], _ => rfl) ?a ?l ?c ?k
        (case a => k_is)
        (case l => k_is)
        (case c => k_is)
        (case k => k_is))
      (case x18 =>
        refine' Hue.Tx.of KX G (fun _ _ _ _ _ _ us hl => match us, hl with | [_, _], _ => rfl) ?a ?l ?c ?k
        (case a => k_is)
        (case l => k_is)
        (case c => k_is)
        (case k => k_is))
      (case x19 =>
        refine' Hue.Tx.of KX G (fun _ _ _ _ _ _ us hl => match us, hl with | [_], _ => rfl) ?a ?l ?c ?k
        (case a => k_is)
        (case l => k_is)
        (case c => k_is)
        (case k => k_is))
      (case x20 =>
        refine' Hue.Tx.of KX G (fun _ _ _ _ _ _ us hl => match us, hl with | [_, _], _ => rfl) ?a ?l ?c ?k
        (case a => k_is)
        (case l => k_is)
        (case c => k_is)
        (case k => k_is))
      (case x21 =>
        refine' Hue.Tx.of KX G (fun _ _ _ _ _ _ us hl => match us, hl with | [_], _ => rfl) ?a ?l ?c ?k
        (case a => k_is)
        (case l => k_is)
        (case c => k_is)
        (case k => k_is))
      (case x22 =>
        refine' Hue.Tx.of KX G (fun _ _ _ _ _ _ us hl => match us, hl with | [_], _ => rfl) ?a ?l ?c ?k
        (case a => k_is)
        (case l => k_is)
        (case c => k_is)
        (case k => k_is))
      (case x23 =>
        refine' Hue.Tx.of KX G (fun _ _ _ _ _ _ us hl => match us, hl with | [_, _], _ => rfl) ?a ?l ?c ?k
        (case a => k_is)
        (case l => k_is)
        (case c => k_is)
        (case k => k_is))
      (case x24 =>
        refine' Hue.Tx.of KX G (fun _ _ _ _ _ _ us hl => match us, hl with | [_, _, _], _ => rfl) ?a ?l ?c ?k
        (case a => k_is)
        (case l => k_is)
        (case c => k_is)
        (case k => k_is))
      (case x25 =>
        refine' Hue.Tx.of KX G (fun _ _ _ _ _ _ us hl => match us, hl with | [_, _, _, _], _ => rfl) ?a ?l ?c ?k
        (case a => k_is)
        (case l => k_is)
        (case c => k_is)
        (case k => k_is))
      (case x26 =>
        refine' Hue.Tx.of KX G (fun _ _ _ _ _ _ us hl => match us, hl with | [_, _, _, _], _ => rfl) ?a ?l ?c ?k
        (case a => k_is)
        (case l => k_is)
        (case c => k_is)
        (case k => k_is))
      (case x27 =>
        refine' Hue.Tx.of KX G (fun _ _ _ _ _ _ us hl => match us, hl with | [_, _], _ => rfl) ?a ?l ?c ?k
        (case a => k_is)
        (case l => k_is)
        (case c => k_is)
        (case k => k_is))
      (case x28 =>
        refine' Hue.Tx.of KX G (fun _ _ _ _ _ _ us hl => match us, hl with | [_, _, _], _ => rfl) ?a ?l ?c ?k
        (case a => k_is)
        (case l => k_is)
        (case c => k_is)
        (case k => k_is))
      (case x29 =>
        refine' Hue.Tx.of KX G (fun _ _ _ _ _ _ us hl => match us, hl with | [_, _], _ => rfl) ?a ?l ?c ?k
        (case a => k_is)
        (case l => k_is)
        (case c => k_is)
        (case k => k_is))
      (case x30 =>
        refine' Hue.Tx.of KX G (fun _ _ _ _ _ _ us hl => match us, hl with | [_], _ => rfl) ?a ?l ?c ?k
        (case a => k_is)
        (case l => k_is)
        (case c => k_is)
        (case k => k_is))
      (case x31 =>
        refine' Hue.Tx.of KX G (fun _ _ _ _ _ _ us hl => match us, hl with | [_, _], _ => rfl) ?a ?l ?c ?k
        (case a => k_is)
        (case l => k_is)
        (case c => k_is)
        (case k => k_is))
      (case x32 =>
        refine' Hue.Tx.of KX G (fun _ _ _ _ _ _ us hl => match us, hl with | [_, _], _ => rfl) ?a ?l ?c ?k
        (case a => k_is)
        (case l => k_is)
        (case c => k_is)
        (case k => k_is))
      (case x33 =>
        refine' Hue.Tx.of KX G (fun _ _ _ _ _ _ us hl => match us, hl with | [_, _, _, _], _ => rfl) ?a ?l ?c ?k
        (case a => k_is)
        (case l => k_is)
        (case c => k_is)
        (case k => k_is))
      (case x34 =>
        refine' Hue.Tx.of KX G (fun _ _ _ _ _ _ us hl => match us, hl with | [_, _, _], _ => rfl) ?a ?l ?c ?k
        (case a => k_is)
        (case l => k_is)
        (case c => k_is)
        (case k => k_is))
      (case x35 =>
        refine' Hue.Tx.of KX G (fun _ _ _ _ _ _ us hl => match us, hl with | [_, _], _ => rfl) ?a ?l ?c ?k
        (case a => k_is)
        (case l => k_is)
        (case c => k_is)
        (case k => k_is))
      (case x36 =>
        refine' Hue.Tx.of KX G (fun _ _ _ _ _ _ us hl => match us, hl with | [_, _, _, _], _ => rfl) ?a ?l ?c ?k
        (case a => k_is)
        (case l => k_is)
        (case c => k_is)
        (case k => k_is))
      (case x37 =>
        refine' Hue.Tx.of KX G (fun _ _ _ _ _ _ us hl => match us, hl with | [_], _ => rfl) ?a ?l ?c ?k
        (case a => k_is)
        (case l => k_is)
        (case c => k_is)
        (case k => k_is))
      (case x38 =>
        refine' Hue.Tx.of KX G (fun _ _ _ _ _ _ us hl => match us, hl with | [_], _ => rfl) ?a ?l ?c ?k
        (case a => k_is)
        (case l => k_is)
        (case c => k_is)
        (case k => k_is)))
    (case qXL =>
      refine' ⟨?x0, ?x1, ?x2, ?x3, ?x4, ?x5, ?x6⟩
      (case x0 =>
        refine' Hue.Tx.of KX G (fun _ _ _ _ _ _ us hl => match us, hl with | [_], _ => rfl) ?a ?l ?c ?k
        (case a => k_is)
        (case l => k_is)
        (case c => k_is)
        (case k => k_is))
      (case x1 =>
        refine' Hue.Tx.of KX G (fun _ _ _ _ _ _ us hl => match us, hl with | [_], _ => rfl) ?a ?l ?c ?k
        (case a => k_is)
        (case l => k_is)
        (case c => k_is)
        (case k => k_is))
      (case x2 =>
        refine' Hue.Tx.of KX G (fun _ _ _ _ _ _ us hl => match us, hl with | [_, _], _ => rfl) ?a ?l ?c ?k
        (case a => k_is)
        (case l => k_is)
        (case c => k_is)
        (case k => k_is))
      (case x3 =>
        refine' Hue.Tx.of KX G (fun _ _ _ _ _ _ us hl => match us, hl with | [_, _], _ => rfl) ?a ?l ?c ?k
        (case a => k_is)
        (case l => k_is)
        (case c => k_is)
        (case k => k_is))
      (case x4 =>
        refine' Hue.Tx.of KX G (fun _ _ _ _ _ _ us hl => match us, hl with | [_], _ => rfl) ?a ?l ?c ?k
        (case a => k_is)
        (case l => k_is)
        (case c => k_is)
        (case k => k_is))
      (case x5 =>
        refine' Hue.Tx.of KX G (fun _ _ _ _ _ _ us hl => match us, hl with | [_, _], _ => rfl) ?a ?l ?c ?k
        (case a => k_is)
        (case l => k_is)
        (case c => k_is)
        (case k => k_is))
      (case x6 =>
        refine' Hue.Tx.of KX G (fun _ _ _ _ _ _ us hl => match us, hl with | [_], _ => rfl) ?a ?l ?c ?k
        (case a => k_is)
        (case l => k_is)
        (case c => k_is)
        (case k => k_is)))
    (case qgB => k_is)
    (case qpgB => k_is)
    (case qhdB => k_is)
    (case qpoB => k_is)
    (case qsaB => k_is)
    (case qmkB => k_is)
    (case qkcB => k_is)
    (case qnBhues => k_is)
    (case qnBsize => k_is)
    (case qnBbank => k_is)
    (case qnBmany => k_is)
    (case qiB => k_is)
    (case qifB => k_is)
    (case qlB => k_is)
    (case qcB => k_is)
    (case qkB => k_is)
    (case qgW => k_is)
    (case qpgW => k_is)
    (case qhdW => k_is)
    (case qpoW => k_is)
    (case qsaW => k_is)
    (case qmkW => k_is)
    (case qkcW => k_is)
    (case qnWvotes => k_is)
    (case qnWsize => k_is)
    (case qnWfirst_tape => k_is)
    (case qnWtape => k_is)
    (case qnWnumbers => k_is)
    (case qnWbanks => k_is)
    (case qnWheads => k_is)
    (case qnWoffers => k_is)
    (case qnWgiven => k_is)
    (case qnWtaken => k_is)
    (case qnWplanned => k_is)
    (case qnWstruck_many => k_is)
    (case qnWshown => k_is)
    (case qnWdone => k_is)
    (case qnWword => k_is)
    (case qiW => k_is)
    (case qifW => k_is)
    (case qlW => k_is)
    (case qcW => k_is)
    (case qkW => k_is)
    (case qgM => k_is)
    (case qpgM => k_is)
    (case qhdM => k_is)
    (case qpoM => k_is)
    (case qsaM => k_is)
    (case qmkM => k_is)
    (case qkcM => k_is)
    (case qnM_code => k_is)
    (case qnM_works => k_is)
    (case qnMaddress => k_is)
    (case qiM => k_is)
    (case qifM => k_is)
    (case qlM => k_is)
    (case qcM => k_is)
    (case qkM => k_is)
    (case qdM => k_is)
    (case qeE => k_is)
    (case qgWORDS => k_is)
    (case qsWORDS =>
      refine' Hue.sqT_K ?l ?z ?v
      (case l => k_is)
      (case z => decide)
      (case v => repeat' (first | exact .nil | refine' .cons ⟨_, rfl⟩ ?_)))
    (case qgTWO => k_is)
    (case qsTWO =>
      refine' Hue.sqT_K ?l ?z ?v
      (case l => k_is)
      (case z => decide)
      (case v => repeat' (first | exact .nil | refine' .cons ⟨_, rfl⟩ ?_)))
    (case qgINSTRUCTIONS => k_is)
    (case qdINSTRUCTIONS => k_is)
    (case qlINSTRUCTIONS => repeat' (first | exact True.intro | refine' ⟨⟨_, _, rfl, rfl⟩, ?_⟩))
    (case qwINSTRUCTIONS => decide)
    (case qgSETTLES => k_is)
    (case qdSETTLES => k_is)
    (case qlSETTLES => repeat' (first | exact True.intro | refine' ⟨⟨_, _, rfl, rfl⟩, ?_⟩))
    (case qwSETTLES => decide)
    (case qgDOING => k_is)
    (case qdDOING => k_is)
    (case qlDOING => repeat' (first | exact True.intro | refine' ⟨⟨_, _, rfl, rfl⟩, ?_⟩))
    (case qwDOING => decide)
    (case qgSETTLING => k_is)
    (case qdSETTLING => k_is)
    (case qlSETTLING => repeat' (first | exact True.intro | refine' ⟨⟨_, _, rfl, rfl⟩, ?_⟩))
    (case qwSETTLING => decide)
    (case qiSet =>
      refine' Hue.KTexts.of ?e ?l ?z ?v
      (case e => k_is)
      (case l => k_is)
      (case z => decide)
      (case v => repeat' (first | exact .nil | refine' .cons ⟨_, rfl⟩ ?_)))
    (case qiGet =>
      refine' Hue.KTexts.of ?e ?l ?z ?v
      (case e => k_is)
      (case l => k_is)
      (case z => decide)
      (case v => repeat' (first | exact .nil | refine' .cons ⟨_, rfl⟩ ?_)))
    (case qiPut =>
      refine' Hue.KTexts.of ?e ?l ?z ?v
      (case e => k_is)
      (case l => k_is)
      (case z => decide)
      (case v => repeat' (first | exact .nil | refine' .cons ⟨_, rfl⟩ ?_)))
    (case qiOffer =>
      refine' Hue.KTexts.of ?e ?l ?z ?v
      (case e => k_is)
      (case l => k_is)
      (case z => decide)
      (case v => repeat' (first | exact .nil | refine' .cons ⟨_, rfl⟩ ?_)))
    (case qsShow =>
      refine' Hue.KTexts.of ?e ?l ?z ?v
      (case e => k_is)
      (case l => k_is)
      (case z => decide)
      (case v => repeat' (first | exact .nil | refine' .cons ⟨_, rfl⟩ ?_)))
    (case qsTurn =>
      refine' Hue.KTexts.of ?e ?l ?z ?v
      (case e => k_is)
      (case l => k_is)
      (case z => decide)
      (case v => repeat' (first | exact .nil | refine' .cons ⟨_, rfl⟩ ?_)))
    (case qsTake =>
      refine' Hue.KTexts.of ?e ?l ?z ?v
      (case e => k_is)
      (case l => k_is)
      (case z => decide)
      (case v => repeat' (first | exact .nil | refine' .cons ⟨_, rfl⟩ ?_)))
    (case qsGoto =>
      refine' Hue.KTexts.of ?e ?l ?z ?v
      (case e => k_is)
      (case l => k_is)
      (case z => decide)
      (case v => repeat' (first | exact .nil | refine' .cons ⟨_, rfl⟩ ?_)))
    (case qsStop =>
      refine' Hue.KTexts.of ?e ?l ?z ?v
      (case e => k_is)
      (case l => k_is)
      (case z => decide)
      (case v => repeat' (first | exact .nil | refine' .cons ⟨_, rfl⟩ ?_)))
    (case qsMark =>
      refine' Hue.KTexts.of ?e ?l ?z ?v
      (case e => k_is)
      (case l => k_is)
      (case z => decide)
      (case v => repeat' (first | exact .nil | refine' .cons ⟨_, rfl⟩ ?_)))
    (case qtO => k_is)
    (case qaO =>
      refine' Hue.ActT.of (fun _ _ _ _ _ _ us hl => match us, hl with | [_, _, _], _ => rfl) ?l ?c ?k
      (case l => k_is)
      (case c => k_is)
      (case k => k_is))
    (case qtE => k_is)
    (case qaE =>
      refine' Hue.ActT.of (fun _ _ _ _ _ _ us hl => match us, hl with | [_, _, _], _ => rfl) ?l ?c ?k
      (case l => k_is)
      (case c => k_is)
      (case k => k_is))
    (case qtS => k_is)
    (case qaS_ =>
      refine' Hue.ActT.of (fun _ _ _ _ _ _ us hl => match us, hl with | [_, _], _ => rfl) ?l ?c ?k
      (case l => k_is)
      (case c => k_is)
      (case k => k_is))
    (case qtH => k_is)
    (case qaH =>
      refine' Hue.ActT.of (fun _ _ _ _ _ _ us hl => match us, hl with | [_, _], _ => rfl) ?l ?c ?k
      (case l => k_is)
      (case c => k_is)
      (case k => k_is))
    (case qtU => k_is)
    (case qaU =>
      refine' Hue.ActT.of (fun _ _ _ _ _ _ us hl => match us, hl with | [_, _], _ => rfl) ?l ?c ?k
      (case l => k_is)
      (case c => k_is)
      (case k => k_is))
    (case qtY => k_is)
    (case qaY =>
      refine' Hue.ActT.of (fun _ _ _ _ _ _ us hl => match us, hl with | [_, _], _ => rfl) ?l ?c ?k
      (case l => k_is)
      (case c => k_is)
      (case k => k_is))
    (case qtZ => k_is)
    (case qaZ =>
      refine' Hue.ActT.of (fun _ _ _ _ _ _ us hl => match us, hl with | [_, _], _ => rfl) ?l ?c ?k
      (case l => k_is)
      (case c => k_is)
      (case k => k_is))
    (case qtV => k_is)
    (case qaV =>
      refine' Hue.ActT.of (fun _ _ _ _ _ _ us hl => match us, hl with | [_, _], _ => rfl) ?l ?c ?k
      (case l => k_is)
      (case c => k_is)
      (case k => k_is))
    (case qtX => k_is)
    (case qaX =>
      refine' Hue.ActT.of (fun _ _ _ _ _ _ us hl => match us, hl with | [_, _, _], _ => rfl) ?l ?c ?k
      (case l => k_is)
      (case c => k_is)
      (case k => k_is))
    (case qtP => k_is)
    (case qaP =>
      refine' Hue.ActT.of (fun _ _ _ _ _ _ us hl => match us, hl with | [_, _, _], _ => rfl) ?l ?c ?k
      (case l => k_is)
      (case c => k_is)
      (case k => k_is))
    (case qneD => decide)
    (case qneG => decide)
    (case qgP =>
      refine' Hue.IntG.of KX G ?z
      (case z => k_is))
    (case qmStk =>
      refine' Hue.StkT.of ?a ?i ?l ?c ?k
      (case a => k_is)
      (case i => k_is)
      (case l => k_is)
      (case c => k_is)
      (case k => k_is))
    (case qm_go =>
      refine' Hue.MethT.of (fun _ _ _ _ _ _ us hl => match us, hl with | [_, _], _ => rfl) ?a ?i ?l ?c ?k
      (case a => k_is)
      (case i => k_is)
      (case l => k_is)
      (case c => k_is)
      (case k => k_is))
    (case qm__look =>
      refine' Hue.MethT.of (fun _ _ _ _ _ _ us hl => match us, hl with | [_], _ => rfl) ?a ?i ?l ?c ?k
      (case a => k_is)
      (case i => k_is)
      (case l => k_is)
      (case c => k_is)
      (case k => k_is))
    (case qm_registers =>
      refine' Hue.MethT.of (fun _ _ _ _ _ _ us hl => match us, hl with | [_, _], _ => rfl) ?a ?i ?l ?c ?k
      (case a => k_is)
      (case i => k_is)
      (case l => k_is)
      (case c => k_is)
      (case k => k_is))
    (case qm_cells =>
      refine' Hue.MethT.of (fun _ _ _ _ _ _ us hl => match us, hl with | [_, _], _ => rfl) ?a ?i ?l ?c ?k
      (case a => k_is)
      (case i => k_is)
      (case l => k_is)
      (case c => k_is)
      (case k => k_is))
    (case qm_own =>
      refine' Hue.MethT.of (fun _ _ _ _ _ _ us hl => match us, hl with | [_, _, _], _ => rfl) ?a ?i ?l ?c ?k
      (case a => k_is)
      (case i => k_is)
      (case l => k_is)
      (case c => k_is)
      (case k => k_is))
    (case qm_moment =>
      refine' Hue.MethT.of (fun _ _ _ _ _ _ us hl => match us, hl with | [_], _ => rfl) ?a ?i ?l ?c ?k
      (case a => k_is)
      (case i => k_is)
      (case l => k_is)
      (case c => k_is)
      (case k => k_is))
    (case qp_row =>
      refine' Hue.PropT.of (fun _ _ _ _ _ _ us hl => match us, hl with | [_], _ => rfl) ?a ?g ?t ?r ?l ?c ?k
      (case a => k_is)
      (case g => k_is)
      (case t => k_is)
      (case r => k_is)
      (case l => k_is)
      (case c => k_is)
      (case k => k_is))
    (case qp_steps =>
      refine' Hue.PropT.of (fun _ _ _ _ _ _ us hl => match us, hl with | [_], _ => rfl) ?a ?g ?t ?r ?l ?c ?k
      (case a => k_is)
      (case g => k_is)
      (case t => k_is)
      (case r => k_is)
      (case l => k_is)
      (case c => k_is)
      (case k => k_is))
    (case qp_state =>
      refine' Hue.PropT.of (fun _ _ _ _ _ _ us hl => match us, hl with | [_], _ => rfl) ?a ?g ?t ?r ?l ?c ?k
      (case a => k_is)
      (case g => k_is)
      (case t => k_is)
      (case r => k_is)
      (case l => k_is)
      (case c => k_is)
      (case k => k_is))
    (case qp_slots =>
      refine' Hue.PropT.of (fun _ _ _ _ _ _ us hl => match us, hl with | [_], _ => rfl) ?a ?g ?t ?r ?l ?c ?k
      (case a => k_is)
      (case g => k_is)
      (case t => k_is)
      (case r => k_is)
      (case l => k_is)
      (case c => k_is)
      (case k => k_is))
    (case qp_pointers =>
      refine' Hue.PropT.of (fun _ _ _ _ _ _ us hl => match us, hl with | [_], _ => rfl) ?a ?g ?t ?r ?l ?c ?k
      (case a => k_is)
      (case g => k_is)
      (case t => k_is)
      (case r => k_is)
      (case l => k_is)
      (case c => k_is)
      (case k => k_is))
    (case qp_left =>
      refine' Hue.PropT.of (fun _ _ _ _ _ _ us hl => match us, hl with | [_], _ => rfl) ?a ?g ?t ?r ?l ?c ?k
      (case a => k_is)
      (case g => k_is)
      (case t => k_is)
      (case r => k_is)
      (case l => k_is)
      (case c => k_is)
      (case k => k_is))
    (case qaLaw => k_is)
    (case qlLaw => k_is)
    (case qcLaw => k_is)
    (case qkLaw => k_is)
