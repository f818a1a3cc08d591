import PyProof.Rows.All
import Wide.All
import OpenK.AllK
import Wide.FinOn
import HandS.ForMost
import HandS.Flow
import HandS.Wide
import HandS.Walk
import KE.GoesMore
import HandS.OwnEq
import PyProof.InstNe
import PyProof.NeKinds
import PyProof.IsRules
import HandS.IsInst
import HandS.TupAny
import HandS.ExcInit
import HandS.ExcField
import HandS.WordsExc
import HandS.Defaults
import PyProof.P3In
import HandS.Deep
import HandS.Lambda
import HandS.More
import HandS.Conv
import HandS.Exc
import HandS.TryMany
import HandS.EndTab
import HandS.ExcOwn
import PySem.Challenge.RW_betweenlooks_k32_timings_made_and_kept
set_option Elab.async false
set_option maxRecDepth 100000
namespace K1
open PySem L2
def top (i : Nat) : Stmt := PySem.Challenge.pw_betweenlooks_k32_timings_made_and_kept.main.body.getD i (.Pass ⟨0, 0, 0, 0⟩)
abbrev sPen : Stmt := top 26
abbrev sDraw : Stmt := top 27
abbrev sPick : Stmt := top 28
abbrev sWords : Stmt := top 30
/-! the pen: a dict of three -/
abbrev kCells : Key := Sum.inr "cells"
abbrev kAt : Key := Sum.inr "at"
abbrev kLeft : Key := Sum.inr "left"
theorem n_ca : ¬ (kCells = kAt) := by decide +kernel
theorem n_cl : ¬ (kCells = kLeft) := by decide +kernel
theorem n_al : ¬ (kAt = kLeft) := by decide +kernel
theorem n_la : ¬ (kLeft = kAt) := by decide +kernel
theorem n_ac : ¬ (kAt = kCells) := by decide +kernel
theorem n_lc : ¬ (kLeft = kCells) := by decide +kernel
def penK (c : Addr) (a l : Int) : List (Key × V) := [(kCells, .ref c), (kAt, .int a), (kLeft, .int l)]
theorem penK_cells (c : Addr) (a l : Int) : valV (penK c a l) kCells = some (.ref c) := valV_pos rfl
theorem penK_at (c : Addr) (a l : Int) : valV (penK c a l) kAt = some (.int a) := by
  unfold penK; rw [valV_neg n_ca]; exact valV_pos rfl
theorem penK_left (c : Addr) (a l : Int) : valV (penK c a l) kLeft = some (.int l) := by
  unfold penK; rw [valV_neg n_cl, valV_neg n_al]; exact valV_pos rfl
theorem penK_put_at (c : Addr) (a l b : Int) : putK (penK c a l) kAt (.int b) = penK c b l := by
  have h1 : ¬ (("cells" : Str) = "at") := by decide +kernel
  have h2 : ¬ (("left" : Str) = "at") := by decide +kernel
  unfold penK putK; simp [h1, h2]
theorem penK_put_left (c : Addr) (a l b : Int) : putK (penK c a l) kLeft (.int b) = penK c a b := by
  have h1 : ¬ (("cells" : Str) = "left") := by decide +kernel
  have h2 : ¬ (("at" : Str) = "left") := by decide +kernel
  unfold penK putK; simp [h1, h2]
/-- at d stands a pen that was drawn from at most n times -/
def PenAt (H : Hp) (d c : Addr) (n : Nat) : Prop := ∃ (ns : List Int) (a l : Int), H d = some (.dK (penK c a l)) ∧ H c = some (.lst (ns.map V.int)) ∧ ns.length ≤ 63 ∧ 0 ≤ a ∧ a ≤ n
/-- all but d is kept -/
def Kept (d : Addr) (H H' : Hp) : Prop := ∀ b o, H b = some o → b ≠ d → H' b = some o
theorem Kept.refl (d : Addr) (H : Hp) : Kept d H H := fun _ _ e _ => e
theorem Kept.trans {d : Addr} {H H1 H2 : Hp} (a : Kept d H H1) (b : Kept d H1 H2) : Kept d H H2 := fun c o e n => b c o (a c o e n) n
theorem Kept.same {d : Addr} {H H1 : Hp} (a : Same H H1) : Kept d H H1 := fun c o e _ => a c o e
theorem same_upd {H : Hp} {p : Addr} {o : HO} (h : H p = none) : Same H (upd H p o) := fun b u e => by rw [upd_ne (ne_of_none e h)]; exact e
theorem PenAt.mono {H : Hp} {d c : Addr} {n m : Nat} (h : PenAt H d c n) (l : n ≤ m) : PenAt H d c m := by
  obtain ⟨ns, a, x, h1, h2, h3, h4, h5⟩ := h
  exact ⟨ns, a, x, h1, h2, h3, h4, by omega⟩
theorem PenAt.same {H H' : Hp} {d c : Addr} {n : Nat} (h : PenAt H d c n) (s : Same H H') : PenAt H' d c n := by
  obtain ⟨ns, a, x, h1, h2, h3⟩ := h
  exact ⟨ns, a, x, s _ _ h1, s _ _ h2, h3⟩
theorem PenAt.ne {H : Hp} {d c D : Addr} {n : Nat} (h : PenAt H d c n) (z : H D = none) : D ≠ d ∧ D ≠ c := by
  obtain ⟨ns, a, x, h1, h2, h3⟩ := h
  exact ⟨(ne_of_none h1 z).symm, (ne_of_none h2 z).symm⟩
theorem PenAt.upd {H : Hp} {d c D : Addr} {n : Nat} {o : HO} (h : PenAt H d c n) (n1 : D ≠ d) (n2 : D ≠ c) : PenAt (upd H D o) d c n := by
  obtain ⟨ns, a, x, h1, h2, h3⟩ := h
  exact ⟨ns, a, x, by rw [upd_ne n1.symm]; exact h1, by rw [upd_ne n2.symm]; exact h2, h3⟩
theorem Kept.upd {d D : Addr} {H0 H : Hp} {o : HO} (k : Kept d H0 H) (h : H0 D = none) : Kept d H0 (upd H D o) := fun b u e nb => by
  rw [upd_ne (ne_of_none e h)]; exact k b u e nb
theorem Kept.free {d c : Addr} {H H' : Hp} {n : Nat} (k : Kept d H H') (p : PenAt H' d c n) {l : Addr} (h : H' l = none) : H l = none := by
  cases q : H l with
  | none => rfl
  | some o =>
    by_cases e : l = d
    · obtain ⟨ns, a, x, h1, _⟩ := p
      subst e; rw [h] at h1; cases h1
    · have := k l o q e; rw [h] at this; cases this
theorem penK_len (c : Addr) (a l : Int) : (penK c a l).length < sizeLine := by show 3 < sizeLine; decide
theorem dp_ints {K : PySem.W.Frag} {H : Hp} : ∀ ns : List Int, DpAll K H (ns.map V.int) (ns.map PyData.int)
  | [] => .nil
  | n :: r => .cons (.int n) (dp_ints r)
theorem canLay_ints : ∀ ns : List Int, PyData.canLayAll0 (ns.map PyData.int) = true
  | [] => rfl
  | n :: r => by simp [PyData.canLayAll0, PyData.canLay0, canLay_ints r]
theorem eqv_ints_nil (ns : List Int) : PyData.eqv (.list (ns.map PyData.int)) (.list []) = ns.isEmpty := by
  cases ns <;> simp [PyData.eqv, PyData.eqvAll]
theorem shaped_ints (ns : List Int) : SeqAt.shaped (.list (ns.map PyData.int)) = true := by
  have h : ∀ ns : List Int, PyData.depthAll (ns.map PyData.int) ≤ 1 := by
    intro ns
    induction ns with
    | nil => decide
    | cons n r ih => simp only [List.map_cons, PyData.depthAll, PyData.depth]; omega
  have h1 := h ns
  unfold SeqAt.shaped
  rw [PyData.canLay0, canLay_ints, PyData.depth]
  simp only [Bool.true_and, decide_eq_true_eq]
  omega
theorem map_get {ns : List Int} {j : Nat} (h : j < ns.length) : (ns.map V.int)[j]? = some (V.int (ns.getD j 0)) := by
  simp [List.getElem?_eq_getElem h, h]
theorem fmod_nat {a m : Int} (hm : 0 < m) : ∃ j : Nat, a.fmod m = (j : Int) ∧ (j : Int) < m := by
  have h1 := Int.fmod_nonneg_of_pos a hm
  have h2 := Int.fmod_lt_of_pos a hm
  exact ⟨(a.fmod m).toNat, by omega, by omega⟩
theorem fmod_bd {a m : Int} (hm : 0 < m) (hM : m ≤ 2147483648) : -(2 ^ 64) < a.fmod m ∧ a.fmod m < 2 ^ 64 := by
  have h1 := Int.fmod_nonneg_of_pos a hm
  have h2 := Int.fmod_lt_of_pos a hm
  exact ⟨by omega, by omega⟩
structure Bt (mg : Str → Option Value) : Prop where
  int : mg "int" = none
  len : mg "len" = none
  list : mg "list" = none
  range : mg "range" = none
  tuple : mg "tuple" = none
/-- draw: r below many; the pen has been drawn from once more; all else is kept -/
def spDraw : Sp := fun vs H Q _ => ∃ (d c : Addr) (n : Nat) (many : Int), vs = [.ref d, .int many] ∧ PenAt H d c n ∧ n ≤ 1000000 ∧ 0 < many ∧ many < 1073741824 ∧
  ∀ (r : Int) (H' : Hp), 0 ≤ r → r < many → PenAt H' d c (n + 1) → Kept d H H' → Q (.int r) H'
section
variable {P : Program} {w : World} {K : PySem.W.Frag} {mg : Str → Option Value} {base : Heap}
theorem scDraw : FnScope ["_law_pen_here", "_law_many", "_law_digit", "_law_at", "_law_cell", "_law_mixed"] ["_law_pen_here", "_law_many"] (defScope sDraw) := ⟨rfl, rfl, rfl, by decide +kernel, rfl, by decide +kernel, by decide +kernel⟩
theorem ok_draw {f : Addr} {fd : FuncData} (F : Fun K "_law_draw" "_law_draw" sDraw f fd) (T : Bt mg) : FnOk P w K mg base CX0 1 f fd ["_law_pen_here", "_law_many"] spDraw := by
  refine F.ok scDraw (fun vs H Q E h => ?_) (fun cdv A outer s H vs Q E hr h => ?_)
  · obtain ⟨d, c, n, many, rfl, _⟩ := h
    rfl
  · obtain ⟨d, c, n, many, rfl, ⟨ns, a, l, hd, hc, hns, ha0, ha1⟩, hn, hm0, hm1, k⟩ := h
    have hu := hu_of hr
    have ncd : c ≠ d := ne_of hc hd (by intro z; cases z)
    have gL : DGet H d (.str "left") (some (.int l)) := by have := DGet.k (k := kLeft) hd; rw [penK_left] at this; exact this
    refine ⟨_, pss_cons (ps_if (pt_cmpR op_ge (pe_dget hu (pv 0) pe_str (fun _ _ => rfl)) (pv 1) (nomark _))
        (pss_cons (ps_set (i := 2) scDraw.nd rfl (Or.inl rfl) (pe_op op_modN (pe_callTy call_int1 (by rfl) T.int (by decide +kernel) (pa_cons (pe_dget hu (pv 0) pe_str (fun _ _ => rfl)) pa_nil)) (pv 1)))
        (pss_cons (ps_dput hu (pv 0) pe_str (pe_op op_fdivN (pe_dget hu (pv 0) pe_str (fun _ _ => rfl)) (pv 1)) rfl)
        (pss_one (ps_ret (pv 2))))) pss_nil)
      (pss_cons (ps_set (i := 3) scDraw.nd rfl (Or.inl rfl) (pe_dget hu (pv 0) pe_str (fun _ _ => rfl)))
      (pss_cons (ps_dput hu (pv 0) pe_str (pe_op op_add (pv 3) pe_int) rfl)
      (pss_cons (ps_set (i := 4) scDraw.nd rfl (Or.inl rfl) (pe_op op_add (pe_op op_mul pe_int (pv 3)) pe_int))
      (pss_cons (ps_if (pt_cmpR (op_neD hr.units) (pe_dget hu (pv 0) pe_str (fun _ _ => rfl)) (pe_lst pa_nil) (nomark _))
          (pss_one (ps_set (i := 4) scDraw.nd rfl (Or.inl rfl) (pe_ix ix_list (pe_dget hu (pv 0) pe_str (fun _ _ => rfl)) (pe_op op_modN (pe_callTy call_int1 (by rfl) T.int (by decide +kernel) (pa_cons (pv 3) pa_nil)) (pe_callB call_len (by rfl) T.len PySem.boot_len (pa_cons (pe_dget hu (pv 0) pe_str (fun _ _ => rfl)) pa_nil))) (fun _ _ => rfl)))) pss_nil)
      (pss_cons (ps_if (PW.pt (pw_and (pt_cmpR op_lt (pv 3) (pe_callB call_len (by rfl) T.len PySem.boot_len (pa_cons (pe_dget hu (pv 0) pe_str (fun _ _ => rfl)) pa_nil)) (nomark _)) (pw_and1 (pt_cmpR op_ge (pv 4) (pe_op op_pow pe_int pe_int) (nomark _)))))
          (pss_cons (ps_dput hu (pv 0) pe_str (pe_op op_fdivN (pe_op op_sub (pv 4) (pe_op op_pow pe_int pe_int)) (pv 1)) rfl)
          (pss_one (ps_ret (pe_op op_modN (pe_callTy call_int1 (by rfl) T.int (by decide +kernel) (pa_cons (pe_op op_sub (pv 4) (pe_op op_pow pe_int pe_int)) pa_nil)) (pv 1))))) pss_nil)
      (pss_cons (ps_set (i := 5) scDraw.nd rfl (Or.inl rfl) (pe_op op_add (pe_op op_add (pe_op op_add (pe_op op_mul (pe_op op_modN (pe_callTy call_int1 (by rfl) T.int (by decide +kernel) (pa_cons (pv 4) pa_nil)) pe_int) pe_int) (pe_op op_mul (pe_op op_mul pe_int (pv 3)) (pv 3))) (pe_op op_mul pe_int (pv 3))) pe_int))
      (pss_cons (ps_set (i := 5) scDraw.nd rfl (Or.inl rfl) (pe_op op_modN (pe_callTy call_int1 (by rfl) T.int (by decide +kernel) (pa_cons (pv 5) pa_nil)) pe_int))
      (pss_cons (ps_set (i := 5) scDraw.nd rfl (Or.inl rfl) (pe_op op_modN (pe_callTy call_int1 (by rfl) T.int (by decide +kernel) (pa_cons (pe_op op_mul (pv 5) (pe_op op_add (pv 5) pe_int)) pa_nil)) pe_int))
      (pss_one (ps_ret (pe_op op_modN (pe_callTy call_int1 (by rfl) T.int (by decide +kernel) (pa_cons (pe_op op_fdivN (pe_op op_modN (pe_callTy call_int1 (by rfl) T.int (by decide +kernel) (pa_cons (pe_op op_mul (pv 5) (pv 5)) pa_nil)) pe_int) pe_int) pa_nil)) (pv 1)))))))))))), ?_⟩
    -- pen['left'] >= many
    refine ⟨_, rfl, d, _, rfl, gL, _, rfl, _, _, rfl, rfl, _, rfl, ?_⟩
    refine ite2 (fun _ => ?_) (fun _ => ?_)
    · refine ⟨_, rfl, d, _, rfl, gL, .inl ⟨_, rfl, ?_⟩⟩
      refine ⟨_, rfl, _, _, rfl, rfl, (by omega), ?_⟩
      refine ⟨_, rfl, d, _, rfl, gL, _, rfl, _, _, rfl, rfl, ⟨by omega, by omega⟩, ?_⟩
      refine ⟨_, rfl, d, _, rfl, DPut.k (k := kLeft) hd (penK_len _ _ _), ?_⟩
      refine ⟨_, rfl, ?_⟩
      refine k _ _ (Int.fmod_nonneg_of_pos _ hm0) (Int.fmod_lt_of_pos _ hm0) ⟨ns, a, l.fdiv many, ?_, ?_, hns, ha0, by omega⟩ ?_
      · rw [upd_same, penK_put_left]
      · rw [upd_ne ncd]; exact hc
      · intro b o e nb; rw [upd_ne nb]; exact e
    · have gA : DGet H d (.str "at") (some (.int a)) := by have := DGet.k (k := kAt) hd; rw [penK_at] at this; exact this
      refine ⟨_, rfl, d, _, rfl, gA, ?_⟩
      refine ⟨_, rfl, _, _, rfl, rfl, _, rfl, d, _, rfl, DPut.k (k := kAt) hd (penK_len _ _ _), ?_⟩
      rw [penK_put_at]
      have hd1 : upd H d (.dK (penK c (a + 1) l)) d = some (.dK (penK c (a + 1) l)) := upd_same
      have hc1 : upd H d (.dK (penK c (a + 1) l)) c = some (.lst (ns.map V.int)) := by rw [upd_ne ncd]; exact hc
      have kp1 : Kept d H (upd H d (.dK (penK c (a + 1) l))) := fun b o e nb => by rw [upd_ne nb]; exact e
      generalize upd H d (.dK (penK c (a + 1) l)) = H1 at hd1 hc1 kp1 ⊢
      refine ⟨_, rfl, _, _, rfl, rfl, .inl ⟨by decide, by decide⟩, _, _, rfl, rfl, ?_⟩
      have gC1 : DGet H1 d (.str "cells") (some (.ref c)) := by have := DGet.k (k := kCells) hd1; rw [penK_cells] at this; exact this
      refine ⟨_, rfl, d, _, rfl, gC1, Nat.zero_le _, fun q hq => ?_⟩
      have sm : Same H1 (upd H1 q (.lst [])) := same_upd hq
      have hq1 : upd H1 q (.lst []) q = some (.lst []) := upd_same
      have hd2 := sm _ _ hd1
      have hc2 := sm _ _ hc1
      have kp2 : Kept d H (upd H1 q (.lst [])) := kp1.trans (.same sm)
      generalize upd H1 q (.lst []) = H2 at hq1 hd2 hc2 kp2 ⊢
      have gC2 : DGet H2 d (.str "cells") (some (.ref c)) := by have := DGet.k (k := kCells) hd2; rw [penK_cells] at this; exact this
      refine ⟨_, _, .lst (SqL.of hc2) (dp_ints ns), .lst (SqL.of hq1) .nil, shaped_ints ns, by decide +kernel, _, rfl, ?_⟩
      rw [eqv_ints_nil]
      have len2 : LenV K (.ref c) H2 ns.length := .inl ⟨_, SqL.of hc2, (List.length_map _).symm⟩
      have hpos : (!ns.isEmpty) = true → 0 < ns.length := fun hne => by
        cases ns with
        | nil => cases hne
        | cons _ _ => exact Nat.succ_pos _
      have hix : (!ns.isEmpty) = true → atI (ns.map V.int) (a.fmod (ns.length : Int)) = some (V.int (ns.getD (a.fmod (ns.length : Int)).toNat 0)) := fun hne => by
        have hp := hpos hne
        obtain ⟨j, ej, hj⟩ := fmod_nat (a := a) (m := (ns.length : Int)) (by omega)
        rw [ej]
        exact atI_nat (map_get (by omega))
      refine ite2 (fun hne => ⟨_, rfl, d, _, rfl, gC2, _, rfl, .inl ⟨_, rfl, ⟨_, rfl, d, _, rfl, gC2, _, _, rfl, len2, _, _, rfl, rfl, (by have := hpos hne; omega), c, _, _, _, rfl, rfl, SqL.of hc2, hix hne, ?_⟩⟩⟩) (fun _ => ?_)
      all_goals
        refine ⟨_, rfl, _, rfl, d, _, rfl, gC2, _, _, rfl, len2, _, _, rfl, rfl, _, rfl, ?_⟩
        have fin : ∀ (H3 : Hp) (l' : Int) (r : Int), H3 d = some (.dK (penK c (a + 1) l')) → H3 c = some (.lst (ns.map V.int)) → Kept d H H3 → Q (.int (r.fmod many)) H3 := fun H3 l' r e1 e2 e3 =>
          k _ _ (Int.fmod_nonneg_of_pos _ hm0) (Int.fmod_lt_of_pos _ hm0) ⟨ns, a + 1, l', e1, e2, hns, by omega, by omega⟩ e3
        refine ite2 (fun _ => ⟨_, rfl, _, _, rfl, rfl, ⟨by decide, by decide, by decide⟩, _, _, rfl, rfl, _, rfl, ite2 (fun _ => ?_) (fun _ => ?_)⟩) (fun _ => ?_)
        ·
          refine ⟨_, rfl, _, _, rfl, rfl, ⟨by decide, by decide, by decide⟩, _, _, rfl, rfl, _, rfl, _, _, rfl, rfl, ⟨by omega, by omega⟩, _, rfl, d, _, rfl, DPut.k (k := kLeft) hd2 (penK_len _ _ _), ?_⟩
          rw [penK_put_left]
          refine ⟨_, rfl, _, _, rfl, rfl, ⟨by decide, by decide, by decide⟩, _, _, rfl, rfl, .inl ⟨_, rfl, ?_⟩⟩
          refine ⟨_, rfl, _, _, rfl, rfl, (by omega), ?_⟩
          refine fin _ _ _ upd_same (by rw [upd_ne ncd]; exact hc2) (fun b o e nb => by rw [upd_ne nb]; exact kp2 b o e nb)
        all_goals
          refine ⟨_, rfl, .inl ⟨_, rfl, ?_⟩⟩
          refine ⟨_, _, rfl, rfl, (by omega), ?_⟩
          refine ⟨_, _, rfl, rfl, .inr ⟨by decide, by decide⟩, ?_⟩
          refine ⟨_, rfl, _, _, rfl, rfl, .inl ⟨by decide, by decide⟩, _, rfl, _, _, rfl, rfl, .inr ⟨by omega, by omega⟩, ?_⟩
          refine ⟨_, _, rfl, rfl, _, rfl, _, _, rfl, rfl, .inl ⟨by decide, by decide⟩, ?_⟩
          refine ⟨_, _, rfl, rfl, _, _, rfl, rfl, ?_⟩
          -- mixed = int(mixed) % 2147483647
          refine ⟨_, rfl, .inl ⟨_, rfl, ?_⟩⟩
          refine ⟨_, _, rfl, rfl, (by omega), ?_⟩
          refine ⟨_, rfl, _, rfl, _, _, rfl, rfl, _, _, rfl, rfl, .inl (fmod_bd (by decide) (by decide)), .inl ⟨_, rfl, ?_⟩⟩
          refine ⟨_, _, rfl, rfl, (by omega), ?_⟩
          refine ⟨_, rfl, _, rfl, _, _, rfl, rfl, .inl (fmod_bd (by decide) (by decide)), .inl ⟨_, rfl, ?_⟩⟩
          refine ⟨_, _, rfl, rfl, (by omega), _, _, rfl, rfl, ⟨by decide, by decide⟩, .inl ⟨_, rfl, ?_⟩⟩
          refine ⟨_, rfl, _, _, rfl, rfl, (by omega), ?_⟩
          exact fin _ _ _ hd2 hc2 kp2
end
end K1
set_option Elab.async false
set_option linter.all false
set_option maxRecDepth 100000
namespace EO
open PySem
open AutoSeq1 (wpAny_loadPart')
set_option maxHeartbeats 1000000 in
theorem meets_enumerate_newT (l : Addr) (items : Array Value) (n : Nat) (dct : Option Addr) (sl : Array (Option Value)) :
    Meets (Builtin.«enumerate.__new__» ⟨[.type "enumerate", .ref l], []⟩) (fun _ R s => s.heap.get? l = some { cls := .type "tuple", dict := dct, data := .seq items n, slots := sl } ∧
      R (.ok (.ret (.ref (s.heap.push { cls := .type "tuple_iterator", data := .fields #[.ref l, .int 0 0] }).objs.size)))
        { s with heap := (s.heap.push { cls := .type "tuple_iterator", data := .fields #[.ref l, .int 0 0] }).push { cls := .type "enumerate", data := .fields #[.none, .bool false, .ref s.heap.objs.size, rawInt 0, .none, .none] } }) :=
  .of_wp fun prog w A R s h => by
    obtain ⟨hp, g, d, tk, os⟩ := s; obtain ⟨hl, h⟩ := h
    have hsub := sub_enumerate
    have hL : Heap.IsTuple (Shared.heap ⟨hp, g, d, tk, os⟩) l items := ⟨_, hl, rfl, n, rfl⟩
    wp_walk using wpAny_loadPart' hl
    refine wpAny_stack_any fun st => wpAny_pure ?_
    split
    · rename_i c _ _ _ _ _
      cases (c == Value.type "enumerate")
      · wp_walk using wpAny_loadPart' hl, wpAny_pyIter_tuple hL
        exact ⟨_, rfl, h⟩
      · wp_walk using wpAny_loadPart' hl, wpAny_pyIter_tuple hL
        exact ⟨_, rfl, h⟩
    · wp_walk using wpAny_loadPart' hl, wpAny_pyIter_tuple hL
      exact ⟨_, rfl, h⟩
section
variable {prog : Program} {w : World} {A : Around} {E : Value → Shared → Prop} {s : Shared}
theorem call_enumerate_tuple {l : Addr} {items : Array Value} {Q : Value → Shared → Prop} (hL : s.heap.IsTuple l items)
    (h : ∀ h', IsEnum h' (s.heap.objs.size + 1) s.heap.objs.size 0 .none → h'.IsTupleIter s.heap.objs.size l 0 → h'.objs.size = s.heap.objs.size + 2 →
      (∀ b o, s.heap.get? b = some o → h'.get? b = some o) → Q (.ref (s.heap.objs.size + 1)) { s with heap := h' }) :
    wpAny (model prog w) A (call (.type "enumerate") [.ref l]) Q E s := by
  obtain ⟨⟨c, dct, dt, sl⟩, hl, hc, n, hd⟩ := hL
  replace hc : c = .type "tuple" := hc
  replace hd : dt = .seq items n := hd
  subst hc hd
  refine callType_new F.called_enumerate (by decide) (F.typeCall_enumerate_1 _) (F.newCall_enumerate_1 _) (fun obj => F.args_object_init_2 obj _) F.entry_enumerate_new
    (meets_enumerate_newT l items n dct sl) ⟨hl, ?_⟩
  have hz : (s.heap.push { cls := .type "tuple_iterator", data := .fields #[.ref l, .int 0 0] }).objs.size = s.heap.objs.size + 1 := Heap.size_push ..
  show _ ∧ _
  rw [hz]
  have he : IsEnum ((s.heap.push { cls := .type "tuple_iterator", data := .fields #[.ref l, .int 0 0] }).push
      { cls := .type "enumerate", data := .fields #[.none, .bool false, .ref s.heap.objs.size, rawInt 0, .none, .none] }) (s.heap.objs.size + 1) s.heap.objs.size 0 .none := by
    have := Heap.get?_push_size (s.heap.push { cls := .type "tuple_iterator", data := .fields #[.ref l, .int 0 0] })
      (o := { cls := .type "enumerate", data := .fields #[.none, .bool false, .ref s.heap.objs.size, rawInt 0, .none, .none] }) rfl
    rw [hz] at this; exact this
  refine ⟨⟨_, he, rfl⟩, h _ he ⟨_, Heap.get?_push_of_some _ (Heap.get?_push_size _ rfl), rfl, rfl⟩ (by rw [Heap.size_push, hz]) fun b o x => Heap.get?_push_of_some _ (Heap.get?_push_of_some _ x)⟩
theorem enumT_end {e it t : Addr} {i : Nat} {k : Int} {items : Array Value} {old : Value} {Q : Option Value → Shared → Prop} (hh : A.handled = none)
    (he : IsEnum s.heap e it k old) (hit : s.heap.IsTupleIter it t i) (ht : s.heap.IsTuple t items) (hx : items[i]? = none)
    (hQ : ∀ h', Heap.ExtBut it s.heap h' → Q none { s with heap := h' }) : wpAny (model prog w) A (pyNext (.ref e)) Q E s := by
  have hT : s.TypeIs (.ref e) "enumerate" := ⟨_, he, rfl⟩
  unfold pyNext
  refine wpAny_bind (wpAny_attempt (wpAny_callSpecial?_slot (name := Str.ofString "__next__") hT F.slot_enumerate_next
    (wpAny_call_entry F.slot_enumerate_next hT F.entry_enumerate_next ?_ (F.args_enumerate_next_1 _))))
  show wpAny _ _ (field (.ref e) 2 >>= _) _ _ _
  refine wpAny_bind (wpAny_field he rfl (x := .ref it) rfl ?_)
  refine wpAny_bind (wpAny_nextOf_tuple_end hh hit ht hx fun h' x he' hx' => ?_)
  obtain ⟨o, ho, hc⟩ := hx'
  refine wpAny_bind (wpAny_isInstance (T := "StopIteration") (b := true) ⟨o, ho, hc⟩ isSubtype_stop ?_)
  exact wpAny_pure (hQ _ he')
end
end EO
namespace L2
open PySem PySem.Spec PyProof.Rows
/-! ### enumerate(tuple) -/
def IteT (K : PySem.W.Frag) (a : Addr) : It :=
  ⟨fun i H => ∃ (xs : List V) (x : V), SqT K H a xs ∧ xs[i]? = some x, fun i H v H' => ∃ T x, v = .ref T ∧ H T = none ∧ H' = upd H T (.tup [.int (i : Nat), x]) ∧ ∀ xs, SqT K H a xs → xs[i]? = some x, fun i H => ∃ xs : List V, SqT K H a xs ∧ xs.length ≤ i⟩
theorem turn_enumT {P : Program} {w : World} {K : PySem.W.Frag} {elts : List Expr} {kk : Nat} {tpos : Pos} (a e it : Addr) :
    Turn P w K (.Tuple elts kk tpos) (IteT K a) [e, it] e (fun i h => (∃ old, IsEnum h e it ((i : Nat) : Int) old) ∧ h.IsTupleIter it a i ∧ e ≠ it) where
  mem := by simp
  obj := fun i h st b hb => by
    obtain ⟨⟨old, he⟩, ⟨o, ho, hc, hd⟩, _⟩ := st
    have e' : b = e ∨ b = it := by simpa using hb
    rcases e' with z | z
    · rw [z]; exact ⟨_, he, fun v q => nomatch q⟩
    · rw [z]; exact ⟨o, ho, fun v q => by rw [hd] at q; cases q⟩
  keep := fun i h h' st k => let ⟨⟨old, he⟩, hi, hne⟩ := st; ⟨⟨old, k e (by simp) _ he⟩, hi.at fun o q => k it (by simp) o q, hne⟩
  item := by
    intro X hP hw hK hc i pins s σ H E I hf st hg
    subst hP hw hK
    obtain ⟨⟨old, he⟩, hit, hne⟩ := st
    obtain ⟨xs, x, hq, hx⟩ := hg
    obtain ⟨its, rv, p, hz⟩ := I.tuple hq
    obtain ⟨u, hu, ru⟩ := rv.get hx
    have hil' : i < its.length := (List.getElem?_eq_some_iff.mp hu).1
    have hel : e < s.heap.objs.size := Heap.lt_size he
    have hil : it < s.heap.objs.size := by obtain ⟨_, q, _⟩ := hit; exact Heap.lt_size q
    have hai : a ≠ it := by
      intro z
      obtain ⟨o1, q1, c1, _⟩ := p
      obtain ⟨o2, q2, c2, _⟩ := hit
      rw [z, q2] at q1; cases q1; rw [c2] at c1; exact absurd c1 (by simp)
    have hea : e ≠ a := by
      intro z
      obtain ⟨o1, q1, c1, _⟩ := p
      rw [← z] at q1
      have q2 := he
      unfold IsEnum at q2
      rw [q1] at q2; cases q2; exact absurd c1 (by simp)
    refine wpAny_pyNext_enum_itemD (Draws.tuple (A := X.A.in1) (I.ok.hd hc) it a hai its.toArray) he ⟨hit, p⟩ (by simpa using hil') hne (by simp [hne, hea]) fun y h' tk hy ho hit' hT hsz hk => ?_
    have hyu : y = u := by
      have : its.toArray[i]? = some u := by simpa using hu
      rw [this] at hy; exact (Option.some.inj hy).symm
    subst hyu
    refine ⟨_, rfl, wpAny_letOwnedTupleGo_enum (s := { s with heap := h', toks := tk + 1 }) ho fun h'' he' sb => ?_⟩
    have hT2 : h''.get? s.heap.objs.size = some { cls := .type "tuple", data := .seq #[.int i tk, y] } := (sb.2 _ (Nat.ne_of_gt hel)).trans hT
    have new : ObjOk X.prog X.w (upd H s.heap.objs.size (.tup [.int (i : Nat), x])) h'' s.heap.objs.size (.tup [.int (i : Nat), x]) :=
      ⟨by show 2 ≤ sizeLine; decide, [.int i tk, y], .cons ⟨_, rfl⟩ (.cons ru .nil), ⟨_, hT2, rfl, _, rfl⟩⟩
    have I1 : Inv X pins σ (upd H s.heap.objs.size (.tup [.int (i : Nat), x])) { s with heap := h'', toks := tk + 1 } :=
      I.turnedNew (ch := [e, it]) (fun b ob hb q => (sb.2 b (fun z => hb (by simp [z]))).trans (hk b ob (fun z => hb (by simp [z])) (fun z => hb (by simp [z])) q)) hf (Nat.le_refl _) new
    refine ⟨.ref s.heap.objs.size, _, I1, rfl, ⟨_, x, rfl, I.hok.fresh (Nat.le_refl _), rfl, fun ys hy => by rw [I.tuple_inj hy hq]; exact hx⟩, ⟨⟨y, ?_⟩, hit'.1.at fun o q => (sb.2 it (Ne.symm hne)).trans q, hne⟩, fun b hb => ?_⟩
    · have e1 : ((i + 1 : Nat) : Int) = (i : Int) + 1 := by omega
      rw [e1]; exact he'
    · have hb' : b < s.heap.objs.size := by
        have e' : b = e ∨ b = it := by simpa using hb
        rcases e' with z | z
        · rw [z]; exact hel
        · rw [z]; exact hil
      rw [upd_ne (Nat.ne_of_lt hb')]
      exact (hf b hb).1
  done := by
    intro X hP hw hK hc i pins s σ H E I hf st hg
    subst hP hw hK
    obtain ⟨⟨old, he⟩, hit, hne⟩ := st
    obtain ⟨xs, hq, hx⟩ := hg
    obtain ⟨its, rv, p, hz⟩ := I.tuple hq
    obtain ⟨f0, f1, f2, f3, f4, f5⟩ := hf it (by simp)
    have hl := rv.length
    exact EO.enumT_end (I.ok.hd hc) he hit p (by simp; omega) fun h' eb => ⟨rfl, I.turned (t' := s.toks) (fun b o hb q => eb b o hb q) f0 f1 f3 f4 f5⟩
  self := fun A i s Q E st h => let ⟨⟨_, he⟩, _⟩ := st; wpAny_pyIter_enum he h
def iEnumT (K : PySem.W.Frag) (ta : TA) : TI := fun σ H R => ta σ H fun vs H1 => ∃ a xs, vs = [.ref a] ∧ SqT K H1 a xs ∧ R (IteT K a) H1
theorem pi_enumT {X : Cx} {e : Expr} {ta : TA} {p pos tpos : Pos} {elts : List Expr} {kk : Nat} (hg : Gl X "enumerate") (hm : X.mg "enumerate" = none) (ha : PA X [e] ta) (hs : starEach [e] X.env = [(false, eval e X.env)] := by rfl) :
    PI X (.Tuple elts kk tpos) (.Call (.Name "enumerate" p) [e] [] pos) (iEnumT X.K ta) := by
  refine ⟨fun pins s σ H R I h => ?_⟩
  refine Call_ (ld_blt I hg hm boot_enumerate (PyProof.Rows.callWith_type1 (thn (ha.run pos pins s σ H _ I h) fun us s1 ⟨vs, H1, I1, r1, q1⟩ => ?_) hs rfl))
  obtain ⟨a, xs, ex, hq, q⟩ := q1
  subst ex
  cases r1 with
  | cons r rr =>
    cases rr
    cases r
    obtain ⟨its, rv, p', hz⟩ := I1.tuple hq
    refine EO.call_enumerate_tuple (by exact p') fun h' he hit hsz hk => wpAny_pyIter_enum he ?_
    have I2 : Inv X pins σ H1 { s1 with heap := h' } := I1.kept (t' := s1.toks) hk
    refine ⟨s1.heap.objs.size + 1, [s1.heap.objs.size + 1, s1.heap.objs.size], _, _, H1, rfl, I2, turn_enumT a (s1.heap.objs.size + 1) s1.heap.objs.size, ⟨⟨.none, he⟩, hit, Nat.succ_ne_self _⟩, fun b hb => ?_, q⟩
    have e' : b = s1.heap.objs.size + 1 ∨ b = s1.heap.objs.size := by simpa using hb
    have hle : s1.heap.objs.size ≤ b := by
      rcases e' with z | z
      · rw [z]; exact Nat.le_add_right _ _
      · rw [z]; exact Nat.le_refl _
    exact I1.fpOk hle (I1.hok.fresh hle)
theorem walk_enumT {K : PySem.W.Frag} {a : Addr} {xs : List V} : Walk (IteT K a) xs.length (fun H => SqT K H a xs) (YPair (fun i => some (.int (i : Nat))) (fun i => xs[i]?)) := by
  refine ⟨fun i _ hi q => ⟨xs, xs[i], q, by simp [hi]⟩, fun _ q => ⟨xs, q, Nat.le_refl _⟩, fun i H v H' _ q y => ?_⟩
  obtain ⟨T, x, h1, h2, h3, h4⟩ := y
  exact ⟨T, .int (i : Nat), x, h1, h2, h3, rfl, h4 xs q⟩
end L2
set_option Elab.async false
set_option maxRecDepth 100000
namespace EO
open PySem PySem.W PySem.Spec PyProof.Rows L2
section
variable {prog : Program} {w : World} {A : Around} {E : Value → Shared → Prop} {s : Shared} {K : Frag} {x C L f : Addr} {h₀ : Heap} {m : Str → Option Value} {ox : Obj} {od : Option Obj} {name : Str} {b tb : Value}
theorem cmp_dec_K {Q : Value → Shared → Prop} (hu : A.units < cLine) (X : K.In s.heap) (I : InstAt s.heap x ox C od) (hb : Looks (model prog w) s.heap (typeOf b) tb) (hn : notFirst K C tb = true)
    (hs : findIn K (.ref C) "__eq__" = some (some (.ref f))) (hf : isFn K (.ref f) = true)
    (h : wpAny (model prog w) A (call (.ref f) [.ref x, b]) (fun v s' => v = .notImplemented ∧ wpAny (model prog w) A (tryCompare b "__eq__" (.ref x)) (fun r s2 => r = none ∧ wpAny (model prog w) A (isSame (.ref x) b) (fun k s3 => Q (.bool k) s3) E s2) E s') E s) :
    wpAny (model prog w) A (richCompare .Eq (.ref x) b) Q E s := by
  have one : wpAny (model prog w) A (tryCompare (.ref x) "__eq__" b) (fun r s' => r = none ∧ wpAny (model prog w) A (tryCompare b "__eq__" (.ref x)) (fun r s2 => r = none ∧ wpAny (model prog w) A (isSame (.ref x) b) (fun k s3 => Q (.bool k) s3) E s2) E s') E s := by
    unfold tryCompare
    refine wpAny_bind (ifBound_K X I hs hf (wpAny_mono h (fun v s' hv => ?_) fun _ _ e => e))
    obtain ⟨rfl, hv⟩ := hv
    exact wpAny_pure ⟨rfl, hv⟩
  unfold richCompare
  simp only [oneThing_ref]
  refine wpAny_holding (wpAny_bind (wpAny_cRoomFor hu ?_))
  refine wpAny_bind (I.type.here (wpAny_bind (hb.here ?_)))
  split
  · rename_i q
    have e : subIn K tb (.ref C) = some false := by
      rcases Bool.or_eq_true_iff.mp hn with e | e
      · rw [beq_iff_eq.mp e] at q; simp at q
      · exact beq_iff_eq.mp e
    refine wpAny_bind ((looks_subIn X e).here ?_)
    simp only [Bool.false_eq_true, if_false]
    refine wpAny_bind (wpAny_mono one (fun r s' z => ?_) fun _ _ e => e)
    obtain ⟨rfl, z⟩ := z
    simp only [Bool.not_false, if_true]
    refine wpAny_bind (wpAny_mono z (fun r s' z => ?_) fun _ _ e => e)
    obtain ⟨rfl, z⟩ := z
    refine wpAny_bind (wpAny_rule ?_)
    exact wpAny_bind (wpAny_mono z (fun k s3 q => wpAny_pure q) fun _ _ e => e)
  · refine wpAny_bind (wpAny_pure ?_)
    simp only [Bool.false_eq_true, if_false]
    refine wpAny_bind (wpAny_mono one (fun r s' z => ?_) fun _ _ e => e)
    obtain ⟨rfl, z⟩ := z
    simp only [Bool.not_false, if_true]
    refine wpAny_bind (wpAny_mono z (fun r s' z => ?_) fun _ _ e => e)
    obtain ⟨rfl, z⟩ := z
    refine wpAny_bind (wpAny_rule ?_)
    exact wpAny_bind (wpAny_mono z (fun k s3 q => wpAny_pure q) fun _ _ e => e)
/-- a special method that is a built-in slot -/
theorem ifBound_B {M : Model} {id : String} {args : List Value} {Q : Option Value → Shared → Prop} (X : K.In s.heap) (I : InstAt s.heap x ox C od) (hs : findIn K (.ref C) name = some (some (.builtin id))) (hb : bindSpecial (.builtin id) (.ref x) = pure (.builtin id, [.ref x]))
    (h : wpAny M A (call (.builtin id) (.ref x :: args)) (fun v => Q (some v)) E s) : wpAny M A (callSpecialIfBound? (.ref x) name args) Q E s := by
  simp only [callSpecialIfBound?, bindSpecialIfBound?, hb]
  refine wpAny_holding (wpAny_bind (wpAny_bind (wpAny_bind (I.type.here ((looks_findIn X hs).here ?_)))))
  refine wpAny_bind (wpAny_askSetting (wpAny_ite ?_))
  have fin : wpAny M A (call (.builtin id) ([.ref x] ++ args) >>= fun v => pure (some v)) Q E s := wpAny_bind (wpAny_mono h (fun v s' h' => wpAny_pure h') fun _ _ h' => h')
  simp only [hb, pure_bind]
  split
  · exact wpAny_pure (by exact fin)
  · exact wpAny_tryCatch (wpAny_pure (by exact fin))
/-- the check of a slot of object's, called of an instance -/
theorem check_obj {M : Model} {id n : String} {rest : List Value} {Q : Unit → Shared → Prop} (hk : builtinKind id = some .slot) (hs : splitId id = some ("object", n)) (ha : argsOk id ⟨.ref x :: rest, []⟩)
    (X : K.In s.heap) (I : InstAt s.heap x ox C od) (hm : mroIn K C (.type "object") = some true) (hq : Q () s) : wpAny M A (checkBuiltinCall id ⟨.ref x :: rest, []⟩) Q E s := by
  simp only [checkBuiltinCall, hk, hs]
  refine wpAny_bind ?_
  unfold isInstance
  refine wpAny_bind (I.type.here ((looks_mroIn X hm).here ?_))
  simp only [Bool.not_true, Bool.false_eq_true, if_false]
  cases hsig : Manifest.signature? id with
  | none => exact wpAny_pure hq
  | some sig =>
    simp only [argsOk, hsig] at ha
    have h2 : Bind.checkArgs id sig ⟨.ref x :: rest, []⟩ = pure () := ha
    show wpAny M A (Bind.checkArgs id sig ⟨.ref x :: rest, []⟩) Q E _
    rw [h2]; exact wpAny_pure hq
/-- a != b by object's own, over an own == that answers True or False -/
theorem ne_K {Q : Value → Shared → Prop} (hu : A.units + 1 < cLine) (X : K.In s.heap) (I : InstAt s.heap x ox C od) (hb : Looks (model prog w) s.heap (typeOf b) tb) (hn : notFirst K C tb = true)
    (hs : findIn K (.ref C) "__eq__" = some (some (.ref f))) (hf : isFn K (.ref f) = true) (hne : findIn K (.ref C) "__ne__" = some (some (.builtin "object.__ne__"))) (hm : mroIn K C (.type "object") = some true)
    (h : wpAny (model prog w) A.in1 (call (.ref f) [.ref x, b]) (fun v s' => ∃ c, v = .bool c ∧ Q (.bool (!c)) s') E s) :
    wpAny (model prog w) A (richCompare .NotEq (.ref x) b) Q E s := by
  have body : wpAny (model prog w) A (call (.builtin "object.__ne__") [.ref x, b]) (fun v s' => ∃ c, v = .bool c ∧ Q (.bool c) s') E s := by
    refine wpAny_call ?_
    refine codeAny_call_builtin F.cmp_object.ne.plain F.cmpEntry_ne ?_
    refine check_obj (id := "object.__ne__") (n := "__ne__") (rest := [b]) (x := x) F.cmpKind_ne F.cmpSplit_ne (F.cmpArgs_ne _ _) X I hm ?_
    have h' : wpAny (model prog w) A.in1 (callSpecialIfBound? (.ref x) (Str.ofString "__eq__") [b]) (fun r s' => ∃ c, r = some (.bool c) ∧ Q (.bool (!c)) s') E s :=
      ifBound_K X I hs hf (wpAny_mono h (fun r s' hr => by obtain ⟨c, rfl, hq⟩ := hr; exact ⟨c, rfl, hq⟩) fun _ _ e => e)
    unfold Builtin.«object.__ne__»
    repeat (first
      | with_reducible refine wpAny_cRoomFor (A := A.in1) hu ?_
      | (refine wpAny_bind (m := callSpecialIfBound? (.ref x) (Str.ofString "__eq__") [b]) (wpAny_mono h' (fun r s' hr => ?_) fun _ _ e => e)
         obtain ⟨c, rfl, hq⟩ := hr)
      | wp_step)
    exact ⟨_, rfl, hq⟩
  have one : wpAny (model prog w) A (tryCompare (.ref x) "__ne__" b) (fun r s' => ∃ v, r = some v ∧ Q v s') E s := by
    unfold tryCompare
    refine wpAny_bind (ifBound_B X I hne (F.cmp_object.ne.bind _) (wpAny_mono body (fun v s' hv => ?_) fun _ _ e => e))
    obtain ⟨c, rfl, hq⟩ := hv
    exact wpAny_pure ⟨_, rfl, hq⟩
  unfold richCompare
  simp only [oneThing_ref]
  refine wpAny_holding (wpAny_bind (wpAny_cRoomFor (Nat.lt_of_succ_lt hu) ?_))
  refine wpAny_bind (I.type.here (wpAny_bind (hb.here ?_)))
  split
  · rename_i q
    have e : subIn K tb (.ref C) = some false := by
      rcases Bool.or_eq_true_iff.mp hn with e | e
      · rw [beq_iff_eq.mp e] at q; simp at q
      · exact beq_iff_eq.mp e
    refine wpAny_bind ((looks_subIn X e).here ?_)
    simp only [Bool.false_eq_true, if_false]
    refine wpAny_bind (wpAny_mono one (fun r s' z => ?_) fun _ _ e => e)
    obtain ⟨v, rfl, hq⟩ := z
    exact wpAny_pure hq
  · refine wpAny_bind (wpAny_pure ?_)
    simp only [Bool.false_eq_true, if_false]
    refine wpAny_bind (wpAny_mono one (fun r s' z => ?_) fun _ _ e => e)
    obtain ⟨v, rfl, hq⟩ := z
    exact wpAny_pure hq
end
end EO

namespace L2
open PySem PySem.Spec PyProof.Rows
/-- two instances of the class at C, compared by the text's own ==, that answers True or False -/
structure OwnE (K : PySem.W.Frag) (C f : Addr) : Prop where
  eq : PySem.W.findIn K (.ref C) "__eq__" = some (some (.ref f))
  fn : PySem.W.isFn K (.ref f) = true
  ne : PySem.W.findIn K (.ref C) "__ne__" = some (some (.builtin "object.__ne__"))
  mo : PySem.W.mroIn K C (.type "object") = some true
def rOwn (C : Addr) (sp : Sp) (g : Bool → Bool) (E : XK) : R2 := fun x y H Q => ∃ a b dx dy fs gs, x = .ref a ∧ y = .ref b ∧ H a = some (.ins C dx fs) ∧ H b = some (.ins C dy gs) ∧
  sp [x, y] H (fun v H' => ∃ c, v = .bl c ∧ Q (.bl (g c)) H') E
section
variable {X : Cx} {n : Nat} {CX : CXT} {C f : Addr} {fd : FuncData} {ps : List Str} {sp : Sp} {E : XK}
theorem own_call {A : Around} {pins : List (Addr × Obj)} {s : Shared} {σ : St} {H : Hp} {vs : List V} {us : List Value} {Q : VK} (F : FnOk X.prog X.w X.K X.mg X.base CX n f fd ps sp) (hb : Binds X.K fd ps []) (hx : Passes CX X E) (hr : Room n A) (hfr : A.frames = X.A.frames)
    (I : Inv X pins σ H s) (r : Vals vs us) (h : sp vs H Q E) : wpAny (model X.prog X.w) A (call (.ref f) us) (fun u s' => ∃ v H', Inv X pins σ H' s' ∧ RelV v u ∧ Q v H') X.xe s := by
  have e0 : Env0 X.prog X.w X.K X.mg X.base A X.stack s H := by
    have e := I.env0
    exact ⟨by rw [hfr]; exact e.frames, e.mod, e.bs, e.bsz, e.funs, e.frf, e.hok, e.bare⟩
  have hl := F.len _ _ _ _ h
  refine wpAny_call (codeAny_mono (F.run A X.stack s H ⟨us, []⟩ us vs _ E hr e0 (by
    have := hb s us I.kIn (by have := r.length; rw [List.append_nil, ← this, hl])
    simpa using this) r h) fun r s' hq => ?_)
  cases r with
  | error e => exact hx pins σ H s e s' I hq
  | ok fl =>
    cases fl with
    | ret w =>
      obtain ⟨z, H', I', rz, q⟩ := I.after hq
      exact ⟨z, H', I', rz, q⟩
    | next => exact False.elim hq
    | brk => exact False.elim hq
    | cont => exact False.elim hq
theorem op_eqOwn (O : OwnE X.K C f) (F : FnOk X.prog X.w X.K X.mg X.base CX n f fd ps sp) (hr : Room n X.A) (hb : Binds X.K fd ps []) (hx : Passes CX X E) : OpR X (compareOp .Eq) (rOwn C sp (fun c => c) E) := by
  intro pins s σ H x y u v Q I rx ry h
  obtain ⟨a, b, dx, dy, fs, gs, rfl, rfl, ha, hb', hs⟩ := h
  cases rx
  cases ry
  obtain ⟨mA, J, _⟩ := ins_get I.hok ha
  obtain ⟨mB, J', _⟩ := ins_get I.hok hb'
  obtain ⟨od, J, _⟩ := J.look
  obtain ⟨od', J', _⟩ := J'.look
  obtain ⟨m, hF⟩ := I.fr
  show wpAny (model X.prog X.w) X.A (richCompare .Eq (.ref a) (.ref b)) (EP X pins σ Q) X.xe s
  refine PySem.W.cmp_K (op := .Eq) (tb := .ref C) hr.units0 hF I.ok.mod.kin J J'.type (by simp [PySem.W.notFirst]) O.eq O.fn ?_
  refine wpAny_mono (own_call (vs := [V.ref a, V.ref b]) F hb hx hr rfl I (.cons rfl (.cons rfl .nil)) hs) (fun u s' q => ?_) fun _ _ e => e
  obtain ⟨z, H', I', rz, c, rfl, q⟩ := q
  cases rz
  exact ⟨.bl c, H', I', rfl, q⟩
theorem op_neOwn (O : OwnE X.K C f) (F : FnOk X.prog X.w X.K X.mg X.base CX n f fd ps sp) (hr : Room (n + 1) X.A) (hb : Binds X.K fd ps []) (hx : Passes CX X E) : OpR X (compareOp .NotEq) (rOwn C sp (fun c => !c) E) := by
  intro pins s σ H x y u v Q I rx ry h
  obtain ⟨a, b, dx, dy, fs, gs, rfl, rfl, ha, hb', hs⟩ := h
  cases rx
  cases ry
  obtain ⟨mA, J, _⟩ := ins_get I.hok ha
  obtain ⟨mB, J', _⟩ := ins_get I.hok hb'
  obtain ⟨od, J, _⟩ := J.look
  obtain ⟨od', J', _⟩ := J'.look
  show wpAny (model X.prog X.w) X.A (richCompare .NotEq (.ref a) (.ref b)) (EP X pins σ Q) X.xe s
  refine EO.ne_K (tb := .ref C) (by have := hr.units; omega) I.kIn J J'.type (by simp [PySem.W.notFirst]) O.eq O.fn O.ne O.mo ?_
  refine wpAny_mono (own_call (vs := [V.ref a, V.ref b]) F hb hx hr.in1 rfl I (.cons rfl (.cons rfl .nil)) hs) (fun u s' q => ?_) fun _ _ e => e
  obtain ⟨z, H', I', rz, c, rfl, q⟩ := q
  cases rz
  exact ⟨c, rfl, ⟨.bl (!c), H', I', rfl, q⟩⟩
/-! a def that begins with «if TEST: return NotImplemented», called where TEST holds -/
structure FnNI (P : Program) (w : World) (K : PySem.W.Frag) (mg : Str → Option Value) (base : Heap) (k : Nat) (f : Addr) (fd : FuncData) (ps : List Str) (pre : List V → Hp → Prop) : Prop where
  len : ∀ vs H, pre vs H → vs.length = ps.length
  run : ∀ (A : Around) (outer : List Env) (s : Shared) (H : Hp) (args : Args) (us : List Value) (vs : List V), Room k A → Env0 P w K mg base A outer s H → BindsTo s fd args (ps.zip us) → Vals vs us → pre vs H →
    codeAny (model P w) A (.call (.ref f) args) (fun r s' => r = .ok (.ret .notImplemented) ∧ CE outer P w H s (fun v H' => v = .non ∧ Same H H') .none s') s
theorem fn_NI {P : Program} {w : World} {K : PySem.W.Frag} {mg : Str → Option Value} {base : Heap} {k : Nat} {f : Addr} {name qual : Str} {params : Arguments} {body rest : List Stmt} {tst : Expr} {p1 p2 p3 : Pos} {scope : Scope} {dV kV doc pm cdv ct oc : Value} {an od : Option Addr}
    {osl : Array (Option Value)} {N ps : List Str} {pre : List V → Hp → Prop} (lk : K.lookup f = some ⟨oc, od, .func (PySem.W.fnOf name qual params body scope dV kV doc pm an cdv ct), osl⟩) (hcd : PySem.W.codeIn K cdv qual = true) (S : FnScope N ps scope)
    (len : ∀ vs H, pre vs H → vs.length = ps.length) (hbd : body = .If tst [.Return (some (.Name "NotImplemented" p1)) p2] [] p3 :: rest)
    (hg : scope.names.lookup ("NotImplemented" : Str) = some .globalImplicit) (hm : mg "NotImplemented" = none) (hv : bootBuiltins "NotImplemented" = some .notImplemented)
    (htest : ∀ (A : Around) (outer : List Env) (s : Shared) (H : Hp) (vs : List V), Room k (A.deeper (envOfC qual scope s.heap.objs.size f cdv)) → pre vs H →
      ∃ t, PT (cxOf CX0 P w K mg base N qual scope f cdv A outer s H E0).nox tst t ∧ t (start N vs) H (fun b H1 => b = true ∧ Same H H1)) :
    FnNI P w K mg base (k + 1) f (PySem.W.fnOf name qual params body scope dV kV doc pm an cdv ct) ps pre := by
  refine ⟨len, fun A outer s H args us vs hr e0 hb r hsp => ?_⟩
  have hl := len _ _ hsp
  have KX : K.In s.heap := e0.mod.kin.keeps fun b o e => (e0.bs b o e).1
  have lim : s.heap.NoLimit := e0.mod.nolimit.keeps fun b o e => (e0.bs b o e).1
  have hkind : ∀ y ∈ ps.zip us, scope.names.lookup y.1 = some .local ∨ (scope.names.lookup y.1 = some .cell ∧ ((cellsFrom (s.heap.objs.size + 1) scope.names []).lookup y.1).isSome = true) := fun ⟨n, v⟩ hy => by
    rcases S.par n (List.of_mem_zip hy).1 with q | q
    · exact .inl q
    · exact .inr ⟨q, PySem.W.cellsFrom_some _ _ _ (.inl q)⟩
  refine codeAny_call_function hr.depth (KX _ _ lk) rfl S.co S.gen rfl (PySem.W.codeRec_of KX hcd) (hb _ _ _ _ ?_)
  refine wpAny_newFunctionEnv_cells S.kind hkind fun env he s1 x => ?_
  subst he
  refine ⟨lim.keeps x.toInCall.keep, codeAny_func ?_⟩
  obtain ⟨t, ht, hq⟩ := htest A outer s H vs (hr.deeper _) hsp
  have I : Inv (cxOf CX0 P w K mg base N qual scope f cdv A outer s H E0) [] (start N vs) H s1 := inv_start S hr.hd e0 hl r x
  subst hbd
  have run : wpAny (model P w) (cxOf CX0 P w K mg base N qual scope f cdv A outer s H E0).A (execs (.If tst [.Return (some (.Name "NotImplemented" p1)) p2] [] p3 :: rest) (cxOf CX0 P w K mg base N qual scope f cdv A outer s H E0).env)
      (fun fl s' => fl = .ret .notImplemented ∧ CE outer P w H s (fun v H' => v = .non ∧ Same H H') .none s') (fun _ _ => False) s1 := by
    refine wpAny_execs_cons (wpAny_mono (wpAny_If (wpAny_mono (ht.run [] s1 (start N vs) H (fun b H1 => b = true ∧ Same H H1) (I.wish _) hq) (fun d s2 q2 => ?_) fun _ _ z => z))
      (fun fl s' (z : fl = .ret .notImplemented ∧ CE outer P w H s (fun v H' => v = .non ∧ Same H H') .none s') => ?_) fun _ _ z => z)
    · obtain ⟨H2, I2, rfl, sm⟩ := q2
      refine wpAny_execs_cons (wpAny_mono (wpAny_Return_some (Q := fun fl s' => fl = .ret .notImplemented ∧ CE outer P w H s (fun v H' => v = .non ∧ Same H H') .none s') (ld_blt I2.unwish hg hm hv ?_)) (fun fl s' z => ?_) fun _ _ z => z)
      · exact ⟨rfl, ⟨.non, H2, I2.os, I2.bare, I2.base, I2.hok, rfl, rfl, sm⟩⟩
      · obtain ⟨rfl, z⟩ := z
        exact ⟨rfl, z⟩
    · obtain ⟨rfl, z⟩ := z
      exact ⟨rfl, z⟩
  exact wpAny_mono run (fun fl s' z => by obtain ⟨rfl, z⟩ := z; exact ⟨rfl, z⟩) fun _ _ z => z.elim
end
end L2
namespace EO
open PySem PySem.W PySem.Spec PyProof.Rows L2
open SeqAt
open AutoSeq1 (wpAny_loadPart')
section
variable {prog : Program} {w : World} {A : Around} {E : Value → Shared → Prop} {s : Shared} {K : Frag} {x C : Addr} {ox : Obj} {od : Option Obj}
theorem int_declines_ins (b : Int) (u : Tok) (l dx : Addr) : Meets (Builtin.«int.__eq__» ⟨[.int b u, .ref l], []⟩) (fun _ R s => s.heap.get? l = some (instObj C dx) ∧ R (.ok (.ret .notImplemented)) s) :=
  .of_wp fun prog w A R s h => by
    obtain ⟨hp, g, d, tk, os⟩ := s; obtain ⟨hl, h⟩ := h
    wp_walk using wpAny_loadPart' hl, wpAny_load hl
    exact ⟨_, rfl, h⟩
theorem list_declines_ins {l : Addr} {items : Array Value} {R : Result → Shared → Prop} (hl : s.heap.IsList l items) (X : K.In s.heap) (I : InstAt s.heap x ox C od) (hm : mroIn K C (.type "list") = some false) (h : R (.ok (.ret .notImplemented)) s) :
    wpAny (model prog w) A.in1 (Builtin.«list.__eq__» ⟨[.ref l, .ref x], []⟩) (fun fin s' => match fin with | .done f => R (.ok f) s' | .again c' => c'.quiet = true ∧ codeAny (model prog w) A c' R s') (fun e s' => R (.error e) s') s := by
  have hx := I.at_
  have hcl := I.cls
  obtain ⟨⟨cls, dd, data, sl⟩, ho, hc, n, hd⟩ := id hl
  simp only at hc hd
  subst hc hd
  obtain ⟨cls2, dd2, data2, sl2⟩ := ox
  simp only at hcl
  subst hcl
  obtain ⟨hp, g, d, tk, os⟩ := s
  wp_walk using wpAny_loadPart' ho, wpAny_loadPart' hx
  refine (looks_mroIn X hm).here ?_
  simp only [Bool.not_false, if_true]
  wp_walk
  exact h
theorem nf {K : Frag} {C : Addr} {T : String} {l : List Value} (h : fastBuiltinMro T = some l) (hc : l.contains (.ref C) = false) : notFirst K C (.type T) = true := by
  unfold notFirst subIn
  simp only [h, Option.map_some, hc]
  simp
theorem mro_None : fastBuiltinMro "NoneType" = some [.type "NoneType", .type "object"] := by decide +kernel
theorem mro_int : fastBuiltinMro "int" = some [.type "int", .type "object"] := by decide +kernel
theorem mro_list : fastBuiltinMro "list" = some [.type "list", .type "object"] := by decide +kernel
end
end EO
namespace L2
open PySem PySem.Spec PyProof.Rows
/-- an instance compared with None, an int, a list: its own == says NotImplemented, the other's too; so False -/
def rNI (C : Addr) (pre : List V → Hp → Prop) : R2 := fun x y H Q => ∃ a dx fs, x = .ref a ∧ H a = some (.ins C dx fs) ∧ pre [x, y] H ∧ (y = .non ∨ (∃ i, y = .int i) ∨ ∃ l xs, y = .ref l ∧ H l = some (.lst xs)) ∧ ∀ H', Same H H' → Q (.bl false) H'
theorem op_eqNI {X : Cx} {n : Nat} {C f : Addr} {fd : FuncData} {ps : List Str} {pre : List V → Hp → Prop} (O : OwnE X.K C f) (ml : PySem.W.mroIn X.K C (.type "list") = some false)
    (G : FnNI X.prog X.w X.K X.mg X.base n f fd ps pre) (hr : Room n X.A) (hb : Binds X.K fd ps []) : OpR X (compareOp .Eq) (rNI C pre) := by
  intro pins s σ H x y u v Q I rx ry h
  obtain ⟨a, dx, fs, rfl, ha, hp, hy, hQ⟩ := h
  cases rx
  obtain ⟨mA, J, _⟩ := ins_get I.hok ha
  obtain ⟨od, J, _⟩ := J.look
  show wpAny (model X.prog X.w) X.A (richCompare .Eq (.ref a) v) (EP X pins σ Q) X.xe s
  have hl := G.len _ _ hp
  have call : ∀ (T : String), PySem.W.Looks (model X.prog X.w) s.heap (typeOf v) (.type T) → PySem.W.notFirst X.K C (.type T) = true →
      (∀ s' H', Inv X pins σ H' s' → Same H H' → wpAny (model X.prog X.w) X.A (tryCompare v "__eq__" (.ref a)) (fun r s2 => r = none ∧ wpAny (model X.prog X.w) X.A (isSame (.ref a) v) (fun k s3 => k = false ∧ Inv X pins σ H' s3) X.xe s2) X.xe s') →
      wpAny (model X.prog X.w) X.A (richCompare .Eq (.ref a) v) (EP X pins σ Q) X.xe s := fun T lk nf tr => by
    refine EO.cmp_dec_K (tb := .type T) hr.units0 I.kIn J lk nf O.eq O.fn ?_
    refine wpAny_call (codeAny_mono (G.run X.A X.stack s H ⟨[.ref a, v], []⟩ [.ref a, v] [.ref a, y] hr I.env0 (by
      have := hb s [.ref a, v] I.kIn (by rw [List.append_nil, ← hl]; rfl)
      simpa using this) (.cons rfl (.cons ry .nil)) hp) fun r s' hq => ?_)
    obtain ⟨rfl, hq⟩ := hq
    obtain ⟨z, H', I', rz, ez, sm⟩ := I.after hq
    refine ⟨rfl, wpAny_mono (tr s' H' I' sm) (fun r s2 q => ⟨q.1, wpAny_mono q.2 (fun k s3 q => ?_) fun _ _ e => e⟩) fun _ _ e => e⟩
    obtain ⟨rfl, I3⟩ := q
    exact ⟨.bl false, H', I3, rfl, hQ H' sm⟩
  have at' : ∀ s' H', Inv X pins σ H' s' → Same H H' → ∃ od, PySem.W.InstAt s'.heap a (PySem.W.instObj C dx) C (some od) := fun s' H' I' sm => by
    obtain ⟨mA, J, _⟩ := ins_get I'.hok (sm _ _ ha)
    obtain ⟨od, J, _⟩ := J.look
    exact ⟨od, J⟩
  rcases hy with rfl | ⟨i, rfl⟩ | ⟨l, xs, rfl, hl'⟩
  · cases ry
    refine call "NoneType" (PySem.W.Looks.of_pure rfl) (EO.nf EO.mro_None (by simp)) fun s' H' I' sm => ?_
    exact wpAny_tryCompare_declines rfl F.slot_NoneType_eq (call_gives F.slot_NoneType_eq rfl F.entry_NoneType_eq (F.args_NoneType_eq_2 _ _) (SeqAt.NoneType___eq___none_ref_0 a)
      ⟨rfl, rfl, wpAny_of_eq (rfl : isSame (.ref a) .none = pure false) ⟨rfl, I'⟩⟩)
  · obtain ⟨t, rfl⟩ := ry
    refine call "int" (PySem.W.Looks.of_pure rfl) (EO.nf EO.mro_int (by simp)) fun s' H' I' sm => ?_
    obtain ⟨od', J'⟩ := at' s' H' I' sm
    exact wpAny_tryCompare_declines (typeIs_int s' i t) F.slot_int_eq (call_meets F.slot_int_eq (typeIs_int s' i t) F.entry_int_eq (F.args_int_eq_2 _ _) (EO.int_declines_ins (C := C) i t a dx)
      ⟨J'.at_, rfl, rfl, wpAny_of_eq (rfl : isSame (.ref a) (.int i t) = pure false) ⟨rfl, I'⟩⟩)
  · cases ry
    obtain ⟨_, its, k, r, e⟩ := I.hok l _ hl'
    refine call "list" ((PySem.W.Looks.ld (part := none) e).andThen .now) (EO.nf EO.mro_list (by simp)) fun s' H' I' sm => ?_
    obtain ⟨od', J'⟩ := at' s' H' I' sm
    obtain ⟨_, its', k', r', e'⟩ := I'.hok l _ (sm _ _ hl')
    have nal : a ≠ l := ne_of ha hl' (by intro z; cases z)
    refine wpAny_tryCompare_declines ⟨_, e', rfl⟩ F.slot_list_eq (GQ.call_here F.slot_list_eq ⟨_, e', rfl⟩ F.entry_list_eq (F.args_list_eq_2 _ _) ?_)
    exact EO.list_declines_ins (R := wants _ _) ⟨_, e', rfl, _, rfl⟩ I'.kIn J' ml ⟨rfl, rfl, SeqAt.wpAny_isSame_ref_other' nal J'.at_ e' (by show Value.type "list" ≠ Value.type "tuple"; decide) ⟨rfl, I'⟩⟩
end L2
set_option Elab.async false
set_option linter.all false
set_option maxRecDepth 100000
namespace K1
open PySem L2
/-- a def of the text, by its name -/
structure Df (K : PySem.W.Frag) (mg : Str → Option Value) (x : Str) (st : Stmt) (ps : List Str) (f : Addr) (fd : FuncData) : Prop where
  F : Fun K x x st f fd
  g : mg x = some (.ref f)
  b : Binds K fd ps []
theorem Kept.seq {K : PySem.W.Frag} {d : Addr} {H H' : Hp} {a : Addr} {xs : List V} (e : Kept d H H') (n : a ≠ d) (h : SqL K H a xs) : SqL K H' a xs := by
  rcases h with (h | ⟨o, h⟩) | h
  · exact .inl (.inl (e _ _ h n))
  · exact .inl (.inr ⟨o, e _ _ h n⟩)
  · exact .inr h
theorem Kept.seqT {K : PySem.W.Frag} {d : Addr} {H H' : Hp} {a : Addr} {xs : List V} (e : Kept d H H') (n : a ≠ d) (h : SqT K H a xs) : SqT K H' a xs := by
  rcases h with (h | ⟨o, h⟩) | h
  · exact .inl (.inl (e _ _ h n))
  · exact .inl (.inr ⟨o, e _ _ h n⟩)
  · exact .inr h
def spPickL (K : PySem.W.Frag) : Sp := fun vs H Q _ => ∃ (d c p : Addr) (n : Nat) (xs : List V), vs = [.ref d, .ref p] ∧ PenAt H d c n ∧ n ≤ 1000000 ∧ p ≠ d ∧ SqL K H p xs ∧ 0 < xs.length ∧ xs.length < 1073741824 ∧
  ∀ (x : V) (H' : Hp), x ∈ xs → PenAt H' d c (n + 1) → Kept d H H' → Q x H'
def spPickS : Sp := fun vs H Q _ => ∃ (d q : Addr) (n : Nat) (z : Str), vs = [.ref d, .str z] ∧ PenAt H d q n ∧ n ≤ 1000000 ∧ 0 < z.length ∧ z.length < 10000 ∧
  ∀ (c : Nat) (H' : Hp), c ∈ z.cps.toList → PenAt H' d q (n + 1) → Kept d H H' → Q (.str ⟨#[c]⟩) H'
section
variable {P : Program} {w : World} {K : PySem.W.Frag} {mg : Str → Option Value} {base : Heap}
theorem scPick : FnScope ["_law_pen_here", "_law_some"] ["_law_pen_here", "_law_some"] (defScope sPick) := ⟨rfl, rfl, rfl, by decide +kernel, rfl, by decide +kernel, by decide +kernel⟩
abbrev pDraw : List Str := ["_law_pen_here", "_law_many"]
abbrev pPick : List Str := ["_law_pen_here", "_law_some"]
theorem ok_pickL {f fD : Addr} {fd fdD : FuncData} (D : Df K mg "_law_pick" sPick pPick f fd) (DD : Df K mg "_law_draw" sDraw pDraw fD fdD) (T : Bt mg) : FnOk P w K mg base CX0 2 f fd pPick (spPickL K) := by
  have GD : FnOk P w K mg base CX0 1 fD fdD pDraw spDraw := ok_draw DD.F T
  refine D.F.ok scPick (fun vs H Q E h => ?_) (fun cdv A outer s H vs Q E hr h => ?_)
  · obtain ⟨d, c, p, n, xs, rfl, _⟩ := h
    rfl
  · obtain ⟨d, c, p, n, xs, rfl, hp, hn, npd, hx, h0, h1, k⟩ := h
    refine ⟨_, pss_one (ps_ret (pe_ix ix_list (pv 1) (pe_call GD hr rfl DD.g DD.F.kp DD.b .nil pass0 (pa_cons (pv 0) (pa_cons (pe_callB call_len (by rfl) T.len PySem.boot_len (pa_cons (pv 1) pa_nil)) pa_nil))) (fun _ _ => rfl))), ?_⟩
    refine ⟨_, rfl, _, rfl, _, rfl, _, xs.length, rfl, .inl ⟨_, hx, rfl⟩, d, c, n, xs.length, rfl, hp, hn, by omega, by omega, fun r H' r0 r1 hp' kp => ?_⟩
    obtain ⟨j, rfl⟩ : ∃ j : Nat, r = (j : Int) := ⟨r.toNat, by omega⟩
    have hj : j < xs.length := by omega
    exact ⟨p, xs, _, xs[j], rfl, rfl, kp.seq npd hx, atI_nat (by simp [hj]), k _ _ (List.getElem_mem _) hp' kp⟩
theorem ok_pickS {f fD : Addr} {fd fdD : FuncData} (D : Df K mg "_law_pick" sPick pPick f fd) (DD : Df K mg "_law_draw" sDraw pDraw fD fdD) (T : Bt mg) : FnOk P w K mg base CX0 2 f fd pPick spPickS := by
  have GD : FnOk P w K mg base CX0 1 fD fdD pDraw spDraw := ok_draw DD.F T
  refine D.F.ok scPick (fun vs H Q E h => ?_) (fun cdv A outer s H vs Q E hr h => ?_)
  · obtain ⟨d, q, n, z, rfl, _⟩ := h
    rfl
  · obtain ⟨d, q, n, z, rfl, hp, hn, h0, h1, k⟩ := h
    have hz : z.length ≤ sizeLine := Nat.le_trans (Nat.le_of_lt h1) (by decide)
    refine ⟨_, pss_one (ps_ret (pe_ix ix_str (pv 1) (pe_call GD hr rfl DD.g DD.F.kp DD.b .nil pass0 (pa_cons (pv 0) (pa_cons (pe_callB call_len (by rfl) T.len PySem.boot_len (pa_cons (pv 1) pa_nil)) pa_nil))) (fun _ _ => rfl))), ?_⟩
    refine ⟨_, rfl, _, rfl, _, rfl, _, z.length, rfl, ⟨hz, rfl⟩, d, q, n, z.length, rfl, hp, hn, by omega, by omega, fun r H' r0 r1 hp' kp => ?_⟩
    obtain ⟨j, rfl⟩ : ∃ j : Nat, r = (j : Int) := ⟨r.toNat, by omega⟩
    have hj : j < z.cps.toList.length := by
      have : z.length = z.cps.toList.length := by simp [Str.length]
      omega
    exact ⟨z, _, z.cps.toList[j], rfl, rfl, hz, atI_nat (by simp [hj]), k _ _ (List.getElem_mem _) hp' kp⟩
end
end K1
set_option Elab.async false
set_option linter.all false
set_option maxRecDepth 100000
namespace K1
open PySem L2
/-! the words -/
abbrev zLE : Str := "abcdefghijklmnopqrstuvwxyz"
abbrev zDG : Str := "0123456789"
def LE : List Nat := zLE.cps.toList
def AL : List Nat := LE ++ zDG.cps.toList
theorem LE_eq : LE = (List.range 26).map (· + 97) := by decide +kernel
def one (c : Nat) : Str := ⟨#[c]⟩
theorem joinL_nil : ∀ l : List (List Nat), TL.joinL [] l = l.flatten
  | [] => rfl
  | [p] => by simp [TL.joinL]
  | p :: q :: r => by rw [TL.joinL, joinL_nil (q :: r)]; simp
theorem join_ones (cs : List Nat) : (Txt.join ("" : Str) (cs.map one)).cps.toList = cs := by
  have e1 : ((cs.map one).map TL.tl).flatten = cs := by
    induction cs with
    | nil => rfl
    | cons c r ih => simp [one, TL.tl] at ih ⊢; exact ih
  have e := TL.tl_join ("" : Str) (cs.map one)
  rw [TL.join_eq]
  have e0 : TL.tl ("" : Str) = [] := by decide +kernel
  rw [e0, joinL_nil, e1] at e
  exact e
theorem sum_ones : ∀ cs : List Nat, ((cs.map one).map (·.length)).sum = cs.length
  | [] => rfl
  | c :: r => by
    have := sum_ones r
    simp only [List.map_cons, List.sum_cons, List.length_cons, this]
    show 1 + r.length = _
    omega
/-- a word as the pen makes it -/
def Wd (z : Str) : Prop := ∃ c r, z.cps.toList = c :: r ∧ c ∈ LE ∧ (∀ x ∈ r, x ∈ AL) ∧ r.length ≤ 6
theorem AL_eq : AL = (zLE ++ zDG).cps.toList := by decide +kernel
def wordAt (zF zB : Str) (a b k : Nat) : Str := zF ++ one (LE.getD ((a + b * k) % 26) 0) ++ zB
theorem tl_wordAt (zF zB : Str) (a b k : Nat) : (wordAt zF zB a b k).cps.toList = zF.cps.toList ++ (LE.getD ((a + b * k) % 26) 0 :: zB.cps.toList) := by
  unfold wordAt
  have e1 := TL.tl_append (zF ++ one (LE.getD ((a + b * k) % 26) 0)) zB
  have e2 := TL.tl_append zF (one (LE.getD ((a + b * k) % 26) 0))
  unfold TL.tl at e1 e2
  rw [e1, e2]
  simp [one]
theorem LE_len : LE.length = 26 := by decide +kernel
theorem LE_getD {i : Nat} (h : i < 26) : LE.getD i 0 = i + 97 := by
  rw [LE_eq]
  simp [h]
theorem LE_mem {i : Nat} (h : i < 26) : LE.getD i 0 ∈ LE := by
  have : i < LE.length := by rw [LE_len]; exact h
  rw [List.getD_eq_getElem?_getD, List.getElem?_eq_getElem this]
  exact List.getElem_mem _
theorem LE_AL {c : Nat} (h : c ∈ LE) : c ∈ AL := List.mem_append_left _ h
theorem wordAt_wd {zF zB : Str} {a b k : Nat} (hF : ∀ c ∈ zF.cps.toList, c ∈ LE) (lF : zF.cps.toList.length ≤ 3) (hB : ∀ c ∈ zB.cps.toList, c ∈ AL) (lB : zB.cps.toList.length ≤ 3) : Wd (wordAt zF zB a b k) := by
  unfold Wd
  rw [tl_wordAt]
  have hm := LE_mem (i := (a + b * k) % 26) (Nat.mod_lt _ (by decide))
  generalize LE.getD ((a + b * k) % 26) 0 = c at hm
  generalize zF.cps.toList = F at hF lF
  generalize zB.cps.toList = B at hB lB
  cases F with
  | nil => exact ⟨c, B, rfl, hm, hB, by omega⟩
  | cons x r =>
    simp only [List.length_cons] at lF
    refine ⟨x, r ++ c :: B, rfl, hF x (List.mem_cons_self ..), fun y hy => ?_, by simp; omega⟩
    rcases List.mem_append.mp hy with h | h
    · exact LE_AL (hF y (List.mem_cons_of_mem _ h))
    · rcases List.mem_cons.mp h with rfl | h
      · exact LE_AL hm
      · exact hB y h
theorem step_inj {a b i j : Nat} (hb : b = 1 ∨ b = 3 ∨ b = 5 ∨ b = 7 ∨ b = 9 ∨ b = 11) (hi : i < 26) (hj : j < 26) (h : (a + b * i) % 26 = (a + b * j) % 26) : i = j := by
  rcases hb with rfl | rfl | rfl | rfl | rfl | rfl <;> omega
theorem wordAt_inj {zF zB : Str} {a b i j : Nat} (hb : b = 1 ∨ b = 3 ∨ b = 5 ∨ b = 7 ∨ b = 9 ∨ b = 11) (hi : i < 26) (hj : j < 26) (h : wordAt zF zB a b i = wordAt zF zB a b j) : i = j := by
  have e := congrArg (fun z : Str => z.cps.toList) h
  simp only [tl_wordAt] at e
  have e2 := List.append_cancel_left e
  injection e2 with e3 _
  rw [LE_getD (Nat.mod_lt _ (by decide)), LE_getD (Nat.mod_lt _ (by decide))] at e3
  exact step_inj (a := a) hb hi hj (by omega)
theorem words_nodup {zF zB : Str} {a b : Nat} (hb : b = 1 ∨ b = 3 ∨ b = 5 ∨ b = 7 ∨ b = 9 ∨ b = 11) : ∀ m, m ≤ 26 → ((List.range m).map (wordAt zF zB a b)).Nodup := fun m hm => by
  rw [List.nodup_iff_pairwise_ne, List.pairwise_map]
  refine List.Pairwise.imp_of_mem ?_ (List.nodup_iff_pairwise_ne.mp List.nodup_range)
  intro i j hi hj hne h
  exact hne (wordAt_inj hb (Nat.lt_of_lt_of_le (List.mem_range.mp hi) hm) (Nat.lt_of_lt_of_le (List.mem_range.mp hj) hm) h)
theorem one_len (c : Nat) : (one c).length = 1 := rfl
theorem len_tl (z : Str) : z.length = z.cps.toList.length := by simp [Str.length]
/-- words: many new words, no two equal -/
def spWords (K : PySem.W.Frag) : Sp := fun vs H Q _ => ∃ (d c : Addr) (n m : Nat), vs = [.ref d, .int (m : Int)] ∧ PenAt H d c n ∧ n ≤ 900000 ∧ m ≤ 26 ∧
  ∀ (p : Addr) (ws : List Str) (H' : Hp), H p = none → H' p = some (.lst (ws.map V.str)) → ws.length = m → ws.Nodup → (∀ z ∈ ws, Wd z) → (∃ k, ∀ z ∈ ws, z.cps.toList.length = k) → PenAt H' d c (n + 20) → Kept d H H' → Q (.ref p) H'
section
variable {P : Program} {w : World} {K : PySem.W.Frag} {mg : Str → Option Value} {base : Heap}
abbrev nWords : List Str := ["_law_pen_here", "_law_many", "_law_letters", "_law_front", "_law_back", "_law_first", "_law_step", "_law_k"]
theorem scWords : FnScope nWords ["_law_pen_here", "_law_many"] (defScope sWords) := ⟨rfl, rfl, rfl, by decide +kernel, rfl, by decide +kernel, by decide +kernel⟩
theorem ok_words {f fD fP : Addr} {fd fdD fdP : FuncData} (D : Df K mg "_law_words" sWords pDraw f fd) (DD : Df K mg "_law_draw" sDraw pDraw fD fdD) (DP : Df K mg "_law_pick" sPick pPick fP fdP) (T : Bt mg) : FnOk P w K mg base CX0 3 f fd pDraw (spWords K) := by
  have GD : FnOk P w K mg base CX0 1 fD fdD pDraw spDraw := ok_draw DD.F T
  have GS : FnOk P w K mg base CX0 2 fP fdP pPick spPickS := ok_pickS DP DD T
  refine D.F.ok scWords (fun vs H Q E h => ?_) (fun cdv A outer s H vs Q E hr h => ?_)
  · obtain ⟨d, c, n, m, rfl, _⟩ := h
    rfl
  · obtain ⟨d, q, n, m, rfl, hp, hn, hm, k⟩ := h
    have hr1 : Room 1 _ := hr.mono (by decide)
    refine ⟨_, pss_cons (ps_set (i := 2) scWords.nd rfl (Or.inr rfl) pe_str)
      (pss_cons (ps_set (i := 3) scWords.nd rfl (Or.inr rfl) (pe_join pe_str (pe_lc (own := [("_law_k", 7)]) (g := gName 7) (by rfl) scWords.nd
        (pi_range1 rfl T.range (pa_cons (pe_call GD hr1 rfl DD.g DD.F.kp DD.b .nil pass0 (pa_cons (pv 0) (pa_cons pe_int pa_nil))) pa_nil))
        (blkOk_by (own := [("_law_k", 7)]) (N := nWords) (sc := defScope sWords) (by decide +kernel)) (fun _ _ _ _ _ => pg_name (i := 7) scWords.nd rfl (Or.inl rfl)) (fun _ _ _ _ _ => pts_nil)
        (fun _ _ _ _ _ => pe_call GS hr rfl DP.g DP.F.kp DP.b .nil pass0 (pa_cons (pv 0) (pa_cons (pv 2) pa_nil))))))
      (pss_cons (ps_set (i := 4) scWords.nd rfl (Or.inr rfl) (pe_join pe_str (pe_lc (own := [("_law_k", 7)]) (g := gName 7) (by rfl) scWords.nd
        (pi_range1 rfl T.range (pa_cons (pe_call GD hr1 rfl DD.g DD.F.kp DD.b .nil pass0 (pa_cons (pv 0) (pa_cons pe_int pa_nil))) pa_nil))
        (blkOk_by (own := [("_law_k", 7)]) (N := nWords) (sc := defScope sWords) (by decide +kernel)) (fun _ _ _ _ _ => pg_name (i := 7) scWords.nd rfl (Or.inl rfl)) (fun _ _ _ _ _ => pts_nil)
        (fun _ _ _ _ _ => pe_call GS hr rfl DP.g DP.F.kp DP.b .nil pass0 (pa_cons (pv 0) (pa_cons (pe_op op_add_str (pv 2) pe_str) pa_nil))))))
      (pss_cons (ps_asg (pe_tup (pa_cons (pe_call GD hr1 rfl DD.g DD.F.kp DD.b .nil pass0 (pa_cons (pv 0) (pa_cons pe_int pa_nil)))
          (pa_cons (pe_ix ix_list (pe_lst (pa_cons pe_int (pa_cons pe_int (pa_cons pe_int (pa_cons pe_int (pa_cons pe_int (pa_cons pe_int pa_nil))))))) (pe_call GD hr1 rfl DD.g DD.F.kp DD.b .nil pass0 (pa_cons (pv 0) (pa_cons pe_int pa_nil))) (fun _ _ => rfl)) pa_nil)))
          (pg_tup (by rfl) (pgs_cons (pg_name (i := 5) scWords.nd rfl (Or.inr rfl)) (pgs_cons (pg_name (i := 6) scWords.nd rfl (Or.inr rfl)) pgs_nil))))
      (pss_one (ps_ret (pe_lc (own := [("_law_k", 7)]) (g := gName 7) (by rfl) scWords.nd
        (pi_range1 rfl T.range (pa_cons (pv 1) pa_nil))
        (blkOk_by (own := [("_law_k", 7)]) (N := nWords) (sc := defScope sWords) (by decide +kernel)) (fun _ _ _ _ _ => pg_name (i := 7) scWords.nd rfl (Or.inl rfl)) (fun _ _ _ _ _ => pts_nil)
        (fun _ _ _ _ _ => pe_op op_add_str (pe_op op_add_str (pv 3) (pe_ix ix_str (pv 2) (pe_op op_modN (pe_callTy call_int1 (by rfl) T.int (by decide +kernel) (pa_cons (pe_op op_add (pv 5) (pe_op op_mul (pv 6) (pv 7))) pa_nil)) pe_int) (fun _ _ => rfl))) (pv 4)))))))), ?_⟩
    -- front
    refine ⟨⟨_, rfl⟩, _, rfl, d, q, n, 4, rfl, hp, by omega, by decide, by decide, fun r H1 r0 r1 hp1 kp1 => ⟨r, rfl, by omega, by omega, fun D1 hD1 => ?_⟩⟩
    obtain ⟨j, rfl⟩ : ∃ j : Nat, r = (j : Int) := ⟨r.toNat, by omega⟩
    rw [Int.toNat_natCast]
    have zD1 : H D1 = none := kp1.free hp1 hD1
    obtain ⟨nDd, nDq⟩ := hp.ne zD1
    refine lc_range (lo := 0) (n := j) (fun i H' => ∃ cs : List Nat, cs.length = i ∧ (∀ c ∈ cs, c ∈ LE) ∧ H' D1 = some (.lst ((cs.map one).map V.str)) ∧ PenAt H' d q (n + 1 + i) ∧ Kept d H H') ?_ ?_ ?_
    · exact ⟨[], rfl, by simp, upd_same, hp1.upd nDd nDq, kp1.upd zD1⟩
    · rintro i H2 hi ⟨cs, hcs, hc, hD, hp2, kp2⟩
      refine ⟨rfl, _, rfl, _, rfl, d, q, _, zLE, rfl, hp2, by omega, by decide +kernel, by decide +kernel, fun c H3 hcm hp3 kp3 => ?_⟩
      have hD3 := kp3 _ _ hD nDd
      refine ⟨_, hD3, ?_, cs ++ [c], by simp [hcs], ?_, ?_, ?_, ?_⟩
      · simp; exact small1000 (by omega)
      · intro x hx
        rcases List.mem_append.mp hx with h | h
        · exact hc x h
        · rw [List.mem_singleton.mp h]; exact hcm
      · rw [upd_same]; simp [one]
      · exact (hp3.upd nDd nDq).mono (by omega)
      · exact (kp2.trans kp3).upd zD1
    · rintro H2 ⟨F, hF, hFm, hD, hp2, kp2⟩
      clear hp1 kp1 hD1
      refine ⟨_, D1, F.map one, rfl, rfl, .inl (SqL.of hD), ?_, ?_⟩
      · rw [sum_ones, List.length_map]
        show F.length + F.length * 0 ≤ 16777216
        omega
      have eF := join_ones F
      generalize Txt.join ("" : Str) (F.map one) = zF at eF ⊢
      -- back
      refine ⟨⟨_, rfl⟩, _, rfl, d, q, _, 4, rfl, hp2, by omega, by decide, by decide, fun r H3 s0 s1 hp3 kp3 => ⟨r, rfl, by omega, by omega, fun D2 hD2 => ?_⟩⟩
      obtain ⟨j', rfl⟩ : ∃ j' : Nat, r = (j' : Int) := ⟨r.toNat, by omega⟩
      rw [Int.toNat_natCast]
      have zD2 : H D2 = none := (kp2.trans kp3).free hp3 hD2
      obtain ⟨mDd, mDq⟩ := hp.ne zD2
      refine lc_range (lo := 0) (n := j') (fun i H' => ∃ cs : List Nat, cs.length = i ∧ (∀ c ∈ cs, c ∈ AL) ∧ H' D2 = some (.lst ((cs.map one).map V.str)) ∧ PenAt H' d q (n + 5 + i) ∧ Kept d H H') ?_ ?_ ?_
      · exact ⟨[], rfl, by simp, upd_same, (hp3.upd mDd mDq).mono (by omega), (kp2.trans kp3).upd zD2⟩
      · rintro i H4 hi ⟨cs, hcs, hc, hD', hp4, kp4⟩
        refine ⟨rfl, _, rfl, _, rfl, _, _, rfl, rfl, by decide +kernel, d, q, _, zLE ++ zDG, rfl, hp4, by omega, by decide +kernel, by decide +kernel, fun c H5 hcm hp5 kp5 => ?_⟩
        have hD5 := kp5 _ _ hD' mDd
        refine ⟨_, hD5, ?_, cs ++ [c], by simp [hcs], ?_, ?_, ?_, ?_⟩
        · simp; exact small1000 (by omega)
        · intro x hx
          rcases List.mem_append.mp hx with h | h
          · exact hc x h
          · rw [List.mem_singleton.mp h, AL_eq]; exact hcm
        · rw [upd_same]; simp [one]
        · exact (hp5.upd mDd mDq).mono (by omega)
        · exact (kp4.trans kp5).upd zD2
      · rintro H4 ⟨B, hB, hBm, hD', hp4, kp4⟩
        clear hp3 kp3 hD2
        refine ⟨_, D2, B.map one, rfl, rfl, .inl (SqL.of hD'), ?_, ?_⟩
        · rw [sum_ones, List.length_map]
          show B.length + B.length * 0 ≤ 16777216
          omega
        have eB := join_ones B
        generalize Txt.join ("" : Str) (B.map one) = zB at eB ⊢
        -- first, step
        refine ⟨_, rfl, d, q, _, 26, rfl, hp4, by omega, by decide, by decide, fun a H5 a0 a1 hp5 kp5 => ?_⟩
        refine ⟨by decide, fun l hl => ?_⟩
        have zl : H l = none := (kp4.trans kp5).free hp5 hl
        obtain ⟨nld, nlq⟩ := hp.ne zl
        refine ⟨_, rfl, d, q, _, 6, rfl, hp5.upd nld nlq, by omega, by decide, by decide, fun b H6 b0 b1 hp6 kp6 => ?_⟩
        obtain ⟨a, rfl⟩ : ∃ j : Nat, a = (j : Int) := ⟨a.toNat, by omega⟩
        obtain ⟨b, rfl⟩ : ∃ j : Nat, b = (j : Int) := ⟨b.toNat, by omega⟩
        have hl6 := kp6 l _ upd_same nld
        obtain ⟨st, hst, hst2⟩ : ∃ st : Nat, ([V.int 1, V.int 3, V.int 5, V.int 7, V.int 9, V.int 11] : List V)[b]? = some (.int (st : Int)) ∧ (st = 1 ∨ st = 3 ∨ st = 5 ∨ st = 7 ∨ st = 9 ∨ st = 11) := by
          have : b < 6 := by omega
          rcases b with _ | _ | _ | _ | _ | _ | b
          · exact ⟨1, rfl, by simp⟩
          · exact ⟨3, rfl, by simp⟩
          · exact ⟨5, rfl, by simp⟩
          · exact ⟨7, rfl, by simp⟩
          · exact ⟨9, rfl, by simp⟩
          · exact ⟨11, rfl, by simp⟩
          · omega
        refine ⟨l, _, _, _, rfl, rfl, SqL.of hl6, atI_nat hst, ?_⟩
        refine ⟨by show 2 ≤ sizeLine; decide, fun t ht => ?_⟩
        refine ⟨t, _, rfl, SqT.of upd_same, rfl, ?_⟩
        have hp7 : PenAt (upd H6 t (.tup [V.int (a : Int), V.int (st : Int)])) d q (n + 20) := (hp6.same (same_upd ht)).mono (by omega)
        have kp7 : Kept d H (upd H6 t (.tup [V.int (a : Int), V.int (st : Int)])) := (((kp4.trans kp5).upd zl).trans kp6).trans (.same (same_upd ht))
        generalize upd H6 t (.tup [V.int (a : Int), V.int (st : Int)]) = H7 at hp7 kp7 ⊢
        refine ⟨_, _, rfl, _, _, rfl, rfl, ?_⟩
        -- the words
        refine ⟨_, rfl, (m : Int), rfl, by omega, by omega, fun D3 hD3 => ?_⟩
        rw [Int.toNat_natCast]
        have zD3 : H D3 = none := kp7.free hp7 hD3
        obtain ⟨oDd, oDq⟩ := hp.ne zD3
        have lzF : zF.length ≤ 3 := by rw [len_tl, eF, hF]; omega
        have lzB : zB.length ≤ 3 := by rw [len_tl, eB, hB]; omega
        refine lc_range (lo := 0) (n := m) (fun i H' => H' D3 = some (.lst (((List.range i).map (wordAt zF zB a st)).map V.str)) ∧ PenAt H' d q (n + 20) ∧ Kept d H H') ?_ ?_ ?_
        · exact ⟨upd_same, hp7.upd oDd oDq, kp7.upd zD3⟩
        · rintro i H8 hi ⟨hD8, hp8, kp8⟩
          have hi26 : i < 26 := by omega
          refine ⟨rfl, _, rfl, _, rfl, _, rfl, _, rfl, _, rfl, _, _, rfl, rfl, .inl ⟨by omega, by omega⟩, _, _, rfl, rfl, .inl ⟨_, rfl, ?_⟩⟩
          refine ⟨_, _, rfl, rfl, by show (26 : Int) ≠ 0; decide, ?_⟩
          have ei : ((a : Int) + (st : Int) * (0 + (i : Int))).fmod 26 = (((a + st * i) % 26 : Nat) : Int) := by
            rw [Int.fmod_eq_emod_of_nonneg _ (by decide)]
            simp
          have hlt : (a + st * i) % 26 < 26 := Nat.mod_lt _ (by decide)
          refine ⟨zLE, _, LE.getD ((a + st * i) % 26) 0, rfl, rfl, by decide +kernel, ?_, _, _, rfl, rfl, ?_, _, rfl, _, _, rfl, rfl, ?_, _, hD8, ?_, ?_, ?_, ?_⟩
          · show atI LE (((a : Int) + (st : Int) * (0 + (i : Int))).fmod 26) = _
            rw [ei]
            refine atI_nat ?_
            show LE[(a + st * i) % 26]? = _
            have : (a + st * i) % 26 < LE.length := by rw [LE_len]; exact hlt
            rw [List.getD_eq_getElem?_getD, List.getElem?_eq_getElem this]
            rfl
          · show zF.length + 1 ≤ sizeLine
            exact Nat.le_trans (by omega : zF.length + 1 ≤ 100) (by decide)
          · have e1 : (zF ++ (⟨#[LE.getD ((a + st * i) % 26) 0]⟩ : Str)).length = zF.length + 1 := by
              rw [len_tl, len_tl]
              have := TL.tl_append zF (⟨#[LE.getD ((a + st * i) % 26) 0]⟩ : Str)
              unfold TL.tl at this
              rw [this]
              simp
            rw [e1]
            exact Nat.le_trans (by omega : zF.length + 1 + zB.length ≤ 100) (by decide)
          · simp; exact small1000 (by omega)
          · rw [upd_same, List.range_succ]
            simp [wordAt, one]
          · exact hp8.upd oDd oDq
          · exact kp8.upd zD3
        · rintro H8 ⟨hD8, hp8, kp8⟩
          refine k D3 _ H8 zD3 hD8 (by simp) (words_nodup hst2 m hm) (fun z hz => ?_) ⟨zF.cps.toList.length + 1 + zB.cps.toList.length, fun z hz => by
            obtain ⟨i, _, rfl⟩ := List.mem_map.mp hz
            rw [tl_wordAt]; simp; omega⟩ hp8 kp8
          obtain ⟨i, _, rfl⟩ := List.mem_map.mp hz
          refine wordAt_wd (fun c hc => hFm c (eF ▸ hc)) (by rw [eF, hF]; omega) (fun c hc => hBm c (eB ▸ hc)) (by rw [eB, hB]; omega)
end
end K1
set_option Elab.async false
set_option linter.all false
set_option maxRecDepth 100000
namespace K1
open PySem L2
def valOf : Stmt → Expr
  | .Assign _ v _ => v
  | .Return (some v) _ => v
  | _ => .Constant .none 0 ⟨0, 0, 0, 0⟩
def compScope : Expr → Scope
  | .ListComp _ _ sc _ => sc
  | _ => { kind := .function, names := [], isGenerator := false, isCoroutine := false }
def eltOf : Expr → Expr
  | .ListComp e _ _ _ => e
  | e => e
def stOf (s : Stmt) (i : Nat) : Stmt := (defBody s).getD i (.Pass ⟨0, 0, 0, 0⟩)
def spPen (K : PySem.W.Frag) : Sp := fun vs H Q _ => ∃ (a : Addr) (ns : List Int), vs = [.ref a] ∧ SqL K H a (ns.map V.int) ∧ ns.length ≤ 63 ∧
  ∀ (d c : Addr) (H' : Hp), H d = none → H c = none → PenAt H' d c 0 → Same H H' → Q (.ref d) H'
section
variable {P : Program} {w : World} {K : PySem.W.Frag} {mg : Str → Option Value} {base : Heap}
theorem scPen : FnScope ["_law_script"] ["_law_script"] (defScope sPen) := ⟨rfl, rfl, rfl, by decide +kernel, rfl, by decide +kernel, by decide +kernel⟩
theorem cut63 {xs : List V} (h : xs.length ≤ 63) : cutV xs none (some 63) = xs := by
  have e : HT.sIx xs.length xs.length (some 63) = min 63 xs.length := HT.sIx_nat xs.length xs.length 63
  unfold cutV
  rw [HT.sIx_none, e, Nat.min_eq_right h]
  simp
theorem ok_pen {f : Addr} {fd : FuncData} (D : Df K mg "_law_pen" sPen ["_law_script"] f fd) (T : Bt mg) : FnOk P w K mg base CX0 1 f fd ["_law_script"] (spPen K) := by
  refine D.F.ok scPen (fun vs H Q E h => ?_) (fun cdv A outer s H vs Q E hr h => ?_)
  · obtain ⟨a, ns, rfl, _⟩ := h
    rfl
  · obtain ⟨a, ns, rfl, ha, hl, k⟩ := h
    refine ⟨_, pss_one (ps_ret (pe_disp (pps_cons pe_str (pe_callTy call_list_of (by rfl) T.list (by decide +kernel) (pa_cons (pe_slice sl_list (pv 0) po_none (po_some pe_int)) pa_nil))
      (pps_cons pe_str pe_int (pps_cons pe_str pe_int pps_nil))) (by rfl) (by rfl) (fun z => by cases z) (by decide))), ?_⟩
    intro p hp
    have ha1 := (same_upd (o := .dK []) hp).seq ha
    refine ⟨_, rfl, 63, rfl, a, _, rfl, ha1, fun q hq => ?_⟩
    rw [cut63 (by simpa using hl)]
    refine ⟨q, _, rfl, .inl (SqL.of upd_same), fun c hc => ?_⟩
    have npq : p ≠ q := by intro z; rw [z, upd_same] at hq; cases hq
    have nqp := npq.symm
    have zq : H q = none := by rw [upd_ne nqp] at hq; exact hq
    have npc : p ≠ c := by
      intro z; rw [z] at npq; rw [← z, upd_ne (by rw [z]; exact npq), upd_same] at hc; cases hc
    have nqc : q ≠ c := by intro z; rw [← z, upd_same] at hc; cases hc
    have zc : H c = none := by rw [upd_ne nqc.symm, upd_ne npc.symm] at hc; exact hc
    refine ⟨by rw [upd_ne npc, upd_ne npq, upd_same], penK c 0 0, rfl, by show 3 ≤ 15; decide, ?_⟩
    have em : mergeK [] (penK c 0 0) = penK c 0 0 := by
      have h1 : ¬ (("cells" : Str) = "at") := by decide +kernel
      have h2 : ¬ (("cells" : Str) = "left") := by decide +kernel
      have h3 : ¬ (("at" : Str) = "left") := by decide +kernel
      unfold mergeK penK putK
      simp [h1, h2, h3]
    rw [em]
    refine k p c _ hp zc ⟨ns, 0, 0, upd_same, ?_, hl, by decide, by decide⟩ ?_
    · rw [upd_ne npc.symm, upd_same]
    · intro b o e
      rw [upd_ne (ne_of_none e hp), upd_ne (ne_of_none e zc), upd_ne (ne_of_none e zq), upd_ne (ne_of_none e hp)]
      exact e
end
end K1
set_option Elab.async false
set_option linter.all false
set_option maxRecDepth 100000
namespace K1
open PySem L2
abbrev sIsInt : Stmt := top 15
abbrev sIsIndex : Stmt := top 16
abbrev sIsWord : Stmt := top 17
/-- the names of the built-ins, and the constants -/
structure Bt2 (mg : Str → Option Value) : Prop extends Bt mg where
  isinstance : mg "isinstance" = none
  bool : mg "bool" = none
  str : mg "str" = none
  all : mg "all" = none
  enumerate : mg "enumerate" = none
  min : mg "min" = none
  LETTERS : ∃ t, mg "LETTERS" = some (.str zLE t)
  DIGITS : ∃ t, mg "DIGITS" = some (.str zDG t)
  LONGEST_WORD : ∃ t, mg "LONGEST_WORD" = some (.int 12 t)
def spIsInt : Sp := fun vs H Q _ => ∃ i : Int, vs = [.int i] ∧ Q (.bl true) H
def spIsIndex : Sp := fun vs H Q _ => ∃ i m : Int, vs = [.int i, .int m] ∧ 0 ≤ i ∧ i < m ∧ Q (.bl true) H
def spIsWord : Sp := fun vs H Q _ => ∃ z : Str, vs = [.str z] ∧ Wd z ∧ ∀ H', Same H H' → Q (.bl true) H'
abbrev zSL : Str := "/"
def TL' : List Nat := AL ++ zSL.cps.toList
def Tl (z : Str) : Prop := 1 ≤ z.cps.toList.length ∧ z.cps.toList.length ≤ 60 ∧ ∀ x ∈ z.cps.toList, x ∈ TL'
def spIsTell : Sp := fun vs H Q _ => ∃ z : Str, vs = [.str z] ∧ Tl z ∧ ∀ H', Same H H' → Q (.bl true) H'
section
variable {P : Program} {w : World} {K : PySem.W.Frag} {mg : Str → Option Value} {base : Heap}
theorem scIsInt : FnScope ["value"] ["value"] (defScope sIsInt) := ⟨rfl, rfl, rfl, by decide +kernel, rfl, by decide +kernel, by decide +kernel⟩
theorem ok_isint {f : Addr} {fd : FuncData} (D : Df K mg "is_integer" sIsInt ["value"] f fd) (T : Bt2 mg) : FnOk P w K mg base CX0 1 f fd ["value"] spIsInt := by
  refine D.F.ok scIsInt (fun vs H Q E h => ?_) (fun cdv A outer s H vs Q E hr h => ?_)
  · obtain ⟨i, rfl, _⟩ := h
    rfl
  · obtain ⟨i, rfl, k⟩ := h
    refine ⟨_, pss_one (ps_ret (pe_and (pe_callB call_isi (by rfl) T.isinstance PyProof.Rows.boot_isinstance (pa_cons (pv 0) (pa_cons (pe_bltn (v := .ty "int") (by rfl) T.int PyProof.Rows.boot_int rfl) pa_nil)))
      (pe_one (pe_not (pe_callB call_isi (by rfl) T.isinstance PyProof.Rows.boot_isinstance (pa_cons (pv 0) (pa_cons (pe_bltn (v := .ty "bool") (by rfl) T.bool PyProof.Rows.boot_bool rfl) pa_nil))))))), ?_⟩
    refine ⟨_, rfl, _, _, _, _, true, rfl, .ty "int", .base (.int i), kit_ty (by decide +kernel), true, rfl, ?_⟩
    refine ⟨_, rfl, _, _, _, _, false, rfl, .ty "bool", .base (.int i), kit_ty (by decide +kernel), false, rfl, k⟩
theorem scIsIndex : FnScope ["value", "many"] ["value", "many"] (defScope sIsIndex) := ⟨rfl, rfl, rfl, by decide +kernel, rfl, by decide +kernel, by decide +kernel⟩
theorem ok_isindex {f fI : Addr} {fd fdI : FuncData} (D : Df K mg "is_index" sIsIndex ["value", "many"] f fd) (DI : Df K mg "is_integer" sIsInt ["value"] fI fdI) (T : Bt2 mg) : FnOk P w K mg base CX0 2 f fd ["value", "many"] spIsIndex := by
  have GI : FnOk P w K mg base CX0 1 fI fdI ["value"] spIsInt := ok_isint DI T
  refine D.F.ok scIsIndex (fun vs H Q E h => ?_) (fun cdv A outer s H vs Q E hr h => ?_)
  · obtain ⟨i, m, rfl, _⟩ := h
    rfl
  · obtain ⟨i, m, rfl, h0, h1, k⟩ := h
    refine ⟨_, pss_one (ps_ret (pe_and (pe_call GI hr rfl DI.g DI.F.kp DI.b .nil pass0 (pa_cons (pv 0) pa_nil)) (pe_one (pe_chain op_le op_lt pe_int (pv 0) (pv 1))))), ?_⟩
    refine ⟨_, rfl, i, rfl, true, rfl, ?_⟩
    refine ⟨_, rfl, _, _, rfl, rfl, _, rfl, ?_⟩
    rw [decide_eq_true h0]
    refine iteT ?_
    refine ⟨_, rfl, _, _, rfl, rfl, ?_⟩
    show Q (V.bl (decide (i < m))) H
    rw [decide_eq_true h1]
    exact k
theorem scIsWord : FnScope ["value", "sign"] ["value"] (defScope sIsWord) := ⟨rfl, rfl, rfl, by decide +kernel, rfl, by decide +kernel, by decide +kernel⟩
theorem ok_isword {f : Addr} {fd : FuncData} (D : Df K mg "is_word" sIsWord ["value"] f fd) (T : Bt2 mg) : FnOk P w K mg base CX0 1 f fd ["value"] spIsWord := by
  refine D.F.ok scIsWord (fun vs H Q E h => ?_) (fun cdv A outer s H vs Q E hr h => ?_)
  · obtain ⟨z, rfl, _⟩ := h
    rfl
  · obtain ⟨z, rfl, hz, k⟩ := h
    obtain ⟨tL, gL⟩ := T.LETTERS
    obtain ⟨tD, gD⟩ := T.DIGITS
    obtain ⟨tW, gW⟩ := T.LONGEST_WORD
    obtain ⟨c, r, ez, hc, hr', hl⟩ := id hz
    refine ⟨_, pss_cons (ps_if (PW.pt (pw_or (pt_not (pt_val (pe_callB call_isi (by rfl) T.isinstance PyProof.Rows.boot_isinstance (pa_cons (pv 0) (pa_cons (pe_bltn (v := .ty "str") (by rfl) T.str PyProof.Rows.boot_str rfl) pa_nil)))))
          (pw_or1 (pt_not (pt_chain op_le op_le pe_int (pe_callB call_len_str (by rfl) T.len PySem.boot_len (pa_cons (pv 0) pa_nil)) (pe_glob (v := .int 12) rfl gW ⟨_, rfl⟩))))))
        pss_never pss_nil)
      (pss_one (ps_ret (pe_and (pe_cmpR op_in_sign (pe_ix ix_str (pv 0) pe_int (fun _ _ => rfl)) (pe_glob (v := .str zLE) rfl gL ⟨_, rfl⟩) rfl)
        (pe_one (pe_callB (cr_all rfl) (by rfl) T.all PyProof.Rows.boot_all (pa_cons (pe_lc (own := [("sign", 1)]) (g := gName 1) (by rfl) scIsWord.nd (pi_str (pv 0))
          (blkOk_by (own := [("sign", 1)]) (N := ["value", "sign"]) (sc := defScope sIsWord) (by decide +kernel)) (fun _ _ _ _ _ => pg_name (i := 1) scIsWord.nd rfl (Or.inl rfl)) (fun _ _ _ _ _ => pts_nil)
          (fun _ _ _ _ _ => pe_cmpR op_in_sign (pv 1) (pe_op op_add_str (pe_glob (v := .str zLE) rfl gL ⟨_, rfl⟩) (pe_glob (v := .str zDG) rfl gD ⟨_, rfl⟩)) rfl)) pa_nil)))))), ?_⟩
    have lz : z.length = r.length + 1 := by rw [len_tl, ez]; rfl
    have hzl : z.length ≤ sizeLine := Nat.le_trans (by omega : z.length ≤ 100) (by decide)
    refine ⟨_, rfl, _, _, _, _, true, rfl, .ty "str", .base (.str z), kit_ty (by decide +kernel), true, rfl, ?_⟩
    refine iteF ?_
    refine ⟨_, rfl, _, rfl, hzl, _, _, rfl, rfl, _, rfl, ?_⟩
    refine ite2 (fun _ => ?_) (fun h => absurd (decide_eq_true (by show (1 : Int) ≤ (z.length : Int); omega)) h)
    refine ⟨_, _, rfl, rfl, _, rfl, ?_⟩
    have e12 : decide ((z.length : Int) ≤ 12) = true := decide_eq_true (by omega)
    show (if (!decide ((z.length : Int) ≤ 12)) = true then _ else _)
    rw [e12]
    refine iteF ?_
    refine ⟨_, rfl, z, _, c, rfl, rfl, hzl, ?_, c, zLE, rfl, rfl, true, ?_, ?_⟩
    · rw [ez]; exact atI_nat (j := 0) rfl
    · rw [decide_eq_true (show c ∈ zLE.cps.toList from hc)]
    refine iteT ?_
    refine ⟨_, rfl, z, rfl, fun D hD => ?_⟩
    have hall : ∀ x ∈ z.cps.toList, x ∈ AL := fun x hx => by
      rw [ez] at hx
      rcases List.mem_cons.mp hx with rfl | h
      · exact LE_AL hc
      · exact hr' x h
    have hsz : z.cps.size = z.cps.toList.length := by simp
    have hsz7 : z.cps.toList.length ≤ 7 := by rw [ez]; simp; exact hl
    refine lc_it (walk_str (z := z)) (fun i H' => Same H H' ∧ H' D = some (.lst ((List.replicate i true).map V.bl))) ?_ ?_ ?_ ?_
    · exact ⟨same_upd hD, upd_same⟩
    · exact fun _ _ _ _ => trivial
    · rintro i x H1 H2 hi ⟨sm, hD1⟩ ⟨rfl, c', hc', rfl⟩
      have hm : c' ∈ z.cps.toList := by
        have : z.cps.toList[i]? = some c' := by simpa using hc'
        exact List.mem_of_getElem? this
      refine ⟨rfl, _, rfl, _, _, rfl, rfl, by decide +kernel, c', zLE ++ zDG, rfl, rfl, _, hD1, ?_, ?_, ?_⟩
      · simp; exact small1000 (by omega)
      · exact fun b o e => by rw [upd_ne (ne_of_none e hD)]; exact sm b o e
      · rw [upd_same, decide_eq_true (show c' ∈ (zLE ++ zDG).cps.toList by rw [← AL_eq]; exact hall c' hm), List.replicate_succ']
        simp
    · rintro H1 ⟨sm, hD1⟩
      refine ⟨D, _, rfl, SqL.of hD1, ?_⟩
      have e : (List.replicate z.cps.size true).all id = true := by simp
      rw [e]
      exact k H1 sm
end
end K1
set_option Elab.async false
set_option linter.all false
set_option maxRecDepth 100000
/-! what counts as an integer, an index, a word, a tell: of any value -/
namespace K1
open PySem L2
inductive Th (K : PySem.W.Frag) (H : Hp) : V → String → Prop
  | non : Th K H .non "NoneType"
  | bl (b : Bool) : Th K H (.bl b) "bool"
  | int (i : Int) : Th K H (.int i) "int"
  | str (z : Str) (hl : z.length ≤ 1000) : Th K H (.str z) "str"
  | tup {a : Addr} {xs : List V} (e : H a = some (.tup xs)) : Th K H (.ref a) "tuple"
  | lst {a : Addr} {xs : List V} (e : H a = some (.lst xs)) : Th K H (.ref a) "list"
  | dic {a : Addr} {kv : List (Key × V)} (e : H a = some (.dK kv)) : Th K H (.ref a) "dict"
theorem Th.ty {K : PySem.W.Frag} {H : Hp} {v : V} {t : String} (h : Th K H v t) : TyX K H v (.type t) := by
  cases h with
  | non => exact .base .non
  | bl b => exact .base (.bl b)
  | int i => exact .base (.int i)
  | str z => exact .base (.str z)
  | tup e => exact .base (.tup e)
  | lst e => exact .base (.lst e)
  | dic e => exact .base (.dK e)
theorem Th.same {K : PySem.W.Frag} {H H' : Hp} {v : V} {t : String} (h : Th K H v t) (s : Same H H') : Th K H' v t := by
  cases h with
  | non => exact .non
  | bl b => exact .bl b
  | int i => exact .int i
  | str z hl => exact .str z hl
  | tup e => exact .tup (s _ _ e)
  | lst e => exact .lst (s _ _ e)
  | dic e => exact .dic (s _ _ e)
def isStr : V → Bool | .str _ => true | _ => false
def isInt : V → Bool | .int _ => true | .bl _ => true | _ => false
def isBl : V → Bool | .bl _ => true | _ => false
def intB : V → Bool | .int _ => true | _ => false
def ixB (v : V) (m : Int) : Bool := match v with | .int i => decide (0 ≤ i) && decide (i < m) | _ => false
def wordL : List Nat → Bool
  | [] => false
  | c :: r => decide ((c :: r).length ≤ 12) && (decide (c ∈ LE) && (c :: r).all fun x => decide (x ∈ AL))
def wordB : V → Bool | .str z => wordL z.cps.toList | _ => false
def tellL (l : List Nat) : Bool := decide (1 ≤ l.length) && (decide (l.length ≤ 60) && l.all fun x => decide (x ∈ TL'))
def tellB : V → Bool | .str z => tellL z.cps.toList | _ => false
section
variable {K : PySem.W.Frag} {H : Hp} {v : V} {t : String}
theorem Th.kStr (h : Th K H v t) : PySem.W.kitOne K (.type t) (.type "str") = some (isStr v) := by cases h <;> first | exact kit_ty (r := true) (by decide +kernel) | exact kit_ty (r := false) (by decide +kernel)
theorem Th.kInt (h : Th K H v t) : PySem.W.kitOne K (.type t) (.type "int") = some (isInt v) := by cases h <;> first | exact kit_ty (r := true) (by decide +kernel) | exact kit_ty (r := false) (by decide +kernel)
theorem Th.kBl (h : Th K H v t) : PySem.W.kitOne K (.type t) (.type "bool") = some (isBl v) := by cases h <;> first | exact kit_ty (r := true) (by decide +kernel) | exact kit_ty (r := false) (by decide +kernel)
end
def spInt (K : PySem.W.Frag) : Sp := fun vs H Q _ => ∃ v t, vs = [v] ∧ Th K H v t ∧ Q (.bl (intB v)) H
def spIx (K : PySem.W.Frag) : Sp := fun vs H Q _ => ∃ v t m, vs = [v, .int m] ∧ Th K H v t ∧ Q (.bl (ixB v m)) H
def spWord (K : PySem.W.Frag) : Sp := fun vs H Q _ => ∃ v t, vs = [v] ∧ Th K H v t ∧ ∀ H', Same H H' → Q (.bl (wordB v)) H'
def spTell (K : PySem.W.Frag) : Sp := fun vs H Q _ => ∃ v t, vs = [v] ∧ Th K H v t ∧ ∀ H', Same H H' → Q (.bl (tellB v)) H'
section
variable {P : Program} {w : World} {K : PySem.W.Frag} {mg : Str → Option Value} {base : Heap}
theorem g_isint {f : Addr} {fd : FuncData} (D : Df K mg "is_integer" sIsInt ["value"] f fd) (T : Bt2 mg) : FnOk P w K mg base CX0 1 f fd ["value"] (spInt K) := by
  refine D.F.ok scIsInt (fun vs H Q E h => ?_) (fun cdv A outer s H vs Q E hr h => ?_)
  · obtain ⟨v, t, rfl, _⟩ := h
    rfl
  · obtain ⟨v, t, rfl, th, k⟩ := h
    refine ⟨_, pss_one (ps_ret (pe_and (pe_callB call_isi (by rfl) T.isinstance PyProof.Rows.boot_isinstance (pa_cons (pv 0) (pa_cons (pe_bltn (v := .ty "int") (by rfl) T.int PyProof.Rows.boot_int rfl) pa_nil)))
      (pe_one (pe_not (pe_callB call_isi (by rfl) T.isinstance PyProof.Rows.boot_isinstance (pa_cons (pv 0) (pa_cons (pe_bltn (v := .ty "bool") (by rfl) T.bool PyProof.Rows.boot_bool rfl) pa_nil))))))), ?_⟩
    refine ⟨_, rfl, _, _, _, _, isInt v, rfl, .ty "int", th.ty, th.kInt, isInt v, rfl, ?_⟩
    cases v with
    | int i => exact ⟨_, rfl, _, _, _, _, false, rfl, .ty "bool", th.ty, th.kBl, false, rfl, k⟩
    | bl b => exact ⟨_, rfl, _, _, _, _, true, rfl, .ty "bool", th.ty, th.kBl, true, rfl, k⟩
    | _ => exact k
theorem g_isindex {f fI : Addr} {fd fdI : FuncData} (D : Df K mg "is_index" sIsIndex ["value", "many"] f fd) (DI : Df K mg "is_integer" sIsInt ["value"] fI fdI) (T : Bt2 mg) : FnOk P w K mg base CX0 2 f fd ["value", "many"] (spIx K) := by
  have GI : FnOk P w K mg base CX0 1 fI fdI ["value"] (spInt K) := g_isint DI T
  refine D.F.ok scIsIndex (fun vs H Q E h => ?_) (fun cdv A outer s H vs Q E hr h => ?_)
  · obtain ⟨v, t, m, rfl, _⟩ := h
    rfl
  · obtain ⟨v, t, m, rfl, th, k⟩ := h
    refine ⟨_, pss_one (ps_ret (pe_and (pe_call GI hr rfl DI.g DI.F.kp DI.b .nil pass0 (pa_cons (pv 0) pa_nil)) (pe_one (pe_chain op_le op_lt pe_int (pv 0) (pv 1))))), ?_⟩
    refine ⟨_, rfl, v, t, rfl, th, intB v, rfl, ?_⟩
    cases v with
    | int i =>
      refine ⟨_, rfl, _, _, rfl, rfl, _, rfl, ?_⟩
      refine ite2 (fun h => ?_) (fun h => ?_)
      · refine ⟨_, rfl, _, _, rfl, rfl, ?_⟩
        have e : ixB (.int i) m = decide (i < m) := by
          show (decide (0 ≤ i) && decide (i < m)) = _
          rw [h]; rfl
        rw [e] at k
        exact k
      · have e : ixB (.int i) m = false := by
          show (decide (0 ≤ i) && decide (i < m)) = _
          rw [Bool.eq_false_iff.mpr h]; rfl
        rw [e] at k
        exact k
    | _ => exact k
end
end K1
set_option Elab.async false
set_option linter.all false
set_option maxRecDepth 100000
namespace K1
open PySem L2
/-- the signs of z held against a row of signs, one after the other -/
theorem all_signs {K : PySem.W.Frag} (A : List Nat) (l : List Nat) : ((l.map fun x => decide (x ∈ A)).all id) = l.all fun x => decide (x ∈ A) := by
  rw [List.all_map]; rfl
theorem take_snoc {l : List Nat} {i : Nat} {c : Nat} (h : l[i]? = some c) : l.take (i + 1) = l.take i ++ [c] := by
  rw [List.take_add_one, h]; rfl
section
variable {P : Program} {w : World} {K : PySem.W.Frag} {mg : Str → Option Value} {base : Heap}
theorem g_isword {f : Addr} {fd : FuncData} (D : Df K mg "is_word" sIsWord ["value"] f fd) (T : Bt2 mg) : FnOk P w K mg base CX0 1 f fd ["value"] (spWord K) := by
  refine D.F.ok scIsWord (fun vs H Q E h => ?_) (fun cdv A outer s H vs Q E hr h => ?_)
  · obtain ⟨v, t, rfl, _⟩ := h
    rfl
  · obtain ⟨v, t, rfl, th, k⟩ := h
    obtain ⟨tL, gL⟩ := T.LETTERS
    obtain ⟨tD, gD⟩ := T.DIGITS
    obtain ⟨tW, gW⟩ := T.LONGEST_WORD
    refine ⟨_, pss_cons (ps_if (PW.pt (pw_or (pt_not (pt_val (pe_callB call_isi (by rfl) T.isinstance PyProof.Rows.boot_isinstance (pa_cons (pv 0) (pa_cons (pe_bltn (v := .ty "str") (by rfl) T.str PyProof.Rows.boot_str rfl) pa_nil)))))
          (pw_or1 (pt_not (pt_chain op_le op_le pe_int (pe_callB call_len_str (by rfl) T.len PySem.boot_len (pa_cons (pv 0) pa_nil)) (pe_glob (v := .int 12) rfl gW ⟨_, rfl⟩))))))
        (pss_one (ps_ret pe_bl)) pss_nil)
      (pss_one (ps_ret (pe_and (pe_cmpR op_in_sign (pe_ix ix_str (pv 0) pe_int (fun _ _ => rfl)) (pe_glob (v := .str zLE) rfl gL ⟨_, rfl⟩) rfl)
        (pe_one (pe_callB (cr_all rfl) (by rfl) T.all PyProof.Rows.boot_all (pa_cons (pe_lc (own := [("sign", 1)]) (g := gName 1) (by rfl) scIsWord.nd (pi_str (pv 0))
          (blkOk_by (own := [("sign", 1)]) (N := ["value", "sign"]) (sc := defScope sIsWord) (by decide +kernel)) (fun _ _ _ _ _ => pg_name (i := 1) scIsWord.nd rfl (Or.inl rfl)) (fun _ _ _ _ _ => pts_nil)
          (fun _ _ _ _ _ => pe_cmpR op_in_sign (pv 1) (pe_op op_add_str (pe_glob (v := .str zLE) rfl gL ⟨_, rfl⟩) (pe_glob (v := .str zDG) rfl gD ⟨_, rfl⟩)) rfl)) pa_nil)))))), ?_⟩
    refine ⟨_, rfl, _, _, _, _, isStr v, rfl, .ty "str", th.ty, th.kStr, isStr v, rfl, ?_⟩
    cases th with
    | str z hl1 =>
      refine iteF ?_
      have hzl : z.length ≤ sizeLine := Nat.le_trans hl1 (by decide)
      have elen : z.length = z.cps.toList.length := len_tl z
      refine ⟨_, rfl, _, rfl, hzl, _, _, rfl, rfl, _, rfl, ?_⟩
      refine ite2 (fun h1 => ?_) (fun h1 => ?_)
      · have h1' : (1 : Int) ≤ (z.length : Int) := of_decide_eq_true h1
        refine ⟨_, _, rfl, rfl, _, rfl, ?_⟩
        refine ite2 (fun h2 => ?_) (fun h2 => ?_)
        · have e : wordB (.str z) = false := by
            have hn : ¬ z.cps.toList.length ≤ 12 := by
              intro hc
              have : decide ((z.length : Int) ≤ 12) = true := decide_eq_true (by omega)
              rw [this] at h2; exact absurd h2 (by decide)
            show wordL z.cps.toList = false
            cases hz : z.cps.toList with
            | nil => rfl
            | cons c r => rw [hz] at hn; show (decide _ && _) = false; rw [decide_eq_false hn]; rfl
          have := k H (Same.refl H)
          rw [e] at this
          exact this
        · have h12 : z.cps.toList.length ≤ 12 := by
            have : decide ((z.length : Int) ≤ 12) = true := by
              cases hd : decide ((z.length : Int) ≤ 12) with
              | true => rfl
              | false => rw [hd] at h2; exact absurd rfl h2
            have := of_decide_eq_true this
            omega
          obtain ⟨c, r, ez⟩ : ∃ c r, z.cps.toList = c :: r := by
            cases hz : z.cps.toList with
            | nil => rw [hz] at elen; simp at elen; omega
            | cons c r => exact ⟨c, r, rfl⟩
          have ew : wordB (.str z) = (decide (c ∈ LE) && z.cps.toList.all fun x => decide (x ∈ AL)) := by
            show wordL z.cps.toList = _
            rw [ez]
            show (decide _ && _) = _
            rw [ez] at h12
            rw [decide_eq_true h12]; rfl
          refine ⟨_, rfl, z, _, c, rfl, rfl, hzl, ?_, c, zLE, rfl, rfl, decide (c ∈ LE), rfl, ?_⟩
          · rw [ez]; exact atI_nat (j := 0) rfl
          refine ite2 (fun hc => ?_) (fun hc => ?_)
          · refine ⟨_, rfl, z, rfl, fun D hD => ?_⟩
            refine lc_it (walk_str (z := z)) (fun i H' => Same H H' ∧ H' D = some (.lst ((((z.cps.toList.take i).map fun x => decide (x ∈ AL))).map V.bl))) ?_ ?_ ?_ ?_
            · exact ⟨same_upd hD, upd_same⟩
            · exact fun _ _ _ _ => trivial
            · rintro i x H1 H2 hi ⟨sm, hD1⟩ ⟨rfl, c', hc', rfl⟩
              have hi' : z.cps.toList[i]? = some c' := by simpa using hc'
              refine ⟨rfl, _, rfl, _, _, rfl, rfl, by decide +kernel, c', zLE ++ zDG, rfl, rfl, _, hD1, ?_, ?_, ?_⟩
              · rw [List.length_map, List.length_map, List.length_take]; exact small1000 (by omega)
              · exact fun b o e => by rw [upd_ne (ne_of_none e hD)]; exact sm b o e
              · rw [upd_same, take_snoc hi']
                simp [AL_eq]
            · rintro H1 ⟨sm, hD1⟩
              refine ⟨D, _, rfl, SqL.of hD1, ?_⟩
              have e : ((z.cps.toList.take z.cps.size).map fun x => decide (x ∈ AL)).all id = wordB (.str z) := by
                have hs : z.cps.size = z.cps.toList.length := by simp
                rw [hs, List.take_length, all_signs (K := K), ew, hc]; rfl
              rw [e]
              exact k H1 sm
          · have e : wordB (.str z) = decide (c ∈ LE) := by
              rw [ew, Bool.eq_false_iff.mpr hc]; rfl
            have := k H (Same.refl H)
            rw [e] at this
            have e2 := Bool.eq_false_iff.mpr hc
            rw [e2] at this
            exact this
      · have e : wordB (.str z) = false := by
          have hn : z.cps.toList = [] := by
            cases hz : z.cps.toList with
            | nil => rfl
            | cons c r => exact absurd (decide_eq_true (by rw [elen, hz]; simp; omega)) h1
          show wordL z.cps.toList = false
          rw [hn]; rfl
        have := k H (Same.refl H)
        rw [e] at this
        exact ⟨_, rfl, this⟩
    | _ => exact k H (Same.refl H)
end
end K1
set_option Elab.async false
set_option linter.all false
set_option maxRecDepth 100000
/-! the package's own errors: made from their fields, kept in their dict -/
namespace K1
open PySem L2
structure Oer (K : PySem.W.Frag) (mg : Str → Option Value) (x : Str) (fs : List Str) (C fI : Addr) (fd : FuncData) (qual : Str) (st : Stmt) : Prop where
  T : OexC K C
  xf : XfC K C
  g : mg x = some (.ref C)
  ini : PySem.W.findIn K (.ref C) "__init__" = some (some (.ref fI))
  tI : PySem.W.typeIn K (.ref fI) = some (.type "function")
  no : ∀ f ∈ fs, PySem.W.findIn K (.ref C) f = some none
  F : Fun K "__init__" qual st fI fd
  b : Binds K fd ("self" :: fs) []
def spIni (C : Addr) (fs : List Str) : Sp := fun vs H Q _ => ∃ (a : Addr) (ys : List V), vs = .ref a :: ys ∧ ys.length = fs.length ∧ H a = some (exo a C none) ∧
  ∀ dx, H dx = none → dx ≠ a → ∀ H', (∀ b o, H b = some o → b ≠ a → H' b = some o) → H' a = some (exo a C (some dx)) → H' dx = some (exd dx (fs.zip ys).reverse) → Q .non H'
/-- the reading of C(e, ..): d is the error's dict, new -/
theorem err_read {C : Addr} {fs : List Str} {vs : List V} {H1 : Hp} {Q : XK} (hl : fs.length ≤ 10) (e : vs.length = fs.length) (k : ∀ d G, Same H1 G → H1 d = none → G d = some (.xd (fs.zip vs).reverse) → Q (.ref C) (some d) G) :
    vs.length ≤ 1000 ∧ ∀ a, H1 a = none → spIni C fs (.ref a :: (vs ++ [])) (upd H1 a (exo a C none))
      (fun v H2 => v = .non ∧ ∃ (d : Addr) (gs : List (Str × V)), H2 a = some (exo a C (some d)) ∧ H2 d = some (exd d gs) ∧ H1 d = none ∧ Q (.ref C) (some d) (upd (del H2 a) d (.xd gs))) (fun _ _ _ => False) := by
  refine ⟨by omega, fun a ha => ?_⟩
  rw [List.append_nil]
  refine ⟨a, vs, rfl, e, upd_same, fun dx hdx ne H' keep ea ed => ⟨rfl, dx, _, ea, ed, ?_, ?_⟩⟩
  · rw [upd_ne ne] at hdx; exact hdx
  · have h1 : H1 dx = none := by rw [upd_ne ne] at hdx; exact hdx
    refine k dx _ (fun b o eb => ?_) h1 upd_same
    have nb : b ≠ a := ne_of_none eb ha
    rw [upd_ne (ne_of_none eb h1), del_ne nb]
    exact keep b o (by rw [upd_ne nb]; exact eb) nb
end K1
set_option Elab.async false
set_option linter.all false
set_option maxRecDepth 100000
/-! a machine made of any parts: the first error, or none -/
namespace L2
open PySem PySem.Spec PyProof.Rows
section
variable {X : Cx} {CX : CXT} {k : Nat} {f C : Addr} {fd : FuncData} {ps : List Str} {sp : Sp} {E : St → XK} {x : Str} {p pos : Pos} {e : Expr} {es : List Expr} {t : TA} {ds : List Value} {dvs : List V}
/-- C(e, ..) where the making may raise, inside a try -/
def tMakeS (C : Addr) (sp : Sp) (dvs : List V) (E : St → XK) (t : TA) : TE := fun σ H Q => t σ H fun vs H1 => ∀ x dx, H1 x = none → H1 dx = none → dx ≠ x →
  sp (.ref x :: (vs ++ dvs)) (upd (upd H1 dx (.own x)) x (.ins C dx [])) (fun v H2 => v = .non ∧ Q (.ref x) H2) (E σ)
theorem run_makeS {pins : List (Addr × Obj)} {u : St} {H : Hp} {s : Shared} {Q : VK} {us : List Value} {vs : List V} (M : Mk X.K C f) (F : FnOk X.prog X.w X.K X.mg X.base CX k f fd ps sp) (hr : Room (k + 1) X.A) (hb : Binds X.K fd ps ds) (hd : Vals dvs ds)
    (hx : PassesAt CX X u (E u)) (I : Inv X pins u H s) (r : Vals vs us)
    (go : ∀ x dx, H x = none → H dx = none → dx ≠ x → sp (.ref x :: (vs ++ dvs)) (upd (upd H dx (.own x)) x (.ins C dx [])) (fun v H2 => v = .non ∧ Q (.ref x) H2) (E u)) :
    wpAny (model X.prog X.w) X.A (call (.ref C) us) (EP X pins u Q) X.xe s := by
  have q0 := go (s.heap.objs.size + 1) s.heap.objs.size (I.hok.fresh (Nat.le_succ _)) (I.hok.fresh (Nat.le_refl _)) (Nat.ne_of_lt (Nat.lt_succ_self _))
  have J := Inv.made (C := C) I
  have rr : Vals (V.ref (s.heap.objs.size + 1) :: (vs ++ dvs)) (Value.ref (s.heap.objs.size + 1) :: (us ++ ds)) := .cons rfl (r.append hd)
  have ln : (Value.ref (s.heap.objs.size + 1) :: us ++ ds).length = ps.length := (F.len _ _ _ _ q0 ▸ rr.length).symm
  have run0 := F.run _ X.stack _ _ ⟨Value.ref (s.heap.objs.size + 1) :: us, []⟩ (Value.ref (s.heap.objs.size + 1) :: (us ++ ds)) _ _ (E u) (hr.make C us []) (J.env0.make C us []) (hb _ (Value.ref (s.heap.objs.size + 1) :: us) J.kIn ln) rr q0
  refine wpAny_call (make_map (f := f) I.kIn M.makes M.init (beq_iff_eq.mp M.fn) (codeAny_mono run0 fun r s' hq' => ?_))
  cases r with
  | error e => exact hx pins _ _ e s' J hq'
  | ok fl =>
    cases fl with
    | ret u =>
      obtain ⟨v, H', I3, rv, ev, q3⟩ := J.after hq'
      subst ev
      exact ⟨rv, V.ref (s.heap.objs.size + 1), H', I3, rfl, q3⟩
    | next => exact hq'.elim
    | brk => exact hq'.elim
    | cont => exact hq'.elim
theorem pe_makeS (M : Mk X.K C f) (F : FnOk X.prog X.w X.K X.mg X.base CX k f fd ps sp) (hr : Room (k + 1) X.A) (hg : Gl X x) (hm : X.mg x = some (.ref C)) (hb : Binds X.K fd ps ds) (hd : Vals dvs ds) (hx : ∀ σ, PassesAt CX X σ (E σ))
    (ha : PA X (e :: es) t) (hdb : (x == ("__debug__" : Str)) = false := by decide) (he : starEach (e :: es) X.env = (false, eval e X.env) :: starEach es X.env := by rfl) (hpl : (backTo pos (starEach es X.env)).any (·.1) = false := by rfl) :
    PE X (.Call (.Name x p) (e :: es) [] pos) (tMakeS C sp dvs E t) := by
  refine ⟨fun pins s u H Q I h => wpAny_Call_Name_kw (ld_glob I hg hm ?_ hdb)⟩
  refine PySem.W.callWith_K (h₀ := X.base) I.ok.mod.kin M.kp (thn (ha.run pos pins s u H _ I h) fun us s1 ⟨vs, H1, I1, r, q⟩ => ⟨I1.kIn, ?_⟩) he hpl
  exact run_makeS M F hr hb hd (hx u) I1 r q
end
end L2
set_option Elab.async false
set_option linter.all false
set_option maxRecDepth 100000
namespace L2
open PySem PySem.Spec PyProof.Rows
variable {X : Cx}
/-- x in t, of data, where t is a tuple -/
def rInT (K : PySem.W.Frag) (neg : Bool) : R2 := fun x y H Q => ∃ d ds, Dp K H x d ∧ Dp K H y (.tuple ds) ∧ SeqAt.shaped d = true ∧ SeqAt.shaped (.tuple ds) = true ∧ Q (.bl (if neg then !(ds.any fun z => PyData.eqv z d) else ds.any fun z => PyData.eqv z d)) H
theorem canLay_tup {ds : List PyData} (h : SeqAt.shaped (.tuple ds) = true) : PyData.canLayAll0 ds = true := by
  unfold SeqAt.shaped at h
  rw [PyData.canLay0] at h
  exact (Bool.and_eq_true_iff.mp h).1
theorem op_inT (hu : X.A.units + 65 < cLine) : OpR X (compareOp .In) (rInT X.K false) := by
  intro pins s σ H x y v u Q I rx ry h
  obtain ⟨d, ds, hd, he, sd, se, q⟩ := h
  obtain ⟨as, r1⟩ := Dp.reads I d x v hd rx
  obtain ⟨bs, r2⟩ := Dp.reads I (.tuple ds) y u he ry
  exact SeqAt.in_tuple_reads r2 r1 (canLay_tup se) (SeqAt.canLay_of_shaped sd) (room_in_shaped sd hu) ⟨.bl _, H, I, rfl, q⟩
theorem op_notInT (hu : X.A.units + 65 < cLine) : OpR X (compareOp .NotIn) (rInT X.K true) := by
  intro pins s σ H x y v u Q I rx ry h
  obtain ⟨d, ds, hd, he, sd, se, q⟩ := h
  obtain ⟨as, r1⟩ := Dp.reads I d x v hd rx
  obtain ⟨bs, r2⟩ := Dp.reads I (.tuple ds) y u he ry
  exact SeqAt.notIn_tuple_reads r2 r1 (canLay_tup se) (SeqAt.canLay_of_shaped sd) (room_in_shaped sd hu) ⟨.bl _, H, I, rfl, q⟩
end L2
namespace K1
open PySem L2
section
variable {P : Program} {w : World} {K : PySem.W.Frag} {mg : Str → Option Value} {base : Heap}
abbrev sBadDeeds : Stmt := inClass (top 3) 0
theorem scBadDeeds : FnScope ["self", "index"] ["self", "index"] (defScope sBadDeeds) := ⟨rfl, rfl, rfl, by decide +kernel, rfl, by decide +kernel, by decide +kernel⟩
abbrev OBadDeeds (K : PySem.W.Frag) (mg : Str → Option Value) (C fI : Addr) (fd : FuncData) : Prop := Oer K mg "BadDeeds" ["index"] C fI fd "BadDeeds.__init__" sBadDeeds
theorem ini_BadDeeds {C fI : Addr} {fd : FuncData} (O : OBadDeeds K mg C fI fd) : FnOk P w K mg base CX0 1 fI fd ["self", "index"] (spIni C ["index"]) := by
  refine O.F.ok scBadDeeds (fun vs H Q E h => ?_) (fun cdv A outer s H vs Q E hr h => ?_)
  · obtain ⟨a, ys, rfl, e, _⟩ := h
    show ys.length + 1 = _
    rw [e]; rfl
  · obtain ⟨a, ys, rfl, e, ha, k⟩ := h
    obtain ⟨y0, rfl⟩ : ∃ y0, ys = [y0] := by
      match ys, e with
      | [y0], _ => exact ⟨y0, rfl⟩
    refine ⟨_, pss_one (ps_ost (f := "index") (pv 0) (pv 1)), ?_⟩
    refine ⟨_, rfl, _, rfl, a, C, rfl, O.T, O.no _ (List.mem_cons_self ..), .inl ⟨ha, fun dx hdx ne => ?_⟩⟩
    refine k dx hdx ne _ (fun b o eb nb => ?_) ?_ ?_
    · rw [upd_ne nb, upd_ne (ne_of_none eb hdx)]; exact eb
    · exact upd_same
    · rw [upd_ne ne]; exact upd_same
abbrev sBadNumber : Stmt := inClass (top 4) 0
theorem scBadNumber : FnScope ["self", "number"] ["self", "number"] (defScope sBadNumber) := ⟨rfl, rfl, rfl, by decide +kernel, rfl, by decide +kernel, by decide +kernel⟩
abbrev OBadNumber (K : PySem.W.Frag) (mg : Str → Option Value) (C fI : Addr) (fd : FuncData) : Prop := Oer K mg "BadNumber" ["number"] C fI fd "BadNumber.__init__" sBadNumber
theorem ini_BadNumber {C fI : Addr} {fd : FuncData} (O : OBadNumber K mg C fI fd) : FnOk P w K mg base CX0 1 fI fd ["self", "number"] (spIni C ["number"]) := by
  refine O.F.ok scBadNumber (fun vs H Q E h => ?_) (fun cdv A outer s H vs Q E hr h => ?_)
  · obtain ⟨a, ys, rfl, e, _⟩ := h
    show ys.length + 1 = _
    rw [e]; rfl
  · obtain ⟨a, ys, rfl, e, ha, k⟩ := h
    obtain ⟨y0, rfl⟩ : ∃ y0, ys = [y0] := by
      match ys, e with
      | [y0], _ => exact ⟨y0, rfl⟩
    refine ⟨_, pss_one (ps_ost (f := "number") (pv 0) (pv 1)), ?_⟩
    refine ⟨_, rfl, _, rfl, a, C, rfl, O.T, O.no _ (List.mem_cons_self ..), .inl ⟨ha, fun dx hdx ne => ?_⟩⟩
    refine k dx hdx ne _ (fun b o eb nb => ?_) ?_ ?_
    · rw [upd_ne nb, upd_ne (ne_of_none eb hdx)]; exact eb
    · exact upd_same
    · rw [upd_ne ne]; exact upd_same
abbrev sBadKind : Stmt := inClass (top 5) 0
theorem scBadKind : FnScope ["self", "kind"] ["self", "kind"] (defScope sBadKind) := ⟨rfl, rfl, rfl, by decide +kernel, rfl, by decide +kernel, by decide +kernel⟩
abbrev OBadKind (K : PySem.W.Frag) (mg : Str → Option Value) (C fI : Addr) (fd : FuncData) : Prop := Oer K mg "BadKind" ["kind"] C fI fd "BadKind.__init__" sBadKind
theorem ini_BadKind {C fI : Addr} {fd : FuncData} (O : OBadKind K mg C fI fd) : FnOk P w K mg base CX0 1 fI fd ["self", "kind"] (spIni C ["kind"]) := by
  refine O.F.ok scBadKind (fun vs H Q E h => ?_) (fun cdv A outer s H vs Q E hr h => ?_)
  · obtain ⟨a, ys, rfl, e, _⟩ := h
    show ys.length + 1 = _
    rw [e]; rfl
  · obtain ⟨a, ys, rfl, e, ha, k⟩ := h
    obtain ⟨y0, rfl⟩ : ∃ y0, ys = [y0] := by
      match ys, e with
      | [y0], _ => exact ⟨y0, rfl⟩
    refine ⟨_, pss_one (ps_ost (f := "kind") (pv 0) (pv 1)), ?_⟩
    refine ⟨_, rfl, _, rfl, a, C, rfl, O.T, O.no _ (List.mem_cons_self ..), .inl ⟨ha, fun dx hdx ne => ?_⟩⟩
    refine k dx hdx ne _ (fun b o eb nb => ?_) ?_ ?_
    · rw [upd_ne nb, upd_ne (ne_of_none eb hdx)]; exact eb
    · exact upd_same
    · rw [upd_ne ne]; exact upd_same
end
/-- the constants and the built-ins that this law needs besides -/
structure Bk (K : PySem.W.Frag) (mg : Str → Option Value) : Prop where
  any : mg "any" = none
  GM : ∃ t, mg "GREATEST_MOST" = some (.int (10 ^ 30) t)
  KS : ∃ p, mg "KINDS" = some (.ref p) ∧ ∀ H, SqT K H p [.str "carried", .str "stretch", .str "joined", .str "taken"]
  LK : ∃ p, mg "LATE_KINDS" = some (.ref p) ∧ ∀ H, SqT K H p [.str "joined", .str "taken"]
end K1
set_option Elab.async false
set_option linter.all false
set_option maxRecDepth 100000
/-! different deeds: a list of any values, or a tuple of good ones -/
namespace K1
open PySem L2
abbrev sCheckDiff : Stmt := top 18
theorem cut_to {xs : List V} {i : Nat} (h : i ≤ xs.length) : cutV xs none (some (i : Int)) = xs.take i := by
  unfold cutV
  rw [HT.sIx_none, HT.sIx_nat, Nat.min_eq_left h]
  simp
def okD (ds : List V) (j : Nat) : Bool := wordB (ds.getD j .non) && !(inV (ds.getD j .non) (ds.take j))
def firstBad (n : Nat) (ok : Nat → Bool) : Option Nat := (List.range n).find? fun j => !(ok j)
theorem first_some {n i : Nat} {ok : Nat → Bool} (hi : i < n) (h : ∀ j, j < i → ok j = true) (hb : ok i = false) : firstBad n ok = some i := by
  unfold firstBad
  rw [List.find?_range_eq_some]
  refine ⟨by rw [hb]; rfl, List.mem_range.mpr hi, fun j hj => by rw [h j hj]; rfl⟩
theorem first_none {n : Nat} {ok : Nat → Bool} (h : ∀ j, j < n → ok j = true) : firstBad n ok = none := by
  unfold firstBad
  rw [List.find?_eq_none]
  intro j hj
  rw [h j (List.mem_range.mp hj)]; decide
def badD (ds : List V) : Option Nat := match firstBad ds.length (okD ds) with
  | some k => some k
  | none => if ds.length = 0 then some 0 else none
theorem word_str {v : V} (h : wordB v = true) : ∃ z, v = .str z := by
  cases v with
  | str z => exact ⟨z, rfl⟩
  | _ => cases h
theorem flat_upto {ds : List V} {i : Nat} (hi : i ≤ ds.length) (h : ∀ j, j < i → okD ds j = true) : (ds.take i).all flatV = true := by
  rw [List.all_eq_true]
  intro v hv
  obtain ⟨j, hj, rfl⟩ := List.getElem_of_mem hv
  rw [List.length_take] at hj
  have h1 := (Bool.and_eq_true_iff.mp (h j (by omega))).1
  obtain ⟨z, hz⟩ := word_str h1
  have e : ds.getD j .non = ds[j]'(by omega) := by
    rw [List.getD_eq_getElem?_getD, List.getElem?_eq_getElem (by omega)]; rfl
  rw [List.getElem_take, ← e, hz]
  rfl
/-- the promise of a check: what bad says is raised, else nothing happens -/
def Chk (C : Addr) (H : Hp) (Q : VK) (E : XK) (bad : Option Nat) : Prop :=
  match bad with
  | some k => ∀ d G, Same H G → H d = none → G d = some (.xd [("index", .int (k : Int))]) → E (.ref C) (some d) G
  | none => ∀ G, Same H G → Q .non G
theorem inV_str {ws : List Str} {z : Str} (h : z ∉ ws) : inV (.str z) (ws.map V.str) = false := by
  unfold inV
  rw [List.any_map, List.any_eq_false]
  intro y hy
  show ¬ ((y == z) = true)
  intro e
  rw [beq_iff_eq] at e
  exact h (e ▸ hy)
theorem nodup_take {ws : List Str} {i : Nat} {z : Str} (nd : ws.Nodup) (e : ws[i]? = some z) : z ∉ ws.take i := by
  intro hm
  obtain ⟨j, hj, ej⟩ := List.getElem_of_mem hm
  rw [List.getElem_take] at ej
  have hji : j < i := by simp at hj; omega
  have hi : i < ws.length := (List.getElem?_eq_some_iff.mp e).1
  have ei : ws[i] = z := (List.getElem?_eq_some_iff.mp e).2
  exact List.pairwise_iff_getElem.mp nd j i (by omega) hi hji (ej.trans ei.symm)
theorem flat_strs (ws : List Str) : (ws.map V.str).all flatV = true := by simp [flatV]

theorem len_word {z : Str} (h : wordB (.str z) = true) : z.length ≤ 12 := by
  have h' : wordL z.cps.toList = true := h
  rw [len_tl]
  cases e : z.cps.toList with
  | nil => simp
  | cons c r =>
    rw [e] at h'
    unfold wordL at h'
    exact of_decide_eq_true (Bool.and_eq_true_iff.mp h').1
/-- words, all different -/
def GoodT (ws : List Str) : Prop := ws.Nodup ∧ (∀ z ∈ ws, z.length ≤ 1000) ∧ (∀ z ∈ ws, wordB (.str z) = true) ∧ ws.length ≤ 100
theorem wd_word {z : Str} (h : wordB (.str z) = true) : wordB (.str z) = true := h
def spDiffT (K : PySem.W.Frag) (C : Addr) : Sp := fun vs H Q E => ∃ a : Addr, vs = [.ref a] ∧
  ((∃ ds : List V, SqL K H a ds ∧ (∀ v ∈ ds, ∃ t, Th K H v t) ∧ ds.length ≤ 100 ∧ Chk C H Q E (firstBad ds.length (okD ds))) ∨
   (∃ ws : List Str, SqT K H a (ws.map V.str) ∧ GoodT ws ∧ ∀ H', Same H H' → Q .non H'))
/-- what an error with the fields fs, of the values vs, is raised as -/
def Rs (C : Addr) (fs : List Str) (vs : List V) (H : Hp) (E : XK) : Prop := ∀ d G, Same H G → H d = none → G d = some (.xd (fs.zip vs).reverse) → E (.ref C) (some d) G
theorem Rs.same {C : Addr} {fs : List Str} {vs : List V} {H H' : Hp} {E : XK} (r : Rs C fs vs H E) (s : Same H H') : Rs C fs vs H' E := fun d G sG hd e => r d G (s.trans sG) (s.free hd) e
section
variable {P : Program} {w : World} {K : PySem.W.Frag} {mg : Str → Option Value} {base : Heap}
theorem scDiff : FnScope ["deeds", "index", "deed"] ["deeds"] (defScope sCheckDiff) := ⟨rfl, rfl, rfl, by decide +kernel, rfl, by decide +kernel, by decide +kernel⟩
theorem g_diff {f fW C fI : Addr} {fd fdW fdI : FuncData} (D : Df K mg "check_different" sCheckDiff ["deeds"] f fd) (DW : Df K mg "is_word" sIsWord ["value"] fW fdW) (O : OBadDeeds K mg C fI fdI) (T : Bt2 mg) : FnOk P w K mg base (L2.CX P w) 3 f fd ["deeds"] (spDiffT K C) := by
  have GW : FnOk P w K mg base CX0 1 fW fdW ["value"] (spWord K) := g_isword DW T
  refine D.F.okX scDiff (fun vs H Q E h => ?_) (fun cdv A outer s H vs Q E hr h => ?_)
  · obtain ⟨a, rfl, _⟩ := h
    rfl
  · obtain ⟨a, rfl, h⟩ := h
    have hr1 : Room 1 _ := hr.mono (by decide)
    rcases h with ⟨ds, ha, hth, hle, k⟩ | ⟨ws, ha, gd, k⟩
    · refine ⟨_, pss_one (ps_for (passes_of rfl) rfl (pi_enum (by rfl) T.enumerate (pa_cons (pv 0) pa_nil)) (pg_tup (by rfl) (pgs_cons (pg_name (i := 1) scDiff.nd rfl (Or.inl rfl)) (pgs_cons (pg_name (i := 2) scDiff.nd rfl (Or.inl rfl)) pgs_nil)))
            (pss_one (ps_if (PW.pt (pw_or (pt_not (pt_val (pe_call GW hr1 rfl DW.g DW.F.kp DW.b .nil pass0 (pa_cons (pv 2) pa_nil)))) (pw_or1 (pt_cmpR op_in_seq (pv 2) (pe_slice sl_list (pv 0) po_none (po_some (pv 1))) (by rfl)))))
              (pss_one (ps_raise rfl (takes_of rfl rfl rfl rfl) (pmk_oex O.T O.ini O.tI (ini_BadDeeds O) hr O.b .nil pass0 rfl O.g (pa_cons (pv 1) pa_nil)))) pss_nil))), ?_⟩
      refine ⟨_, rfl, a, _, rfl, ha, for_it (walk_enum (K := K) (a := a) (xs := ds)) (fun i σ H' => Same H H' ∧ (∀ j, j < i → okD ds j = true) ∧ ∃ v1 v2, σ = [some (.ref a), v1, v2]) ⟨Same.refl H, fun j hj => absurd hj (Nat.not_lt_zero j), none, none, rfl⟩ (fun i σ H' _ p => p.1.seq ha) ?_ ?_⟩
      · rintro i x σ H1 H2 hi ⟨sm, ok, v1, v2, rfl⟩ ⟨t, x1, x2, rfl, ht, rfl, e1, e2⟩
        cases e1
        replace e2 : ds[i]? = some x2 := e2
        have hxm := List.mem_of_getElem? e2
        have hil : i < ds.length := (List.getElem?_eq_some_iff.mp e2).1
        have eg : ds.getD i .non = x2 := by rw [List.getD_eq_getElem?_getD, e2]; rfl
        obtain ⟨ty, th⟩ := hth x2 hxm
        have sm2 := sm.trans (same_upd (o := .tup [V.int (i : Nat), x2]) ht)
        have bad : okD ds i = false → ∀ {G : Hp}, Same H G → ∀ d G', Same G G' → G d = none → G' d = some (.xd [("index", .int (i : Int))]) → E (.ref C) (some d) G' := fun hb {G} sG d G' sG' hd e => by
          have eb : firstBad ds.length (okD ds) = some i := first_some hil ok hb
          rw [eb] at k
          exact k d G' (sG.trans sG') (sG.free hd) e
        refine ⟨t, _, rfl, SqT.of upd_same, rfl, _, _, rfl, _, _, rfl, rfl, ?_⟩
        refine ⟨_, rfl, x2, ty, rfl, th.same sm2, fun H3 sm3 => ⟨wordB x2, rfl, ?_⟩⟩
        have sm4 := sm2.trans sm3
        cases hw : wordB x2 with
        | false =>
          refine iteT ?_
          refine iteT ?_
          refine ⟨_, rfl, ?_⟩
          refine err_read (fs := ["index"]) (by decide) rfl fun d G sG hd e => bad (by unfold okD; rw [eg, hw]; rfl) sm4 d G sG hd e
        | true =>
          refine iteF ?_
          obtain ⟨z, rfl⟩ := word_str hw
          refine ⟨_, rfl, _, rfl, _, rfl, (i : Int), rfl, a, _, rfl, sm4.seq ha, fun q hq => ?_⟩
          rw [cut_to (by omega)]
          refine ⟨q, _, rfl, .inl (SqL.of upd_same), rfl, flat_upto (by omega) ok, inV (.str z) (ds.take i), rfl, ?_⟩
          have smq := sm4.trans (same_upd (o := .lst (ds.take i)) hq)
          cases hv : inV (.str z) (ds.take i) with
          | true =>
            refine iteT ?_
            refine ⟨_, rfl, ?_⟩
            refine err_read (fs := ["index"]) (by decide) rfl fun d G sG hd e => bad (by unfold okD; rw [eg, hw, hv]; rfl) smq d G sG hd e
          | false =>
            refine iteF ?_
            refine ⟨smq, fun j hj => ?_, _, _, rfl⟩
            by_cases e : j < i
            · exact ok j e
            · have : j = i := by omega
              subst this
              unfold okD
              rw [eg, hw, hv]; rfl
      · rintro σ H1 ⟨sm, ok, v1, v2, rfl⟩
        have en := first_none ok
        rw [en] at k
        exact k H1 sm
    · refine ⟨_, pss_one (ps_for (passes_of rfl) rfl (pi_enumT (by rfl) T.enumerate (pa_cons (pv 0) pa_nil)) (pg_tup (by rfl) (pgs_cons (pg_name (i := 1) scDiff.nd rfl (Or.inl rfl)) (pgs_cons (pg_name (i := 2) scDiff.nd rfl (Or.inl rfl)) pgs_nil)))
          (pss_one (ps_if (PW.pt (pw_or (pt_not (pt_val (pe_call GW hr1 rfl DW.g DW.F.kp DW.b .nil pass0 (pa_cons (pv 2) pa_nil)))) (pw_or1 (pt_cmpR op_in_seq (pv 2) (pe_slice sl_tupA (pv 0) po_none (po_some (pv 1))) (by rfl))))) pss_never pss_nil))), ?_⟩
      refine ⟨_, rfl, a, _, rfl, ha, for_it (walk_enumT (K := K) (a := a) (xs := ws.map V.str)) (fun i σ H' => Same H H' ∧ ∃ v1 v2, σ = [some (.ref a), v1, v2]) ⟨Same.refl H, none, none, rfl⟩ (fun i σ H' _ p => ha.ext p.1) ?_ ?_⟩
      · rintro i x σ H1 H2 hi ⟨sm, v1, v2, rfl⟩ ⟨t, x1, x2, rfl, ht, rfl, e1, e2⟩
        cases e1
        replace e2 : (ws.map V.str)[i]? = some x2 := e2
        rw [List.getElem?_map] at e2
        obtain ⟨z, hz, rfl⟩ := Option.map_eq_some_iff.mp e2
        have hzm := List.mem_of_getElem? hz
        have hil : i < ws.length := (List.getElem?_eq_some_iff.mp hz).1
        have sm2 := sm.trans (same_upd (o := .tup [V.int (i : Nat), V.str z]) ht)
        refine ⟨t, _, rfl, SqT.of upd_same, rfl, _, _, rfl, _, _, rfl, rfl, ?_⟩
        refine ⟨_, rfl, .str z, _, rfl, .str z (gd.2.1 z hzm), fun H3 sm3 => ⟨true, by rw [wd_word (gd.2.2.1 z hzm)], ?_⟩⟩
        refine iteF ?_
        have sm4 := sm2.trans sm3
        have eh : HT.sIx (ws.map V.str).length (ws.map V.str).length (some (i : Int)) = i := by rw [HT.sIx_nat, List.length_map]; omega
        refine ⟨_, rfl, _, rfl, _, rfl, (i : Int), rfl, a, _, rfl, ha.ext sm4, fun h => absurd h.2 (by rw [eh, List.length_map]; omega), fun _ q hq => ?_⟩
        rw [cut_to (by rw [List.length_map]; omega), ← List.map_take]
        refine ⟨q, _, rfl, .inr (SqT.of upd_same), rfl, flat_strs _, false, ?_, ?_⟩
        · show V.bl (if false = true then _ else inV (V.str z) ((ws.take i).map V.str)) = V.bl false
          rw [inV_str (nodup_take gd.1 hz)]
          rfl
        · refine iteF ?_
          exact ⟨sm4.trans (same_upd hq), _, _, rfl⟩
      · rintro σ H1 ⟨sm, v1, v2, rfl⟩
        exact k H1 sm
end
end K1
set_option Elab.async false
set_option linter.all false
set_option maxRecDepth 100000
/-! timings: made, and refused -/
namespace K1
open PySem L2
abbrev sTInit : Stmt := inClass (top 21) 0
abbrev sTEq : Stmt := inClass (top 21) 1
abbrev sTAll : Stmt := inClass (top 21) 2
abbrev sTKept : Stmt := inClass (top 21) 3
theorem Kept.self {x : Addr} {H : Hp} {o : HO} : Kept x H (L2.upd H x o) := fun b u e n => by rw [upd_ne n]; exact e
theorem f_mo : ¬ (("most" : Str) = "owed") := by decide +kernel
/-- the attributes -/
def tf (m : V) (o : Addr) : List (Str × V) := putF "owed" (.ref o) (putF "most" m [])
theorem tf_most (m : V) (o : Addr) : (tf m o).lookup ("most" : Str) = some m := by
  unfold tf
  rw [lookup_putF, if_neg f_mo, lookup_putF, if_pos rfl]
theorem tf_owed (m : V) (o : Addr) : (tf m o).lookup ("owed" : Str) = some (.ref o) := by
  unfold tf
  rw [lookup_putF, if_pos rfl]
theorem tf_no (m : V) (o : Addr) {x : Str} (h1 : ¬ x = "owed") (h2 : ¬ x = "most") : (tf m o).lookup x = none := by
  unfold tf
  rw [lookup_putF, if_neg h1, lookup_putF, if_neg h2]
  rfl
structure Tt (K : PySem.W.Frag) (mg : Str → Option Value) (C : Addr) : Prop where
  cl : Cls K C
  nM : NoAttr K C "most"
  nO : NoAttr K C "owed"
  mgC : mg "Timing" = some (.ref C)
/-- a timing as it lies -/
def TimAt (K : PySem.W.Frag) (C : Addr) (H : Hp) (x : Addr) (m : V) (ds : List V) : Prop := ∃ dx o, H x = some (.ins C dx (tf m o)) ∧ SqT K H o ds
theorem TimAt.same {K : PySem.W.Frag} {C : Addr} {H H' : Hp} {x : Addr} {m : V} {ds : List V} (h : TimAt K C H x m ds) (s : Same H H') : TimAt K C H' x m ds := by
  obtain ⟨dx, o, h1, h2⟩ := h
  exact ⟨dx, o, s _ _ h1, h2.ext s⟩
def numB : V → Bool
  | .non => true
  | .int i => decide (0 ≤ i) && decide (i ≤ 10 ^ 30)
  | _ => false
abbrev pTI : List Str := ["self", "most", "owed"]
theorem scTI : FnScope pTI pTI (defScope sTInit) := ⟨rfl, rfl, rfl, by decide +kernel, rfl, by decide +kernel, by decide +kernel⟩
/-- the promise of the making: CN BadNumber, CD BadDeeds -/
def spTI (K : PySem.W.Frag) (C CN CD : Addr) : Sp := fun vs H Q E => ∃ (x dx a : Addr) (m : V) (t : String), vs = [.ref x, m, .ref a] ∧ H x = some (.ins C dx []) ∧ Th K H m t ∧
  if numB m = true then
    (∃ ds : List V, SqL K H a ds ∧ (∀ v ∈ ds, ∃ t, Th K H v t) ∧ ds.length ≤ 100 ∧
      match firstBad ds.length (okD ds) with
      | some k => Rs CD ["index"] [.int (k : Int)] H E
      | none => ∀ G, Kept x H G → TimAt K C G x m ds → Q .non G) ∨
    (∃ ws : List Str, SqT K H a (ws.map V.str) ∧ GoodT ws ∧ ∀ G, Kept x H G → TimAt K C G x m (ws.map V.str) → Q .non G)
  else Rs CN ["number"] [m] H E
abbrev TI (K : PySem.W.Frag) (f : Addr) (fd : FuncData) (o : Addr) : Prop := FunD K "__init__" "Timing.__init__" (defArgs sTInit) (defBody sTInit) (defScope sTInit) [.non, .ref o] [] f fd
def rTu (K : PySem.W.Frag) : List V → Hp → VK → Prop := fun xs H Q => ∃ p ys, xs = [.ref p] ∧ ((SqL K H p ys ∧ ∀ l, H l = none → Q (.ref l) (upd H l (.tup ys))) ∨ (SqT K H p ys ∧ Q (.ref p) H))
theorem Kept.seqI {K : PySem.W.Frag} {x C dx : Addr} {fs : List (Str × V)} {H H' : Hp} {a : Addr} {xs : List V} (e : Kept x H H') (hx : H x = some (.ins C dx fs)) (h : SqL K H a xs) : SqL K H' a xs := by
  rcases h with (h | ⟨o, h⟩) | h
  · exact .inl (.inl (e _ _ h (ne_of h hx (by intro z; cases z))))
  · exact .inl (.inr ⟨o, e _ _ h (ne_of h hx (by intro z; cases z))⟩)
  · exact .inr h
theorem Kept.seqIT {K : PySem.W.Frag} {x C dx : Addr} {fs : List (Str × V)} {H H' : Hp} {a : Addr} {xs : List V} (e : Kept x H H') (hx : H x = some (.ins C dx fs)) (h : SqT K H a xs) : SqT K H' a xs := by
  rcases h with (h | ⟨o, h⟩) | h
  · exact .inl (.inl (e _ _ h (ne_of h hx (by intro z; cases z))))
  · exact .inl (.inr ⟨o, e _ _ h (ne_of h hx (by intro z; cases z))⟩)
  · exact .inr h
section
variable {P : Program} {w : World} {K : PySem.W.Frag} {mg : Str → Option Value} {base : Heap}
theorem g_tinit {C f fD fI CN fN CD o : Addr} {fd fdD fdI fdN : FuncData} (F : TI K f fd o) (M : Tt K mg C) (T : Bt2 mg) (B : Bk K mg) (DI : Df K mg "is_integer" sIsInt ["value"] fI fdI)
    (gD : mg "check_different" = some (.ref fD)) (kD : PySem.W.keepIn K (.ref fD) = true) (bD : Binds K fdD ["deeds"] []) (GD : FnOk P w K mg base (L2.CX P w) 3 fD fdD ["deeds"] (spDiffT K CD)) (ON : OBadNumber K mg CN fN fdN) :
    FnOk P w K mg base (L2.CX P w) 4 f fd pTI (spTI K C CN CD) := by
  have GI : FnOk P w K mg base CX0 1 fI fdI ["value"] (spInt K) := g_isint DI T
  refine F.ok scTI (fun vs H Q E h => ?_) (fun cdv A outer s H vs Q E hr h => ?_)
  · obtain ⟨x, dx, a, m, t, rfl, _⟩ := h
    rfl
  · obtain ⟨x, dx, a, m, t, rfl, hx, th, k⟩ := h
    have hr1 : Room 1 _ := hr.mono (by decide)
    have hr2 : Room 2 _ := hr.mono (by decide)
    obtain ⟨tG, gG⟩ := B.GM
    obtain ⟨t2, ht2, hq2⟩ : ∃ t2, PSs (cxOf (L2.CX P w) P w K mg base pTI "Timing.__init__" (defScope sTInit) f cdv A outer s H E) ((defBody sTInit).drop 1) t2 ∧ (numB m = true → t2 { nx := fun _ H' => Q .non H', rt := Q } (start pTI [.ref x, m, .ref a]) H) := by
      refine ⟨_, pss_cons (ps_expr (pe_callS GD hr rfl gD kD bD (fun σ => passAt (takes_of rfl rfl rfl rfl) σ) (pa_cons (pv 2) pa_nil)))
        (pss_cons (ps_fld (pv 0) (pv 1) rfl)
        (pss_one (ps_fld (pv 0) (pe_callTy (r := rTu K) call_tuple_of (by rfl) T.tuple PyProof.Rows.boot_tuple (pa_cons (pv 2) pa_nil)) rfl))), ?_⟩
      intro hB
      rw [if_pos hB] at k
      rcases k with ⟨ds, ha, hth, hle, k⟩ | ⟨ws, ha, gw, k⟩
      · refine ⟨_, rfl, a, rfl, .inl ⟨ds, ha, hth, hle, ?_⟩⟩
        unfold Chk
        cases hb : firstBad ds.length (okD ds) with
        | some j =>
          rw [hb] at k
          exact k
        | none =>
          rw [hb] at k
          intro G sG
          have hxG := sG _ _ hx
          refine ⟨_, rfl, _, rfl, x, C, dx, _, rfl, hxG, M.cl, M.nM, by simp, ?_⟩
          have kk : Kept x H (upd G x (.ins C dx (putF "most" m []))) := fun b u e n => by rw [upd_ne n]; exact sG _ _ e
          have haG : SqL K (upd G x (.ins C dx (putF "most" m []))) a ds := kk.seqI hx ha
          refine ⟨_, rfl, a, ds, rfl, .inl ⟨haG, fun q hq => ?_⟩⟩
          have nq : x ≠ q := ne_of_none upd_same hq
          refine ⟨_, rfl, x, C, dx, _, rfl, by rw [upd_ne nq]; exact upd_same, M.cl, M.nO, by simp [putF], ?_⟩
          refine k _ (fun b u e n => ?_) ⟨dx, q, upd_same, SqT.of (by rw [upd_ne nq.symm]; exact upd_same)⟩
          rw [upd_ne n, upd_ne (ne_of_none (kk _ _ e n) hq)]
          exact kk _ _ e n
      · refine ⟨_, rfl, a, rfl, .inr ⟨ws, ha, gw, fun G sG => ?_⟩⟩
        have hxG := sG _ _ hx
        refine ⟨_, rfl, _, rfl, x, C, dx, _, rfl, hxG, M.cl, M.nM, by simp, ?_⟩
        have kk : Kept x H (upd G x (.ins C dx (putF "most" m []))) := fun b u e n => by rw [upd_ne n]; exact sG _ _ e
        have haG : SqT K (upd G x (.ins C dx (putF "most" m []))) a (ws.map V.str) := kk.seqIT hx ha
        refine ⟨_, rfl, a, _, rfl, .inr ⟨haG, ?_⟩⟩
        refine ⟨_, rfl, x, C, dx, _, rfl, upd_same, M.cl, M.nO, by simp [putF], ?_⟩
        refine k _ (fun b u e n => by rw [upd_ne n]; exact kk _ _ e n) ⟨dx, a, upd_same, ?_⟩
        exact Kept.seqIT (Kept.self (o := .ins C dx (tf m a))) upd_same haG
    refine ⟨_, pss_cons (ps_if (PW.pt (pw_and (pt_cmpR op_notN (pv 1) pe_non (nomark _)) (pw_and1 (PW.pt (pw_or (pt_not (pt_val (pe_call GI hr1 rfl DI.g DI.F.kp DI.b .nil pass0 (pa_cons (pv 1) pa_nil))))
          (pw_or1 (pt_not (pt_chain op_le op_le pe_int (pv 1) (pe_glob (v := .int (10 ^ 30)) rfl gG ⟨_, rfl⟩)))))))))
        (pss_one (ps_raise rfl (takes_of rfl rfl rfl rfl) (pmk_oex ON.T ON.ini ON.tI (ini_BadNumber ON) hr2 ON.b .nil pass0 rfl ON.g (pa_cons (pv 1) pa_nil)))) pss_nil) ht2, ?_⟩
    have bad : numB m = false → Rs CN ["number"] [m] H E := fun e => by
      rw [if_neg (by rw [e]; simp)] at k
      exact k
    refine ⟨_, rfl, rfl, _, rfl, ?_⟩
    by_cases hm : m = .non
    · refine ite2 (fun h => ?_) (fun _ => hq2 (by rw [hm]; rfl))
      rw [hm] at h; simp at h
    refine ite2 (fun _ => ?_) (fun h => absurd (by simp [hm]) h)
    refine ⟨_, rfl, m, t, rfl, th, intB m, rfl, ?_⟩
    cases hi : intB m with
    | false =>
      refine iteT ?_
      refine iteT ?_
      refine ⟨_, rfl, ?_⟩
      exact err_read (fs := ["number"]) (by decide) rfl (bad (by cases m <;> first | rfl | (exact absurd rfl hm) | cases hi))
    | true =>
      obtain ⟨i, rfl⟩ : ∃ i, m = .int i := by
        cases m <;> first | exact ⟨_, rfl⟩ | cases hi
      refine iteF ?_
      refine ⟨_, rfl, _, _, rfl, rfl, _, rfl, ?_⟩
      refine ite2 (fun h0 => ?_) (fun h0 => ?_)
      · refine ⟨_, _, rfl, rfl, _, rfl, ?_⟩
        show if (!decide (i ≤ 10 ^ 30)) = true then _ else _
        refine ite2 (fun h1 => ?_) (fun h1 => hq2 ?_)
        · refine ⟨_, rfl, ?_⟩
          refine err_read (fs := ["number"]) (by decide) rfl (bad ?_)
          have h1' : decide (i ≤ 10 ^ 30) = false := by simpa using h1
          show (decide (0 ≤ i) && decide (i ≤ 10 ^ 30)) = false
          rw [h1', Bool.and_false]
        · have h1' : decide (i ≤ 10 ^ 30) = true := by simpa using h1
          show (decide (0 ≤ i) && decide (i ≤ 10 ^ 30)) = true
          rw [h0, h1']; rfl
      · refine ⟨_, rfl, ?_⟩
        refine iteT ?_
        refine ⟨_, rfl, ?_⟩
        refine err_read (fs := ["number"]) (by decide) rfl (bad ?_)
        have h0' : decide (0 ≤ i) = false := by simpa using h0
        show (decide (0 ≤ i) && decide (i ≤ 10 ^ 30)) = false
        rw [h0']; rfl
end
end K1
set_option Elab.async false
set_option linter.all false
set_option maxRecDepth 100000
namespace K1
open PySem L2
theorem eqv_strs : ∀ ws ws2 : List Str, PyData.eqvAll (ws.map PyData.str) (ws2.map PyData.str) = decide (ws = ws2)
  | [], [] => by simp [PyData.eqvAll]
  | [], _ :: _ => by simp [PyData.eqvAll]
  | _ :: _, [] => by simp [PyData.eqvAll]
  | a :: r, b :: q => by
    simp only [List.map_cons, PyData.eqvAll, eqv_strs r q, PyData.eqv]
    by_cases e : a = b
    · subst e; simp
    · simp [e]
theorem eqv_ints : ∀ ws ws2 : List Int, PyData.eqvAll (ws.map PyData.int) (ws2.map PyData.int) = decide (ws = ws2)
  | [], [] => by simp [PyData.eqvAll]
  | [], _ :: _ => by simp [PyData.eqvAll]
  | _ :: _, [] => by simp [PyData.eqvAll]
  | a :: r, b :: q => by
    simp only [List.map_cons, PyData.eqvAll, eqv_ints r q, PyData.eqv]
    by_cases e : a = b
    · subst e; simp
    · simp [e]
def OkS (ws : List Str) : Prop := ∀ z ∈ ws, PyData.strOk z = true
theorem TL_lt : ∀ c ∈ TL', c < 0x110000 := by decide +kernel
theorem ok_chars {z : Str} (h : ∀ c ∈ z.cps.toList, c ∈ TL') : PyData.strOk z = true := by
  unfold PyData.strOk
  rw [Array.all_eq_true']
  intro c hc
  exact decide_eq_true (TL_lt c (h c (by simpa using hc)))
theorem Wd.chars {z : Str} (h : Wd z) : ∀ c ∈ z.cps.toList, c ∈ AL := by
  obtain ⟨c, r, ez, hc, hr, _⟩ := h
  intro x hx
  rw [ez] at hx
  rcases List.mem_cons.mp hx with rfl | hx
  · exact LE_AL hc
  · exact hr x hx
theorem ok_wd {ws : List Str} (h : ∀ z ∈ ws, Wd z) : OkS ws := fun z hz => ok_chars fun c hc => List.mem_append_left _ ((h z hz).chars c hc)
theorem canLay_strs : ∀ ws : List Str, OkS ws → PyData.canLayAll0 (ws.map PyData.str) = true
  | [], _ => rfl
  | n :: r, h => by simp [PyData.canLayAll0, PyData.canLay0, canLay_strs r (fun z hz => h z (List.mem_cons_of_mem _ hz)), h n (List.mem_cons_self ..)]
theorem depth_ints : ∀ ns : List Int, PyData.depthAll (ns.map PyData.int) ≤ 1
  | [] => by decide
  | n :: r => by have := depth_ints r; simp only [List.map_cons, PyData.depthAll, PyData.depth]; omega
theorem depth_strs : ∀ ns : List Str, PyData.depthAll (ns.map PyData.str) ≤ 1
  | [] => by decide
  | n :: r => by have := depth_strs r; simp only [List.map_cons, PyData.depthAll, PyData.depth]; omega
theorem shaped_of {d : PyData} (h : d.canLay0 = true) (e : d.depth ≤ 64) : SeqAt.shaped d = true := by
  unfold SeqAt.shaped
  rw [h]
  simp [e]
theorem shaped_strs {ws : List Str} (h : OkS ws) : SeqAt.shaped (.tuple (ws.map PyData.str)) = true := shaped_of (by rw [PyData.canLay0, canLay_strs _ h]) (by rw [PyData.depth]; have := depth_strs ws; omega)
theorem dp_strs {K : PySem.W.Frag} {H : Hp} : ∀ ws : List Str, DpAll K H (ws.map V.str) (ws.map PyData.str)
  | [] => .nil
  | n :: r => .cons (.str n) (dp_strs r)

/-- None or a number, as data -/
def mD : V → PyData
  | .int i => .int i
  | _ => .none
def mOk (m : V) : Prop := m = .non ∨ ∃ i, m = .int i
theorem mOk.dp {K : PySem.W.Frag} {H : Hp} {m : V} (h : mOk m) : Dp K H m (mD m) := by
  rcases h with rfl | ⟨i, rfl⟩
  · exact .non
  · exact .int i
theorem mOk.sh {m : V} (h : mOk m) : SeqAt.shaped (mD m) = true := by
  rcases h with rfl | ⟨i, rfl⟩
  · exact shaped_of rfl (by decide)
  · exact shaped_of rfl (Nat.zero_le _)
theorem mOk.eqv {m n : V} (h : mOk m) (h' : mOk n) : PyData.eqv (mD m) (mD n) = decide (m = n) := by
  rcases h with rfl | ⟨i, rfl⟩ <;> rcases h' with rfl | ⟨j, rfl⟩ <;> simp [mD, PyData.eqv]
  by_cases e : i = j <;> simp [e]
end K1
set_option Elab.async false
set_option linter.all false
set_option maxRecDepth 100000
/-! an instance and a tuple: never equal -/
namespace EO
open PySem PySem.W PySem.Spec PyProof.Rows L2
open SeqAt
open AutoSeq1 (wpAny_loadPart')
section
variable {prog : Program} {w : World} {A : Around} {E : Value → Shared → Prop} {s : Shared} {K : Frag} {x C : Addr} {ox : Obj} {od : Option Obj}
theorem tuple_declines_ins {l : Addr} {items : Array Value} {R : Result → Shared → Prop} (hl : s.heap.IsTuple l items) (X : K.In s.heap) (I : InstAt s.heap x ox C od) (hm : mroIn K C (.type "tuple") = some false) (h : R (.ok (.ret .notImplemented)) s) :
    wpAny (model prog w) A.in1 (Builtin.«tuple.__eq__» ⟨[.ref l, .ref x], []⟩) (fun fin s' => match fin with | .done f => R (.ok f) s' | .again c' => c'.quiet = true ∧ codeAny (model prog w) A c' R s') (fun e s' => R (.error e) s') s := by
  have hx := I.at_
  have hcl := I.cls
  obtain ⟨⟨cls, dd, data, sl⟩, ho, hc, n, hd⟩ := id hl
  simp only at hc hd
  subst hc hd
  obtain ⟨cls2, dd2, data2, sl2⟩ := ox
  simp only at hcl
  subst hcl
  obtain ⟨hp, g, d, tk, os⟩ := s
  wp_walk using wpAny_loadPart' ho, wpAny_loadPart' hx
  refine (looks_mroIn X hm).here ?_
  simp only [Bool.not_false, if_true]
  wp_walk
  exact h
theorem mro_tuple : fastBuiltinMro "tuple" = some [.type "tuple", .type "object"] := by decide +kernel
end
end EO
namespace L2
open PySem PySem.Spec PyProof.Rows
/-- an instance compared with a tuple: its own == says NotImplemented, the tuple's too; so False -/
def rNIT (C : Addr) (pre : List V → Hp → Prop) : R2 := fun x y H Q => ∃ a dx fs l xs, x = .ref a ∧ H a = some (.ins C dx fs) ∧ pre [x, y] H ∧ y = .ref l ∧ H l = some (.tup xs) ∧ ∀ H', Same H H' → Q (.bl false) H'
theorem op_eqNIT {X : Cx} {n : Nat} {C f : Addr} {fd : FuncData} {ps : List Str} {pre : List V → Hp → Prop} (O : OwnE X.K C f) (ml : PySem.W.mroIn X.K C (.type "tuple") = some false)
    (G : FnNI X.prog X.w X.K X.mg X.base n f fd ps pre) (hr : Room n X.A) (hb : Binds X.K fd ps []) : OpR X (compareOp .Eq) (rNIT C pre) := by
  intro pins s σ H x y u v Q I rx ry h
  obtain ⟨a, dx, fs, l, xs, rfl, ha, hp, rfl, hl', hQ⟩ := h
  cases rx
  cases ry
  obtain ⟨mA, J, _⟩ := ins_get I.hok ha
  obtain ⟨od, J, _⟩ := J.look
  show wpAny (model X.prog X.w) X.A (richCompare .Eq (.ref a) (.ref l)) (EP X pins σ Q) X.xe s
  have hl := G.len _ _ hp
  have at' : ∀ s' H', Inv X pins σ H' s' → Same H H' → ∃ od, PySem.W.InstAt s'.heap a (PySem.W.instObj C dx) C (some od) := fun s' H' I' sm => by
    obtain ⟨mA, J, _⟩ := ins_get I'.hok (sm _ _ ha)
    obtain ⟨od, J, _⟩ := J.look
    exact ⟨od, J⟩
  obtain ⟨_, its, k, ⟨c0, dd0, dt0, sl0⟩, hg, hcl, n0, hdt⟩ := I.hok l _ hl'
  simp only at hcl hdt
  subst hcl hdt
  refine EO.cmp_dec_K (tb := .type "tuple") hr.units0 I.kIn J ((PySem.W.Looks.ld (part := none) hg).andThen .now) (EO.nf EO.mro_tuple (by simp)) O.eq O.fn ?_
  refine wpAny_call (codeAny_mono (G.run X.A X.stack s H ⟨[.ref a, .ref l], []⟩ [.ref a, .ref l] [.ref a, .ref l] hr I.env0 (by
    have := hb s [.ref a, .ref l] I.kIn (by rw [List.append_nil, ← hl]; rfl)
    simpa using this) (.cons rfl (.cons rfl .nil)) hp) fun r s' hq => ?_)
  obtain ⟨rfl, hq⟩ := hq
  obtain ⟨z, H', I', rz, ez, sm⟩ := I.after hq
  refine ⟨rfl, ?_⟩
  obtain ⟨od', J'⟩ := at' s' H' I' sm
  obtain ⟨_, its', k', ⟨c1, dd1, dt1, sl1⟩, e', hcl1, n1, hdt1⟩ := I'.hok l _ (sm _ _ hl')
  simp only at hcl1 hdt1
  subst hcl1 hdt1
  have nal : a ≠ l := ne_of ha hl' (by intro z; cases z)
  refine wpAny_mono (Q := fun r s2 => r = none ∧ wpAny (model X.prog X.w) X.A (isSame (.ref a) (.ref l)) (fun k s3 => k = false ∧ Inv X pins σ H' s3) X.xe s2) (wpAny_tryCompare_declines ⟨_, e', rfl⟩ F.slot_tuple_eq (GQ.call_here F.slot_tuple_eq ⟨_, e', rfl⟩ F.entry_tuple_eq (F.args_tuple_eq_2 _ _) ?_)) (fun r s2 q => ⟨q.1, wpAny_mono q.2 (fun k s3 q => ?_) fun _ _ e => e⟩) fun _ _ e => e
  · exact EO.tuple_declines_ins (R := wants _ _) ⟨_, e', rfl, _, rfl⟩ I'.kIn J' ml ⟨rfl, rfl, wpAny_isSame_ref_other nal J'.at_ e' (by show Value.ref C ≠ Value.type "tuple"; simp) ⟨rfl, I'⟩⟩
  · obtain ⟨rfl, I3⟩ := q
    exact ⟨.bl false, H', I3, rfl, hQ H' sm⟩
end L2
set_option Elab.async false
set_option linter.all false
set_option maxRecDepth 100000
/-! timings: compared; which rows they allow -/
namespace K1
open PySem L2
abbrev pEq : List Str := ["self", "other"]
/-- what of a class isinstance asks -/
structure Ti (K : PySem.W.Frag) (C : Addr) : Prop where
  ca : PySem.W.findIn K (.ref C) "__class__" = some (some (.builtin "object.__class__"))
  cs : PySem.W.specialIn K (.builtin "object.__class__") "__get__" = some (some (.builtin "getset_descriptor.__get__"))
  ct : PySem.W.takesIn K (.builtin "object.__class__") = some true
  cm : PySem.W.mroIn K C (.type "object") = some true
  ci : PySem.W.isClsIn K C = true
  ty : PySem.W.typeIn K (.ref C) = some (.type "type")
theorem kit_no {K : PySem.W.Frag} {C : Addr} (I : Ti K C) {T : String} {l : List Value} (h : fastBuiltinMro T = some l) (hc : l.contains (.ref C) = false) : PySem.W.kitOne K (.type T) (.ref C) = some false := by
  have h1 : (PySem.W.clsIn K C).isSome = true := I.ci
  unfold PySem.W.kitOne PySem.W.kitCls PySem.W.subIn
  simp only [h1, I.ty, h, Option.map_some, hc]
  simp
def spTEq (K : PySem.W.Frag) (C : Addr) : Sp := fun vs H Q _ => ∃ (x y : Addr) (m m2 : V) (ws ws2 : List Str), vs = [.ref x, .ref y] ∧ TimAt K C H x m (ws.map V.str) ∧ TimAt K C H y m2 (ws2.map V.str) ∧ mOk m ∧ mOk m2 ∧ OkS ws ∧ OkS ws2 ∧ Q (.bl (decide (m = m2 ∧ ws = ws2))) H
def preNI (C : Addr) : List V → Hp → Prop := fun vs H => ∃ (x dx : Addr) (fs : List (Str × V)) (l : Addr) (xs : List V), vs = [.ref x, .ref l] ∧ H x = some (.ins C dx fs) ∧ H l = some (.tup xs)
/-- whether a row may be a stretch -/
def mB (m : V) (n : Nat) : Bool := match m with | .int i => decide ((n : Int) ≤ i) | _ => true
def allB (m : V) (ws row : List Str) : Bool := mB m row.length && !(row.dropLast.any fun d => decide (d ∈ ws))
def spAll (K : PySem.W.Frag) (C : Addr) : Sp := fun vs H Q _ => ∃ (x r : Addr) (m : V) (ws row : List Str), vs = [.ref x, .ref r] ∧ TimAt K C H x m (ws.map V.str) ∧ mOk m ∧ SqT K H r (row.map V.str) ∧ row.length ≤ 100 ∧ ∀ H', Same H H' → Q (.bl (allB m ws row)) H'
theorem cut_last (xs : List V) : cutV xs none (some (-1)) = xs.dropLast := by
  unfold cutV
  rw [HT.sIx_none]
  have e : HT.sIx xs.length xs.length (some (-1)) = xs.length - 1 := by
    show (if (-1 : Int) < 0 then (-1 + (xs.length : Int)).toNat else min (-1 : Int).toNat xs.length) = _
    rw [if_pos (by decide)]
    omega
  rw [e, List.drop_zero, List.dropLast_eq_take]
  rfl
theorem slA_ok {K : PySem.W.Frag} {H : Hp} {r : Addr} {xs : List V} {lo hi : Option Int} {Q : VK} (h : SqT K H r xs) (go : ∀ p G, Same H G → SqT K G p (cutV xs lo hi) → Q (.ref p) G) :
    (HT.sIx xs.length 0 lo = 0 ∧ HT.sIx xs.length xs.length hi = xs.length → Q (.ref r) H) ∧ (¬ (HT.sIx xs.length 0 lo = 0 ∧ HT.sIx xs.length xs.length hi = xs.length) → ∀ p, H p = none → Q (.ref p) (upd H p (.tup (cutV xs lo hi)))) := by
  refine ⟨fun c => go r H (Same.refl H) ?_, fun _ p hp => go p _ (same_upd hp) (SqT.of upd_same)⟩
  have e : cutV xs lo hi = xs := by
    unfold cutV
    rw [c.1, c.2, List.drop_zero, Nat.sub_zero, List.take_length]
  rw [e]; exact h
/-- a slice of a tuple: the tuple itself, or a new one -/
def rSlU (K : PySem.W.Frag) : V → Option Int → Option Int → Hp → VK → Prop := fun x lo hi H Q => ∃ a xs, x = .ref a ∧ SqT K H a xs ∧ ∀ p G, Same H G → SqT K G p (cutV xs lo hi) → Q (.ref p) G
theorem sl_tupU {X : Cx} : SlR X (rSlU X.K) := by
  intro pins s σ H x v vl vu lo hi sl Q I rx hs pl pu h
  obtain ⟨a, xs, e, hq, go⟩ := h
  exact sl_tupA pins s σ H x v vl vu lo hi sl Q I rx hs pl pu ⟨a, xs, e, hq, slA_ok (Q := Q) hq go⟩
theorem inV_strs (z : Str) (ws : List Str) : inV (.str z) (ws.map V.str) = decide (z ∈ ws) := by
  by_cases h : z ∈ ws
  · rw [decide_eq_true h]
    unfold inV
    rw [List.any_eq_true]
    exact ⟨.str z, List.mem_map_of_mem h, by show (z == z) = true; simp⟩
  · rw [decide_eq_false h]; exact inV_str h
section
variable {P : Program} {w : World} {K : PySem.W.Frag} {mg : Str → Option Value} {base : Heap}
theorem scTEq : FnScope pEq pEq (defScope sTEq) := ⟨rfl, rfl, rfl, by decide +kernel, rfl, by decide +kernel, by decide +kernel⟩
theorem ok_teq {C f : Addr} {fd : FuncData} (F : Fun K "__eq__" "Timing.__eq__" sTEq f fd) (M : Tt K mg C) (I : Ti K C) (T : Bt2 mg) : FnOk P w K mg base CX0 1 f fd pEq (spTEq K C) := by
  refine F.ok scTEq (fun vs H Q E h => ?_) (fun cdv A outer s H vs Q E hr h => ?_)
  · obtain ⟨x, y, m, m2, ws, ws2, rfl, _⟩ := h
    rfl
  · obtain ⟨x, y, m, m2, ws, ws2, rfl, ⟨dx, o, hx, ho⟩, ⟨dy, o2, hy, ho2⟩, om, om2, ow, ow2, k⟩ := h
    refine ⟨_, pss_cons (ps_if (pt_not (pt_val (pe_callB call_isi (by rfl) T.isinstance PyProof.Rows.boot_isinstance (pa_cons (pv 1) (pa_cons (pe_glob (v := .ref C) rfl M.mgC rfl) pa_nil))))) pss_never pss_nil)
      (pss_one (ps_ret (pe_and (pe_cmpR (op_eqD hr.units) (pe_fld (pv 0) rfl) (pe_fld (pv 1) rfl) (nomark _)) (pe_one (pe_cmpR (op_eqD hr.units) (pe_fld (pv 0) rfl) (pe_fld (pv 1) rfl) (nomark _)))))), ?_⟩
    refine ⟨_, rfl, _, _, .ref C, .ref C, true, rfl, .own C, .base (.ins hy M.cl I.ca I.cs I.ct I.cm), by simp [PySem.W.kitOne], true, rfl, ?_⟩
    refine iteF ?_
    refine ⟨_, rfl, x, C, dx, _, _, rfl, hx, M.cl, M.nM, tf_most _ _, _, rfl, y, C, dy, _, _, rfl, hy, M.cl, M.nM, tf_most _ _, _, _, om.dp, om2.dp, om.sh, om2.sh, _, rfl, ?_⟩
    rw [om.eqv om2]
    refine ite2 (fun h => ?_) (fun h => ?_)
    · have e1 : m = m2 := of_decide_eq_true h
      refine ⟨_, rfl, x, C, dx, _, _, rfl, hx, M.cl, M.nO, tf_owed _ _, _, rfl, y, C, dy, _, _, rfl, hy, M.cl, M.nO, tf_owed _ _, _, _, .tup ho (dp_strs ws), .tup ho2 (dp_strs ws2), shaped_strs ow, shaped_strs ow2, ?_⟩
      rw [PyData.eqv, eqv_strs]
      have : decide (m = m2 ∧ ws = ws2) = decide (ws = ws2) := by simp [e1]
      rw [this] at k
      exact k
    · have hne : ¬ m = m2 := fun e => h (decide_eq_true e)
      have : decide (m = m2 ∧ ws = ws2) = false := decide_eq_false fun e => hne e.1
      rw [this] at k
      exact k
theorem ok_tni {C f : Addr} {fd : FuncData} (F : Fun K "__eq__" "Timing.__eq__" sTEq f fd) (M : Tt K mg C) (I : Ti K C) (T : Bt2 mg) (hn : mg "NotImplemented" = none) : FnNI P w K mg base 1 f fd pEq (preNI C) := by
  obtain ⟨oc, od, kV, doc, pm, an, cdv, ct, osl, rfl, lk, hcd⟩ := F.ex
  refine fn_NI (N := pEq) lk hcd scTEq (fun vs H h => ?_) rfl rfl hn (by decide +kernel) (fun A outer s H vs hr h => ?_)
  · obtain ⟨x, dx, fs, l, xs, rfl, _⟩ := h
    rfl
  · obtain ⟨x, dx, fs, l, xs, rfl, hx, hl⟩ := h
    refine ⟨_, pt_not (pt_val (pe_callB call_isi (by rfl) T.isinstance PyProof.Rows.boot_isinstance (pa_cons (pv 1) (pa_cons (pe_glob (v := .ref C) rfl M.mgC rfl) pa_nil)))), ?_⟩
    exact ⟨_, rfl, _, _, .type "tuple", .ref C, false, rfl, .own C, .base (.tup hl), kit_no I EO.mro_tuple (by simp), false, rfl, rfl, Same.refl H⟩
abbrev nAll : List Str := ["self", "row", "deed"]
theorem scAll : FnScope nAll ["self", "row"] (defScope sTAll) := ⟨rfl, rfl, rfl, by decide +kernel, rfl, by decide +kernel, by decide +kernel⟩
theorem ok_all {C f : Addr} {fd : FuncData} (F : Fun K "allows" "Timing.allows" sTAll f fd) (M : Tt K mg C) (T : Bt2 mg) (B : Bk K mg) : FnOk P w K mg base CX0 1 f fd ["self", "row"] (spAll K C) := by
  refine F.ok scAll (fun vs H Q E h => ?_) (fun cdv A outer s H vs Q E hr h => ?_)
  · obtain ⟨x, r, m, ws, row, rfl, _⟩ := h
    rfl
  · obtain ⟨x, r, m, ws, row, rfl, ⟨dx, o, hx, ho⟩, om, hrow, hl, k⟩ := h
    obtain ⟨t2, ht2, hq2⟩ : ∃ t2, PSs (cxOf CX0 P w K mg base nAll "Timing.allows" (defScope sTAll) f cdv A outer s H E).nox ((defBody sTAll).drop 1) t2 ∧ (mB m row.length = true → t2 { nx := fun _ H' => Q .non H', rt := Q } (start nAll [.ref x, .ref r]) H) := by
      refine ⟨_, pss_one (ps_ret (pe_not (pe_callB (cr_any rfl) (by rfl) B.any PyProof.Rows.boot_any (pa_cons (pe_lc (own := [("deed", 2)]) (g := gName 2) (by rfl) scAll.nd
          (pi_tup (pe_slice sl_tupU (pv 1) po_none (po_some (pe_un un_neg pe_int))))
          (blkOk_by (own := [("deed", 2)]) (N := nAll) (sc := defScope sTAll) (by decide +kernel)) (fun _ _ _ _ _ => pg_name (i := 2) scAll.nd rfl (Or.inl rfl)) (fun _ _ _ _ _ => pts_nil)
          (fun _ _ _ _ _ => pe_cmpR (r := rIn K false) (tb := tFld K (tVar 0) "owed") op_in_seq (pv 2) (pe_fld (pv 0) rfl) (by rfl))) pa_nil)))), ?_⟩
      intro hB
      have eAll : allB m ws row = !(row.dropLast.any fun d => decide (d ∈ ws)) := by
        unfold allB
        rw [hB, Bool.true_and]
      refine ⟨_, rfl, 1, rfl, _, rfl, r, _, rfl, hrow, fun p G sG hp => ?_⟩
      rw [cut_last, ← List.map_dropLast] at hp
      have hl2 : row.dropLast.length ≤ 100 := by rw [List.length_dropLast]; omega
      generalize row.dropLast = rd at hp eAll hl2
      refine ⟨p, rfl, ⟨_, hp⟩, fun D1 hD1 => ?_⟩
      refine lc_tup (K := K) (a := p) (xs := rd.map V.str) (fun i H' => Same G H' ∧ H' D1 = some (.lst (((rd.take i).map fun d => decide (d ∈ ws)).map V.bl))) ?_ ?_ ?_ ?_
      · exact ⟨same_upd hD1, by rw [upd_same]; rfl⟩
      · exact fun i H' _ q => hp.ext q.1
      · rintro i y H1 hi ⟨sm, hD⟩
        rw [List.getElem?_map] at hi
        obtain ⟨d, ed, rfl⟩ := Option.map_eq_some_iff.mp hi
        have hx1 := sm _ _ (sG _ _ hx)
        refine ⟨rfl, _, rfl, _, rfl, x, C, dx, _, _, rfl, hx1, M.cl, M.nO, tf_owed _ _, o, _, rfl, .inr ((ho.ext sG).ext sm), rfl, flat_strs _, _, hD, ?_, ?_, ?_⟩
        · have : i < rd.length := (List.getElem?_eq_some_iff.mp ed).1
          rw [List.length_map, List.length_map, List.length_take]
          exact small1000 (by omega)
        · exact fun b u e => by rw [upd_ne (ne_of_none e hD1)]; exact sm b u e
        · rw [upd_same, List.take_add_one, ed]
          simp [inV_strs]
      · rintro H1 ⟨sm, hD⟩
        rw [List.length_map, List.take_length] at hD
        refine ⟨D1, _, rfl, SqL.of hD, ?_⟩
        refine ⟨_, rfl, ?_⟩
        have := k H1 (sG.trans sm)
        rw [eAll] at this
        simpa using this
    refine ⟨_, pss_cons (ps_if (PW.pt (pw_and (pt_cmpR op_notN (pe_fld (pv 0) rfl) pe_non (nomark _)) (pw_and1 (pt_cmpR op_gt (pe_callB call_len (by rfl) T.len PySem.boot_len (pa_cons (pv 1) pa_nil)) (pe_fld (pv 0) rfl) (nomark _)))))
        (pss_one (ps_ret pe_bl)) pss_nil) ht2, ?_⟩
    refine ⟨_, rfl, x, C, dx, _, _, rfl, hx, M.cl, M.nM, tf_most _ _, rfl, _, rfl, ?_⟩
    rcases om with rfl | ⟨i, rfl⟩
    · refine iteF ?_
      exact hq2 rfl
    · refine iteT ?_
      refine ⟨_, rfl, _, row.length, rfl, .inr ⟨_, hrow, (List.length_map _).symm⟩, _, rfl, x, C, dx, _, _, rfl, hx, M.cl, M.nM, tf_most _ _, _, _, rfl, rfl, _, rfl, ?_⟩
      refine ite2 (fun h => ?_) (fun h => hq2 ?_)
      · have h' : i < (row.length : Int) := of_decide_eq_true h
        have e : allB (.int i) ws row = false := by
          unfold allB mB
          simp
          intro z; omega
        rw [e] at k
        exact k H (Same.refl H)
      · have h' : ¬ i < (row.length : Int) := fun z => h (decide_eq_true z)
        exact decide_eq_true (by omega)
end
end K1
set_option Elab.async false
set_option linter.all false
set_option maxRecDepth 100000
/-! which histories keep a timing; histories made -/
namespace K1
open PySem L2
abbrev sHInit : Stmt := inClass (top 24) 0
def hf (o : Addr) : List (Str × V) := putF "stretches" (.ref o) []
theorem hf_st (o : Addr) : (hf o).lookup ("stretches" : Str) = some (.ref o) := by
  unfold hf
  rw [lookup_putF, if_pos rfl]
structure Th2 (K : PySem.W.Frag) (mg : Str → Option Value) (C : Addr) : Prop where
  cl : Cls K C
  nS : NoAttr K C "stretches"
  mgC : mg "History" = some (.ref C)
def RowsS (K : PySem.W.Frag) (H : Hp) (as : List Addr) (rows : List (List Str)) : Prop := as.length = rows.length ∧ ∀ (i : Nat) (a : Addr) (r : List Str), as[i]? = some a → rows[i]? = some r → SqT K H a (r.map V.str)
theorem RowsS.same {K : PySem.W.Frag} {H H' : Hp} {as : List Addr} {rows : List (List Str)} (h : RowsS K H as rows) (s : Same H H') : RowsS K H' as rows := ⟨h.1, fun i a r e1 e2 => (h.2 i a r e1 e2).ext s⟩
theorem RowsS.drop {K : PySem.W.Frag} {H : Hp} {as : List Addr} {rows : List (List Str)} (h : RowsS K H as rows) (n : Nat) : RowsS K H (as.drop n) (rows.drop n) := ⟨by simp [h.1], fun i a r e1 e2 => h.2 (n + i) a r (by rw [List.getElem?_drop] at e1; exact e1) (by rw [List.getElem?_drop] at e2; exact e2)⟩
def HistAt (K : PySem.W.Frag) (C : Addr) (H : Hp) (x : Addr) (rows : List (List Str)) : Prop := ∃ dx o as, H x = some (.ins C dx (hf o)) ∧ SqT K H o (as.map V.ref) ∧ RowsS K H as rows
theorem HistAt.same {K : PySem.W.Frag} {C : Addr} {H H' : Hp} {x : Addr} {rows : List (List Str)} (h : HistAt K C H x rows) (s : Same H H') : HistAt K C H' x rows := by
  obtain ⟨dx, o, as, h1, h2, h3⟩ := h
  exact ⟨dx, o, as, s _ _ h1, h2.ext s, h3.same s⟩
def kinds : List Str := ["carried", "stretch", "joined", "taken"]
def lateB (z : Str) : Bool := decide (z = "joined") || decide (z = "taken")
def keptB (m : V) (ws : List Str) (rows : List (List Str)) (z : Str) : Bool := (if lateB z = true then rows.drop 1 else rows).all fun r => allB m ws r
def spKept (K : PySem.W.Frag) (C C2 CK : Addr) : Sp := fun vs H Q E => ∃ (x h : Addr) (kd m : V) (ws : List Str) (rows : List (List Str)), vs = [.ref x, .ref h, kd] ∧ TimAt K C H x m (ws.map V.str) ∧ mOk m ∧ HistAt K C2 H h rows ∧ rows.length ≤ 100 ∧ (∀ r ∈ rows, r.length ≤ 100) ∧
  ((∃ z, kd = .str z ∧ z ∈ kinds ∧ ∀ H', Same H H' → Q (.bl (keptB m ws rows z)) H') ∨ (∃ d, Dp K H kd d ∧ SeqAt.shaped d = true ∧ (∀ z ∈ kinds, PyData.eqv (.str z) d = false) ∧ Rs CK ["kind"] [kd] H E))
theorem cut_1 (xs : List V) : cutV xs (some 1) none = xs.drop 1 := by
  unfold cutV
  have e : HT.sIx xs.length 0 (some 1) = min 1 xs.length := HT.sIx_nat xs.length 0 1
  rw [e, HT.sIx_none]
  have : (xs.drop (min 1 xs.length)).length = xs.length - min 1 xs.length := by simp
  rw [← this, List.take_length]
  cases xs <;> simp
theorem eqv_str (a b : Str) : PyData.eqv (.str a) (.str b) = decide (a = b) := by
  simp [PyData.eqv]
  by_cases e : a = b <;> simp [e]
theorem kinds_sh : SeqAt.shaped (.tuple (kinds.map PyData.str)) = true := shaped_strs (fun z hz => (by decide +kernel : ∀ z ∈ kinds, PyData.strOk z = true) z hz)
theorem late_sh : SeqAt.shaped (.tuple ((["joined", "taken"] : List Str).map PyData.str)) = true := shaped_strs (fun z hz => (by decide +kernel : ∀ z ∈ (["joined", "taken"] : List Str), PyData.strOk z = true) z hz)
theorem kind_sh {z : Str} (h : z ∈ kinds) : SeqAt.shaped (.str z) = true := by
  have : ∀ z ∈ kinds, SeqAt.shaped (.str z) = true := by decide +kernel
  exact this z h
theorem room65 {k : Nat} {A : Around} (r : Room k A) : A.units + 65 < cLine := by have := r.un; omega
section
variable {P : Program} {w : World} {K : PySem.W.Frag} {mg : Str → Option Value} {base : Heap}
abbrev nKept : List Str := ["self", "history", "kind", "bound", "stretch"]
theorem scKept : FnScope nKept ["self", "history", "kind"] (defScope sTKept) := ⟨rfl, rfl, rfl, by decide +kernel, rfl, by decide +kernel, by decide +kernel⟩
theorem g_kept {C C2 CK f fA fK : Addr} {fd fdA fdK : FuncData} (F : Fun K "kept" "Timing.kept" sTKept f fd) (M : Tt K mg C) (M2 : Th2 K mg C2) (T : Bt2 mg) (B : Bk K mg) (MA : Meth K C "allows" fA) (GA : FnOk P w K mg base CX0 1 fA fdA ["self", "row"] (spAll K C)) (bA : Binds K fdA ["self", "row"] [])
    (OK : OBadKind K mg CK fK fdK) : FnOk P w K mg base (L2.CX P w) 3 f fd ["self", "history", "kind"] (spKept K C C2 CK) := by
  refine F.okX scKept (fun vs H Q E h => ?_) (fun cdv A outer s H vs Q E hr h => ?_)
  · obtain ⟨x, h, kd, m, ws, rows, rfl, _⟩ := h
    rfl
  · obtain ⟨x, h', kd, m, ws, rows, rfl, ht, om, hh, hl, hrl, k⟩ := h
    have hr1 : Room 1 _ := hr.mono (by decide)
    obtain ⟨pK, gK, qK⟩ := B.KS
    obtain ⟨pL, gL, qL⟩ := B.LK
    obtain ⟨dx, o, hx, ho⟩ := id ht
    obtain ⟨t2, ht2, hq2⟩ : ∃ t2, PSs (cxOf (L2.CX P w) P w K mg base nKept "Timing.kept" (defScope sTKept) f cdv A outer s H E) ((defBody sTKept).drop 2) t2 ∧ ∀ (p : Addr) (G : Hp) (as : List Addr) (rs : List (List Str)), Same H G → SqT K G p (as.map V.ref) → RowsS K G as rs → rs.length ≤ 100 → (∀ r ∈ rs, r.length ≤ 100) →
        (∀ G', Same H G' → Q (.bl (rs.all fun r => allB m ws r)) G') → t2 { nx := fun _ H' => Q .non H', rt := Q } [some (.ref x), some (.ref h'), some kd, some (.ref p), none] G := by
      refine ⟨_, pss_one (ps_ret (pe_callB (cr_all rfl) (by rfl) T.all PyProof.Rows.boot_all (pa_cons (pe_lc (own := [("stretch", 4)]) (g := gName 4) (by rfl) scKept.nd (pi_tup (pv 3))
          (blkOk_by (own := [("stretch", 4)]) (N := nKept) (sc := defScope sTKept) (by decide +kernel)) (fun _ _ _ _ _ => pg_name (i := 4) scKept.nd rfl (Or.inl rfl)) (fun _ _ _ _ _ => pts_nil)
          (fun _ _ _ _ _ => pe_meth (pv 0) M.cl MA GA hr1 bA .nil pass0 (pa_cons (pv 4) pa_nil))) pa_nil))), ?_⟩
      intro p G as rs sG hp hR hl hrl k
      refine ⟨_, rfl, p, rfl, ⟨_, hp⟩, fun D1 hD1 => ?_⟩
      refine lc_tup (K := K) (a := p) (xs := as.map V.ref) (fun i H' => Same G H' ∧ H' D1 = some (.lst (((rs.take i).map fun r => allB m ws r).map V.bl))) ?_ ?_ ?_ ?_
      · exact ⟨same_upd hD1, by rw [upd_same]; rfl⟩
      · exact fun i H' _ q => hp.ext q.1
      · rintro i y H1 hi ⟨sm, hD⟩
        rw [List.getElem?_map] at hi
        obtain ⟨a, ea, rfl⟩ := Option.map_eq_some_iff.mp hi
        have hil : i < rs.length := by rw [← hR.1]; exact (List.getElem?_eq_some_iff.mp ea).1
        have er : rs[i]? = some rs[i] := List.getElem?_eq_getElem hil
        have hrow := (hR.2 i a _ ea er).ext sm
        have ht1 : TimAt K C H1 x m (ws.map V.str) := (TimAt.same ⟨dx, o, hx, ho⟩ sG).same sm
        refine ⟨rfl, _, rfl, x, dx, _, rfl, sm _ _ (sG _ _ hx), tf_no _ _ (by decide) (by decide), _, rfl, x, a, m, ws, rs[i], rfl, ht1, om, hrow, hrl _ (List.getElem_mem hil), fun H2 s2 => ?_⟩
        refine ⟨_, s2 _ _ hD, ?_, ?_, ?_⟩
        · rw [List.length_map, List.length_map, List.length_take]; exact small1000 (by omega)
        · exact fun b u e => by rw [upd_ne (ne_of_none e hD1)]; exact s2 _ _ (sm b u e)
        · have e : rs.take (i + 1) = rs.take i ++ [rs[i]] := by rw [List.take_add_one, er]; rfl
          rw [upd_same, e, List.map_append, List.map_append]; rfl
      · rintro H1 ⟨sm, hD⟩
        rw [List.length_map, hR.1, List.take_length] at hD
        refine ⟨D1, _, rfl, SqL.of hD, ?_⟩
        have := k H1 (sG.trans sm)
        simpa using this
    refine ⟨_, pss_cons (ps_if (pt_cmpR (op_notInT (room65 hr)) (pv 2) (pe_glob (v := .ref pK) rfl gK rfl) (by rfl))
        (pss_one (ps_raise rfl (takes_of rfl rfl rfl rfl) (pmk_oex OK.T OK.ini OK.tI (ini_BadKind OK) hr OK.b .nil pass0 rfl OK.g (pa_cons (pv 2) pa_nil)))) pss_nil)
      (pss_cons (ps_set (i := 3) scKept.nd rfl (Or.inl rfl) (pe_ifExp (pt_cmpR (op_inT (room65 hr)) (pv 2) (pe_glob (v := .ref pL) rfl gL rfl) (by rfl)) (pe_slice sl_tupU (pe_fld (pv 1) rfl) (po_some pe_int) po_none) (pe_fld (pv 1) rfl)))
      ht2), ?_⟩
    have kl : ∀ H' : Hp, Dp K H' (.ref pK) (.tuple (kinds.map PyData.str)) := fun H' => .tup (qK H') (dp_strs kinds)
    have ll : ∀ H' : Hp, Dp K H' (.ref pL) (.tuple ((["joined", "taken"] : List Str).map PyData.str)) := fun H' => .tup (qL H') (dp_strs ["joined", "taken"])
    rcases k with ⟨z, rfl, hz, k⟩ | ⟨d, hd, sd, nd, k⟩
    · refine ⟨_, rfl, _, _, .str z, kl H, kind_sh hz, kinds_sh, _, rfl, ?_⟩
      have e1 : ((kinds.map PyData.str).any fun y => PyData.eqv y (.str z)) = true := by
        rw [List.any_eq_true]
        exact ⟨.str z, List.mem_map_of_mem hz, by rw [eqv_str]; simp⟩
      rw [if_pos rfl, e1]
      refine iteF ?_
      obtain ⟨dh, oh, as, hh1, hh2, hh3⟩ := hh
      refine ⟨_, rfl, _, _, .str z, ll H, kind_sh hz, late_sh, _, rfl, ?_⟩
      have e2 : (((["joined", "taken"] : List Str).map PyData.str).any fun y => PyData.eqv y (.str z)) = lateB z := by
        simp [eqv_str, lateB, eq_comm]
      rw [if_neg (by simp), e2]
      have hkept : keptB m ws rows z = (if lateB z = true then rows.drop 1 else rows).all fun r => allB m ws r := rfl
      rw [hkept] at k
      refine ite2 (fun h => ?_) (fun h => ?_)
      · rw [if_pos h] at k
        refine ⟨_, rfl, h', C2, dh, _, _, rfl, hh1, M2.cl, M2.nS, hf_st _, 1, rfl, oh, _, rfl, hh2, fun p G sG hp => ?_⟩
        rw [cut_1, ← List.map_drop] at hp
        exact hq2 p G (as.drop 1) (rows.drop 1) sG hp ((hh3.same sG).drop 1) (by simp; omega) (fun r hr => hrl r (List.mem_of_mem_drop hr)) k
      · rw [if_neg h] at k
        refine ⟨_, rfl, h', C2, dh, _, _, rfl, hh1, M2.cl, M2.nS, hf_st _, ?_⟩
        exact hq2 oh H as rows (Same.refl H) hh2 hh3 hl hrl k
    · refine ⟨_, rfl, _, _, hd, kl H, sd, kinds_sh, _, rfl, ?_⟩
      have e1 : ((kinds.map PyData.str).any fun y => PyData.eqv y d) = false := by
        rw [List.any_eq_false]
        intro y hy
        obtain ⟨z, hz, rfl⟩ := List.mem_map.mp hy
        rw [nd z hz]; simp
      rw [if_pos rfl, e1]
      refine iteT ?_
      refine ⟨_, rfl, ?_⟩
      exact err_read (fs := ["kind"]) (by decide) rfl k
end
end K1
set_option Elab.async false
set_option linter.all false
set_option maxRecDepth 100000
/-! histories made -/
namespace K1
open PySem L2
def RowsH (H : Hp) (as : List Addr) (rows : List (List Str)) : Prop := as.length = rows.length ∧ ∀ (i : Nat) (a : Addr) (r : List Str), as[i]? = some a → rows[i]? = some r → H a = some (.tup (r.map V.str))
theorem RowsH.same {H H' : Hp} {as : List Addr} {rows : List (List Str)} (h : RowsH H as rows) (s : Same H H') : RowsH H' as rows := ⟨h.1, fun i a r e1 e2 => s _ _ (h.2 i a r e1 e2)⟩
theorem RowsH.kept {x C dx : Addr} {fs : List (Str × V)} {H H' : Hp} {as : List Addr} {rows : List (List Str)} (h : RowsH H as rows) (hx : H x = some (.ins C dx fs)) (s : Kept x H H') : RowsH H' as rows := ⟨h.1, fun i a r e1 e2 => s _ _ (h.2 i a r e1 e2) (ne_of (h.2 i a r e1 e2) hx (by intro z; cases z))⟩
theorem RowsH.s {K : PySem.W.Frag} {H : Hp} {as : List Addr} {rows : List (List Str)} (h : RowsH H as rows) : RowsS K H as rows := ⟨h.1, fun i a r e1 e2 => SqT.of (h.2 i a r e1 e2)⟩
theorem kitLT {K : PySem.W.Frag} {t : String} (h : t = "list" ∨ t = "tuple") : PySem.W.kitAny K (.type t) [.type "list", .type "tuple"] = some true := by
  rcases h with rfl | rfl
  · exact kitAny_cons (b := true) (kit_ty (by decide +kernel)) (fun h => nomatch h) fun _ => rfl
  · exact kitAny_cons (b := false) (kit_ty (by decide +kernel)) (fun _ => kitAny_cons (b := true) (kit_ty (by decide +kernel)) (fun h => nomatch h) fun _ => rfl) fun h => nomatch h
def spHI (K : PySem.W.Frag) (C : Addr) : Sp := fun vs H Q _ => ∃ (x dx a : Addr) (as : List Addr) (rows : List (List Str)), vs = [.ref x, .ref a] ∧ H x = some (.ins C dx []) ∧ SqL K H a (as.map V.ref) ∧ RowsH H as rows ∧ rows.length ≤ 100 ∧
  (∀ r ∈ rows, r.length ≤ 100 ∧ ∀ z ∈ r, wordB (.str z) = true) ∧ ∀ G, Kept x H G → HistAt K C G x rows → Q .non G
abbrev pHI : List Str := ["self", "stretches"]
abbrev nHI : List Str := ["self", "stretches", "index", "stretch", "deed"]
theorem scHI : FnScope nHI pHI (defScope sHInit) := ⟨rfl, rfl, rfl, by decide +kernel, rfl, by decide +kernel, by decide +kernel⟩
abbrev HI (K : PySem.W.Frag) (f : Addr) (fd : FuncData) (o : Addr) : Prop := FunD K "__init__" "History.__init__" (defArgs sHInit) (defBody sHInit) (defScope sHInit) [.ref o] [] f fd
section
variable {P : Program} {w : World} {K : PySem.W.Frag} {mg : Str → Option Value} {base : Heap}
theorem ok_hinit {C f fW o : Addr} {fd fdW : FuncData} (F : HI K f fd o) (M : Th2 K mg C) (T : Bt2 mg) (DW : Df K mg "is_word" sIsWord ["value"] fW fdW) : FnOk P w K mg base CX0 2 f fd pHI (spHI K C) := by
  have GW : FnOk P w K mg base CX0 1 fW fdW ["value"] (spWord K) := g_isword DW T
  refine F.ok scHI (fun vs H Q E h => ?_) (fun cdv A outer s H vs Q E hr h => ?_)
  · obtain ⟨x, dx, a, as, rows, rfl, _⟩ := h
    rfl
  · obtain ⟨x, dx, a, as, rows, rfl, hx, ha, hR, hl, hrw, k⟩ := h
    refine ⟨_, pss_cons (ps_for (passes_of rfl) rfl (pi_enum (by rfl) T.enumerate (pa_cons (pv 1) pa_nil)) (pg_tup (by rfl) (pgs_cons (pg_name (i := 2) scHI.nd rfl (Or.inl rfl)) (pgs_cons (pg_name (i := 3) scHI.nd rfl (Or.inl rfl)) pgs_nil)))
        (pss_one (ps_if (PW.pt (pw_or (pt_not (pt_val (pe_callB call_isiT (by rfl) T.isinstance PyProof.Rows.boot_isinstance (pa_cons (pv 3) (pa_cons (pe_tup (pa_cons (pe_bltn (v := .ty "list") (by rfl) T.list PyProof.Rows.boot_list rfl) (pa_cons (pe_bltn (v := .ty "tuple") (by rfl) T.tuple PyProof.Rows.boot_tuple rfl) pa_nil))) pa_nil)))))
          (pw_or1 (pt_not (pt_val (pe_callB (cr_all rfl) (by rfl) T.all PyProof.Rows.boot_all (pa_cons (pe_lc (own := [("deed", 4)]) (g := gName 4) (by rfl) scHI.nd (pi_tup (pv 3))
            (blkOk_by (own := [("deed", 4)]) (N := nHI) (sc := defScope sHInit) (by decide +kernel)) (fun _ _ _ _ _ => pg_name (i := 4) scHI.nd rfl (Or.inl rfl)) (fun _ _ _ _ _ => pts_nil)
            (fun _ _ _ _ _ => pe_call GW hr rfl DW.g DW.F.kp DW.b .nil pass0 (pa_cons (pv 4) pa_nil))) pa_nil)))))))
          pss_never pss_nil)))
      (pss_one (ps_fld (pv 0) (pe_callTy (r := rTu K) call_tuple_of (by rfl) T.tuple PyProof.Rows.boot_tuple (pa_cons (pe_lc (own := [("stretch", 3)]) (g := gName 3) (by rfl) scHI.nd (pi_list (pv 1))
            (blkOk_by (own := [("stretch", 3)]) (N := nHI) (sc := defScope sHInit) (by decide +kernel)) (fun _ _ _ _ _ => pg_name (i := 3) scHI.nd rfl (Or.inl rfl)) (fun _ _ _ _ _ => pts_nil)
            (fun _ _ _ _ _ => pe_callTy (r := rTu K) call_tuple_of (by rfl) T.tuple PyProof.Rows.boot_tuple (pa_cons (pv 3) pa_nil))) pa_nil)) rfl)), ?_⟩
    refine ⟨_, rfl, a, _, rfl, ha, for_it (walk_enum (K := K) (a := a) (xs := as.map V.ref)) (fun i σ H' => Same H H' ∧ ∃ v2 v3, σ = [some (.ref x), some (.ref a), v2, v3, none]) ⟨Same.refl H, none, none, rfl⟩ (fun i σ H' _ p => p.1.seq ha) ?_ ?_⟩
    · rintro i y σ H1 H2 hi ⟨sm, v2, v3, rfl⟩ ⟨t, x1, x2, rfl, ht, rfl, e1, e2⟩
      cases e1
      replace e2 : (as.map V.ref)[i]? = some x2 := e2
      rw [List.getElem?_map] at e2
      obtain ⟨q, eq, rfl⟩ := Option.map_eq_some_iff.mp e2
      have hil : i < rows.length := by rw [← hR.1]; exact (List.getElem?_eq_some_iff.mp eq).1
      have er : rows[i]? = some rows[i] := List.getElem?_eq_getElem hil
      have sm2 := sm.trans (same_upd (o := .tup [V.int (i : Nat), V.ref q]) ht)
      have hq := sm2 _ _ (hR.2 i q _ eq er)
      refine ⟨t, _, rfl, SqT.of upd_same, rfl, _, _, rfl, _, _, rfl, rfl, ?_⟩
      refine ⟨_, rfl, Nat.le_of_ble_eq_true rfl, fun tt htt => ?_⟩
      have sm3 := sm2.trans (same_upd (o := .tup [V.ty "list", V.ty "tuple"]) htt)
      refine ⟨_, tt, _, _, _, true, rfl, upd_same, .cons (.ty "list") (.cons (.ty "tuple") .nil), .base (.tup (sm3 _ _ (hR.2 i q _ eq er))), kitLT (.inr rfl), true, rfl, ?_⟩
      refine iteF ?_
      have hrr := hrw _ (List.getElem_mem hil)
      generalize hrow : rows[i] = row at hq hrr er
      have hq3 := same_upd (o := .tup [V.ty "list", V.ty "tuple"]) htt _ _ hq
      generalize upd (upd H1 t (.tup [V.int (i : Nat), V.ref q])) tt (.tup [V.ty "list", V.ty "tuple"]) = H3 at sm3 hq3
      refine ⟨_, rfl, q, rfl, ⟨_, SqT.of hq3⟩, fun D1 hD1 => ?_⟩
      refine lc_tup (K := K) (a := q) (xs := row.map V.str) (fun i H' => Same H3 H' ∧ H' D1 = some (.lst ((List.replicate i true).map V.bl))) ?_ ?_ ?_ ?_
      · exact ⟨same_upd hD1, upd_same⟩
      · exact fun i H' _ z => SqT.of (z.1 _ _ hq3)
      · rintro j y H4 hj ⟨sm4, hD⟩
        rw [List.getElem?_map] at hj
        obtain ⟨z, ez, rfl⟩ := Option.map_eq_some_iff.mp hj
        have hjl : j < row.length := (List.getElem?_eq_some_iff.mp ez).1
        have hw := hrr.2 z (List.mem_of_getElem? ez)
        refine ⟨rfl, _, rfl, .str z, _, rfl, .str z (by have := len_word hw; omega), fun H5 s5 => ?_⟩
        refine ⟨_, s5 _ _ hD, ?_, ?_, ?_⟩
        · simp; exact small1000 (by omega)
        · exact fun b u e => by rw [upd_ne (ne_of_none e hD1)]; exact s5 _ _ (sm4 b u e)
        · rw [upd_same, hw, List.replicate_succ', List.map_append]; rfl
      · rintro H4 ⟨sm4, hD⟩
        refine ⟨D1, _, rfl, SqL.of hD, ?_⟩
        have e : (List.replicate (row.map V.str).length true).all id = true := by simp
        rw [e]
        refine ⟨true, rfl, ?_⟩
        refine iteF ?_
        exact ⟨sm3.trans sm4, _, _, rfl⟩
    · rintro σ H1 ⟨sm, v2, v3, rfl⟩
      have hx1 := sm _ _ hx
      have hR1 := hR.same sm
      refine ⟨_, rfl, a, rfl, ⟨_, sm.seq ha⟩, fun D1 hD1 => ?_⟩
      refine lc_list (K := K) (a := a) (xs := as.map V.ref) (fun i H' => Same H1 H' ∧ H' D1 = some (.lst ((as.take i).map V.ref))) ?_ ?_ ?_ ?_
      · exact ⟨same_upd hD1, upd_same⟩
      · exact fun i H' _ z => (sm.trans z.1).seq ha
      · rintro i y H4 hi ⟨sm4, hD⟩
        rw [List.getElem?_map] at hi
        obtain ⟨q, eq, rfl⟩ := Option.map_eq_some_iff.mp hi
        have hil : i < rows.length := by rw [← hR.1]; exact (List.getElem?_eq_some_iff.mp eq).1
        have er : rows[i]? = some rows[i] := List.getElem?_eq_getElem hil
        refine ⟨rfl, _, rfl, q, _, rfl, .inr ⟨SqT.of (sm4 _ _ (hR1.2 i q _ eq er)), ?_⟩⟩
        refine ⟨_, hD, ?_, ?_, ?_⟩
        · rw [List.length_map, List.length_take]; exact small1000 (by omega)
        · exact fun b u e => by rw [upd_ne (ne_of_none e hD1)]; exact sm4 b u e
        · have e : as.take (i + 1) = as.take i ++ [q] := by rw [List.take_add_one, eq]; rfl
          rw [upd_same, e, List.map_append]; rfl
      · rintro H4 ⟨sm4, hD⟩
        rw [List.length_map, List.take_length] at hD
        refine ⟨D1, _, rfl, .inl ⟨SqL.of hD, fun o ho => ?_⟩⟩
        have s5 := (sm.trans sm4).trans (same_upd (o := .tup (as.map V.ref)) ho)
        have hx5 := s5 _ _ hx
        refine ⟨_, rfl, x, C, dx, _, rfl, hx5, M.cl, M.nS, by simp, ?_⟩
        have nxo : x ≠ o := ne_of hx5 upd_same (by intro z; cases z)
        refine k _ (fun b u e n => by rw [upd_ne n]; exact s5 _ _ e) ⟨dx, o, as, upd_same, SqT.of (by rw [upd_ne nxo.symm]; exact upd_same), ((hR.same s5).kept hx5 Kept.self).s⟩
end
end K1
set_option Elab.async false
set_option linter.all false
set_option maxRecDepth 100000
/-! the law's helpers -/
namespace K1
open PySem L2
abbrev sShuf : Stmt := top 29
abbrev sNamed : Stmt := top 31
abbrev sHist : Stmt := top 32
abbrev sTim : Stmt := top 33
abbrev sTMade : Stmt := top 34
abbrev sKeeps : Stmt := top 35
abbrev sHMade : Stmt := top 36
abbrev sFault : Stmt := top 37
abbrev sRef : Stmt := top 38
theorem seqIdx_ok {n : Nat} {r : Int} (h0 : 0 ≤ r) (h1 : r < (n : Int)) : seqIndex? r n = some r.toNat := by
  unfold seqIndex?
  have e : ¬ r < 0 := by omega
  simp [e, h0, h1]
theorem perm_erase : ∀ (l : List Int) (i : Nat) (h : i < l.length), (l[i] :: l.eraseIdx i).Perm l
  | [], i, h => absurd h (Nat.not_lt_zero i)
  | a :: l, 0, h => List.Perm.refl _
  | a :: l, i + 1, h => by
    have hi : i < l.length := by simpa using h
    have ih := perm_erase l i hi
    show (l[i] :: a :: l.eraseIdx i).Perm (a :: l)
    exact (List.Perm.swap a l[i] _).trans (List.Perm.cons a ih)
theorem erase_map : ∀ (l : List Int) (i : Nat), (l.map V.int).eraseIdx i = (l.eraseIdx i).map V.int
  | [], i => rfl
  | a :: l, 0 => rfl
  | a :: l, i + 1 => by
    show V.int a :: (l.map V.int).eraseIdx i = V.int a :: (l.eraseIdx i).map V.int
    rw [erase_map l i]
/-- numbers below w, all different -/
def Pm (w : Nat) (ks : List Int) : Prop := ks.Nodup ∧ ∀ k ∈ ks, 0 ≤ k ∧ k < (w : Int)
def spShuf (K : PySem.W.Frag) : Sp := fun vs H Q _ => ∃ (d c a : Addr) (n w : Nat) (ks : List Int), vs = [.ref d, .ref a] ∧ PenAt H d c n ∧ n ≤ 900000 ∧ SqL K H a (ks.map V.int) ∧ a ≠ d ∧ Pm w ks ∧ ks.length ≤ 10 ∧
  ∀ (p : Addr) (ls : List Int) (H' : Hp), H p = none → H' p = some (.lst (ls.map V.int)) → Pm w ls → ls.length = ks.length → PenAt H' d c (n + 10) → Kept d H H' → Q (.ref p) H'
def rLi (K : PySem.W.Frag) : List V → Hp → VK → Prop := fun xs H Q => ∃ p ys, xs = [.ref p] ∧ (SqL K H p ys ∨ SqT K H p ys) ∧ ∀ l, H l = none → Q (.ref l) (upd H l (.lst ys))
section
variable {P : Program} {w : World} {K : PySem.W.Frag} {mg : Str → Option Value} {base : Heap}
abbrev pShuf : List Str := ["_law_pen_here", "_law_some"]
abbrev nShuf : List Str := ["_law_pen_here", "_law_some", "_law_left", "_law_found", "_law_k"]
theorem scShuf : FnScope nShuf pShuf (defScope sShuf) := ⟨rfl, rfl, rfl, by decide +kernel, rfl, by decide +kernel, by decide +kernel⟩
theorem ok_shuf {f fD : Addr} {fd fdD : FuncData} (D : Df K mg "_law_shuffled" sShuf pShuf f fd) (DD : Df K mg "_law_draw" sDraw pDraw fD fdD) (T : Bt mg) : FnOk P w K mg base CX0 2 f fd pShuf (spShuf K) := by
  have GD : FnOk P w K mg base CX0 1 fD fdD pDraw spDraw := ok_draw DD.F T
  refine D.F.ok scShuf (fun vs H Q E h => ?_) (fun cdv A outer s H vs Q E hr h => ?_)
  · obtain ⟨d, c, a, n, w, ks, rfl, _⟩ := h
    rfl
  · obtain ⟨d, c, a, n, W, ks, rfl, hp, hn, ha, nad, hP, hk, k⟩ := h
    refine ⟨_, pss_cons (ps_par rfl scShuf.nd (i := 2) (j := 3) rfl rfl (by decide) rfl rfl (pa_cons (pe_callTy (r := rLi K) call_list_of (by rfl) T.list PyProof.Rows.boot_list (pa_cons (pv 1) pa_nil)) (pa_cons (pe_lst pa_nil) pa_nil)) rfl)
      (pss_cons (ps_for PassesOwn.never rfl (pi_range1 rfl T.range (pa_cons (pe_callB call_len (by rfl) T.len PySem.boot_len (pa_cons (pv 2) pa_nil)) pa_nil)) (pg_name (i := 4) scShuf.nd rfl (Or.inl rfl))
        (pss_one (ps_expr (pe_bm PySem.F.plainAttrs_list PySem.F.slot_list_append PySem.F.type_list_append mt_append (pv 3) (pa_cons
          (pe_bm PySem.F.plainAttrs_list PySem.F.slot_list_pop PySem.F.type_list_pop mt_popAt (pv 2) (pa_cons (pe_call GD hr rfl DD.g DD.F.kp DD.b .nil pass0 (pa_cons (pv 0) (pa_cons (pe_callB call_len (by rfl) T.len PySem.boot_len (pa_cons (pv 2) pa_nil)) pa_nil))) pa_nil)) pa_nil)))))
      (pss_one (ps_ret (pv 3)))), ?_⟩
    refine ⟨_, rfl, a, _, rfl, .inl ha, fun L hL => ⟨Nat.le_of_ble_eq_true rfl, fun F hF => ⟨_, _, rfl, ?_⟩⟩⟩
    have sL := same_upd (o := .lst (ks.map V.int)) hL
    have sF := sL.trans (same_upd (o := .lst []) hF)
    have zF : H F = none := sL.free hF
    have nLF : L ≠ F := ne_of_none upd_same hF
    obtain ⟨nLd, nLc⟩ := hp.ne hL
    obtain ⟨nFd, nFc⟩ := hp.ne zF
    have eL : upd (upd H L (.lst (ks.map V.int))) F (.lst []) L = some (.lst (ks.map V.int)) := by rw [upd_ne nLF]; exact upd_same
    refine ⟨_, rfl, _, ks.length, rfl, .inl ⟨_, SqL.of eL, (List.length_map _).symm⟩, (ks.length : Int), rfl, by omega, by omega, ?_⟩
    rw [Int.toNat_natCast]
    refine for_range (lo := 0) (n := ks.length) (fun i σ H' => ∃ (v4 : Option V) (fs left : List Int), σ = [some (.ref d), some (.ref a), some (.ref L), some (.ref F), v4] ∧ H' L = some (.lst (left.map V.int)) ∧ H' F = some (.lst (fs.map V.int)) ∧ fs.length = i ∧ left.length + i = ks.length ∧ Pm W (fs ++ left) ∧ PenAt H' d c (n + i) ∧ Kept d H H') ?_ ?_ ?_
    · exact ⟨_, [], ks, rfl, eL, upd_same, rfl, rfl, hP, hp.same sF, .same sF⟩
    · rintro i σ H1 hi ⟨v4, fs, left, rfl, hL1, hF1, hfs, hll, hP1, hp1, k1⟩
      have hl0 : 0 < left.length := by omega
      refine ⟨_, rfl, .inl ⟨rfl, _, SqL.of hF1⟩, _, rfl, .inl ⟨rfl, _, SqL.of hL1⟩, _, rfl, _, rfl, _, left.length, rfl, .inl ⟨_, SqL.of hL1, (List.length_map _).symm⟩, d, c, n + i, _, rfl, hp1, by omega, by omega, by omega, fun r H2 r0 r1 p2 k2 => ?_⟩
      have hL2 := k2 _ _ hL1 nLd
      have hF2 := k2 _ _ hF1 nFd
      have hrl : r.toNat < left.length := by omega
      refine ⟨L, _, r, r.toNat, .int left[r.toNat], rfl, rfl, hL2, by omega, by omega, ?_, ?_, ?_⟩
      · rw [List.length_map]; exact seqIdx_ok r0 r1
      · rw [List.getElem?_map, List.getElem?_eq_getElem hrl]; rfl
      · have hF3 : upd H2 L (.lst ((left.map V.int).eraseIdx r.toNat)) F = some (.lst (fs.map V.int)) := by rw [upd_ne nLF.symm]; exact hF2
        refine ⟨F, _, _, rfl, rfl, hF3, by rw [List.length_map]; exact small1000 (by omega), ?_⟩
        have perm : (fs ++ [left[r.toNat]] ++ left.eraseIdx r.toNat).Perm (fs ++ left) := by
          rw [List.append_assoc]
          exact List.Perm.append_left fs (perm_erase left r.toNat hrl)
        refine ⟨_, fs ++ [left[r.toNat]], left.eraseIdx r.toNat, rfl, ?_, ?_, by simp [hfs], by rw [List.length_eraseIdx_of_lt hrl]; omega, ⟨perm.symm.nodup hP1.1, fun k hk => hP1.2 k (perm.mem_iff.mp hk)⟩, ?_, ?_⟩
        · rw [upd_ne nLF, upd_same, erase_map]
        · rw [upd_same, List.map_append]; rfl
        · exact ((p2.upd nLd nLc).upd nFd nFc)
        · exact ((k1.trans k2).upd hL).upd zF
    · rintro σ H1 ⟨v4, fs, left, rfl, hL1, hF1, hfs, hll, hP1, hp1, k1⟩
      have e0 : left = [] := List.length_eq_zero_iff.mp (by omega)
      subst e0
      rw [List.append_nil] at hP1
      exact ⟨_, rfl, k F fs H1 zF hF1 hP1 hfs (hp1.mono (by omega)) k1⟩
end
end K1
set_option Elab.async false
set_option linter.all false
set_option maxRecDepth 100000
namespace K1
open PySem L2
/-- the deeds of a row of numbers -/
def nm (ws : List Str) (ks : List Int) : List Str := ks.map fun k => ws.getD k.toNat ""
def Ix (w : Nat) (ks : List Int) : Prop := ∀ k ∈ ks, 0 ≤ k ∧ k < (w : Int)
theorem at_deed {ws : List Str} {k : Int} (h0 : 0 ≤ k) (h1 : k < (ws.length : Int)) : atI (ws.map V.str) k = some (.str (ws.getD k.toNat "")) := by
  have hl : k.toNat < ws.length := by omega
  have e : k = ((k.toNat : Nat) : Int) := by omega
  rw [e]
  refine atI_nat ?_
  rw [Int.toNat_natCast, List.getElem?_map, List.getElem?_eq_getElem hl, List.getD_eq_getElem?_getD, List.getElem?_eq_getElem hl]
  rfl
def spNamed (K : PySem.W.Frag) : Sp := fun vs H Q _ => ∃ (a r : Addr) (ws : List Str) (ks : List Int), vs = [.ref a, .ref r] ∧ SqL K H a (ws.map V.str) ∧ SqT K H r (ks.map V.int) ∧ Ix ws.length ks ∧ ks.length ≤ 100 ∧
  ∀ (p : Addr) (H' : Hp), H p = none → Same H H' → H' p = some (.tup ((nm ws ks).map V.str)) → Q (.ref p) H'
section
variable {P : Program} {w : World} {K : PySem.W.Frag} {mg : Str → Option Value} {base : Heap}
abbrev pNamed : List Str := ["_law_deeds", "_law_row"]
abbrev nNamed : List Str := ["_law_deeds", "_law_row", "_law_k"]
theorem scNamed : FnScope nNamed pNamed (defScope sNamed) := ⟨rfl, rfl, rfl, by decide +kernel, rfl, by decide +kernel, by decide +kernel⟩
theorem ok_named {f : Addr} {fd : FuncData} (D : Df K mg "_law_named" sNamed pNamed f fd) (T : Bt mg) : FnOk P w K mg base CX0 1 f fd pNamed (spNamed K) := by
  refine D.F.ok scNamed (fun vs H Q E h => ?_) (fun cdv A outer s H vs Q E hr h => ?_)
  · obtain ⟨a, r, ws, ks, rfl, _⟩ := h
    rfl
  · obtain ⟨a, r, ws, ks, rfl, ha, hR, hk, hl, k⟩ := h
    refine ⟨_, pss_one (ps_ret (pe_callTy (r := rTu K) call_tuple_of (by rfl) T.tuple PyProof.Rows.boot_tuple (pa_cons (pe_lc (own := [("_law_k", 2)]) (g := gName 2) (by rfl) scNamed.nd (pi_tup (pv 1))
        (blkOk_by (own := [("_law_k", 2)]) (N := nNamed) (sc := defScope sNamed) (by decide +kernel)) (fun _ _ _ _ _ => pg_name (i := 2) scNamed.nd rfl (Or.inl rfl)) (fun _ _ _ _ _ => pts_nil)
        (fun _ _ _ _ _ => pe_ix (r := rIxL K) ix_list (pv 0) (pv 2) (fun _ _ => rfl))) pa_nil))), ?_⟩
    refine ⟨_, rfl, r, rfl, ⟨_, hR⟩, fun D1 hD1 => ?_⟩
    refine lc_tup (K := K) (a := r) (xs := ks.map V.int) (fun i H' => Same H H' ∧ H' D1 = some (.lst ((nm ws (ks.take i)).map V.str))) ?_ ?_ ?_ ?_
    · exact ⟨same_upd hD1, upd_same⟩
    · exact fun i H' _ q => hR.ext q.1
    · rintro i y H1 hi ⟨sm, hD⟩
      rw [List.getElem?_map] at hi
      obtain ⟨j, ej, rfl⟩ := Option.map_eq_some_iff.mp hi
      obtain ⟨j0, j1⟩ := hk j (List.mem_of_getElem? ej)
      have hil : i < ks.length := (List.getElem?_eq_some_iff.mp ej).1
      refine ⟨rfl, _, rfl, _, rfl, a, _, j, _, rfl, rfl, sm.seq ha, at_deed j0 j1, _, hD, ?_, ?_, ?_⟩
      · rw [List.length_map, nm, List.length_map, List.length_take]; exact small1000 (by omega)
      · exact fun b u e => by rw [upd_ne (ne_of_none e hD1)]; exact sm b u e
      · have e : ks.take (i + 1) = ks.take i ++ [j] := by rw [List.take_add_one, ej]; rfl
        rw [upd_same, e, nm, nm, List.map_append, List.map_append]; rfl
    · rintro H1 ⟨sm, hD⟩
      rw [List.length_map, List.take_length] at hD
      refine ⟨D1, _, rfl, .inl ⟨SqL.of hD, fun p hp => ?_⟩⟩
      exact k p _ (sm.free hp) (sm.trans (same_upd hp)) upd_same
end
end K1
set_option Elab.async false
set_option linter.all false
set_option maxRecDepth 100000
namespace K1
open PySem L2
def RowsI (H : Hp) (as : List Addr) (rs : List (List Int)) : Prop := as.length = rs.length ∧ ∀ (i : Nat) (a : Addr) (r : List Int), as[i]? = some a → rs[i]? = some r → H a = some (.tup (r.map V.int))
theorem RowsI.same {H H' : Hp} {as : List Addr} {rs : List (List Int)} (h : RowsI H as rs) (s : Same H H') : RowsI H' as rs := ⟨h.1, fun i a r e1 e2 => s _ _ (h.2 i a r e1 e2)⟩
theorem RowsI.kept {d : Addr} {kv : List (Key × V)} {H H' : Hp} {as : List Addr} {rs : List (List Int)} (h : RowsI H as rs) (hd : H d = some (.dK kv)) (s : Kept d H H') : RowsI H' as rs := ⟨h.1, fun i a r e1 e2 => s _ _ (h.2 i a r e1 e2) (ne_of (h.2 i a r e1 e2) hd (by intro z; cases z))⟩
theorem RowsI.snoc {H : Hp} {as : List Addr} {rs : List (List Int)} {a : Addr} {r : List Int} (h : RowsI H as rs) (e : H a = some (.tup (r.map V.int))) : RowsI H (as ++ [a]) (rs ++ [r]) := by
  refine ⟨by simp [h.1], fun i b q e1 e2 => ?_⟩
  by_cases hi : i < as.length
  · rw [List.getElem?_append_left hi] at e1
    rw [List.getElem?_append_left (by rw [← h.1]; exact hi)] at e2
    exact h.2 i b q e1 e2
  · rw [List.getElem?_append_right (by omega)] at e1
    rw [List.getElem?_append_right (by rw [← h.1]; omega), ← h.1] at e2
    cases hj : i - as.length with
    | zero =>
      rw [hj] at e1 e2
      simp at e1 e2
      subst e1; subst e2
      exact e
    | succ j => rw [hj] at e1; simp at e1
def spHist (K : PySem.W.Frag) : Sp := fun vs H Q _ => ∃ (d c : Addr) (n w L m : Nat), vs = [.ref d, .int (w : Int), .int (L : Int), .int (m : Int)] ∧ PenAt H d c n ∧ n ≤ 800000 ∧ 1 ≤ w ∧ w ≤ 10 ∧ L ≤ 5 ∧ m ≤ 5 ∧
  ∀ (p : Addr) (as : List Addr) (rs : List (List Int)) (H' : Hp), H p = none → H' p = some (.lst (as.map V.ref)) → RowsI H' as rs → rs.length = L → (∀ r ∈ rs, r.length ≤ 5 ∧ Ix w r) → PenAt H' d c (n + 40) → Kept d H H' → Q (.ref p) H'
abbrev pHist : List Str := ["_law_pen_here", "_law_width", "_law_looks", "_law_most"]
abbrev nHist : List Str := ["_law_pen_here", "_law_width", "_law_looks", "_law_most", "_law_look", "_law_k"]
abbrev eHist : Expr := valOf (stOf sHist 0)
abbrev scHo : Scope := compScope eHist
section
variable {P : Program} {w : World} {K : PySem.W.Frag} {mg : Str → Option Value} {base : Heap}
theorem scHist : FnScope nHist pHist (defScope sHist) := ⟨rfl, rfl, rfl, by decide +kernel, rfl, by decide +kernel, by decide +kernel⟩
theorem ok_hist {f fD : Addr} {fd fdD : FuncData} (D : Df K mg "_law_history" sHist pHist f fd) (DD : Df K mg "_law_draw" sDraw pDraw fD fdD) (T : Bt mg) : FnOk P w K mg base CX0 2 f fd pHist (spHist K) := by
  have GD : FnOk P w K mg base CX0 1 fD fdD pDraw spDraw := ok_draw DD.F T
  refine D.F.ok scHist (fun vs H Q E h => ?_) (fun cdv A outer s H vs Q E hr h => ?_)
  · obtain ⟨d, c, n, w, L, m, rfl, _⟩ := h
    rfl
  · obtain ⟨d, c, n, W, L, m, rfl, hp, hn, hw1, hw, hL, hm, k⟩ := h
    have hin : ∀ (s' : Shared) (H' : Hp) (C' : Addr) (cl' : List (Str × Addr)) (fp' : List Addr), PE (Cx.blk (cxOf CX0 P w K mg base nHist "_law_history" (defScope sHist) f cdv A outer s H E).nox s' H' scHo (compEnvC scHo cl' C' (cxOf CX0 P w K mg base nHist "_law_history" (defScope sHist) f cdv A outer s H E).nox.env) fp')
        (eltOf eHist) (tCB (rTu K) (tCons (tLc (iRng1 (tCons (tCall spDraw [] E0 (tCons (tVar 0) (tCons (tOp (rI0 fun i j => V.int (i + j)) (tVar 3) (tC (.int 1))) tNil))) tNil)) (gName 5) tYes (tCall spDraw [] E0 (tCons (tVar 0) (tCons (tVar 1) tNil))) [5]) tNil)) := fun s' H' C' cl' fp' =>
      pe_callTy (r := rTu K) call_tuple_of (by rfl) T.tuple PyProof.Rows.boot_tuple (pa_cons (pe_lc (own := [("_law_k", 5)]) (g := gName 5) (by rfl) scHist.nd
          (pi_range1 rfl T.range (pa_cons (pe_call GD hr rfl DD.g DD.F.kp DD.b .nil pass0 (pa_cons (pv 0) (pa_cons (pe_op op_add (pv 3) pe_int) pa_nil))) pa_nil))
          (blkOk_by (own := [("_law_k", 5)]) (N := nHist) (sc := relS scHo (defScope sHist)) (by decide +kernel)) (fun _ _ _ _ _ => pg_name (i := 5) scHist.nd rfl (Or.inl rfl)) (fun _ _ _ _ _ => pts_nil)
          (fun _ _ _ _ _ => pe_call GD hr rfl DD.g DD.F.kp DD.b .nil pass0 (pa_cons (pv 0) (pa_cons (pv 1) pa_nil)))) pa_nil)
    refine ⟨_, pss_one (ps_ret (pe_lc (own := [("_law_look", 4)]) (g := gName 4) (by rfl) scHist.nd (pi_range1 rfl T.range (pa_cons (pv 2) pa_nil))
        (blkOk_by (own := [("_law_look", 4)]) (N := nHist) (sc := defScope sHist) (by decide +kernel)) (fun _ _ _ _ _ => pg_name (i := 4) scHist.nd rfl (Or.inl rfl)) (fun _ _ _ _ _ => pts_nil) hin)), ?_⟩
    refine ⟨_, rfl, (L : Int), rfl, by omega, by omega, fun D1 hD1 => ?_⟩
    rw [Int.toNat_natCast]
    obtain ⟨n1d, n1c⟩ := hp.ne hD1
    refine lc_range (lo := 0) (n := L) (fun i H' => ∃ (as : List Addr) (rs : List (List Int)), rs.length = i ∧ H' D1 = some (.lst (as.map V.ref)) ∧ RowsI H' as rs ∧ (∀ r ∈ rs, r.length ≤ 5 ∧ Ix W r) ∧ PenAt H' d c (n + 8 * i) ∧ Kept d H H') ?_ ?_ ?_
    · exact ⟨[], [], rfl, upd_same, ⟨rfl, fun i a r e => by simp at e⟩, by simp, hp.upd n1d n1c, (Kept.refl d H).upd hD1⟩
    · rintro i H1 hi ⟨as, rs, hrs, hD, hR, hrow, hp1, k1⟩
      refine ⟨rfl, _, rfl, _, rfl, _, _, rfl, rfl, d, c, _, _, rfl, hp1, by omega, by omega, by omega, fun r H2 r0 r1 p2 k2 => ?_⟩
      obtain ⟨J, rfl⟩ : ∃ J : Nat, r = (J : Int) := ⟨r.toNat, by omega⟩
      have hJ : J ≤ 5 := by omega
      refine ⟨(J : Int), rfl, by omega, by omega, fun D2 hD2 => ?_⟩
      rw [Int.toNat_natCast]
      have zD2 : H D2 = none := (k1.trans k2).free p2 hD2
      obtain ⟨n2d, n2c⟩ := hp.ne zD2
      have hD_2 := k2 _ _ hD n1d
      have n12 : D1 ≠ D2 := ne_of_none hD_2 hD2
      refine lc_range (lo := 0) (n := J) (fun j H' => ∃ ks : List Int, ks.length = j ∧ Ix W ks ∧ H' D2 = some (.lst (ks.map V.int)) ∧ PenAt H' d c (n + 8 * i + 1 + j) ∧ Kept d H2 H') ?_ ?_ ?_
      · exact ⟨[], rfl, (fun k h => nomatch h), upd_same, p2.upd n2d n2c, (Kept.refl d H2).upd hD2⟩
      · rintro j H3 hj ⟨ks, hks, hix, hD3, p3, k3⟩
        refine ⟨rfl, _, rfl, _, rfl, d, c, _, (W : Int), rfl, p3, by omega, by omega, by omega, fun y H4 y0 y1 p4 k4 => ?_⟩
        refine ⟨_, k4 _ _ hD3 n2d, ?_, ks ++ [y], by simp [hks], fun z hz => ?_, ?_, p4.upd n2d n2c, (k3.trans k4).upd hD2⟩
        · rw [List.length_map]; exact small1000 (by omega)
        · rcases List.mem_append.mp hz with h | h
          · exact hix z h
          · rw [List.mem_singleton.mp h]; exact ⟨y0, y1⟩
        · rw [upd_same, List.map_append]; rfl
      · rintro H3 ⟨ks, hks, hix, hD3, p3, k3⟩
        refine ⟨D2, _, rfl, .inl ⟨SqL.of hD3, fun t ht => ?_⟩⟩
        have k13 := k1.trans (k2.trans k3)
        have zt : H t = none := k13.free p3 ht
        obtain ⟨ntd, ntc⟩ := hp.ne zt
        have st := same_upd (o := .tup (ks.map V.int)) ht
        have k2t : Kept d H1 (upd H3 t (.tup (ks.map V.int))) := (k2.trans k3).trans (.same st)
        have hDt := k2t _ _ hD n1d
        have n1t : D1 ≠ t := ne_of_none (k3 _ _ hD_2 n1d) ht
        obtain ⟨ns', x', z', hpd, _⟩ := hp1
        refine ⟨_, hDt, ?_, as ++ [t], rs ++ [ks], by simp [hrs], ?_, ?_, ?_, ?_, ?_⟩
        · rw [List.length_map, hR.1]; exact small1000 (by omega)
        · rw [upd_same, List.map_append]; rfl
        · have hR' := (hR.kept hpd k2t).snoc upd_same
          refine ⟨hR'.1, fun i a r e1 e2 => ?_⟩
          have h := hR'.2 i a r e1 e2
          rw [upd_ne (ne_of h hDt (by intro z; cases z))]
          exact h
        · intro q hq
          rcases List.mem_append.mp hq with h | h
          · exact hrow q h
          · rw [List.mem_singleton.mp h]; exact ⟨by omega, hix⟩
        · exact (((p3.same st).upd n1d n1c)).mono (by omega)
        · exact (k13.trans (.same st)).upd hD1
    · rintro H1 ⟨as, rs, hrs, hD, hR, hrow, hp1, k1⟩
      exact k D1 as rs H1 hD1 hD hR hrs hrow (hp1.mono (by omega)) k1
end
end K1
set_option Elab.async false
set_option linter.all false
set_option maxRecDepth 100000
namespace K1
open PySem L2
theorem rg_ints (w : Nat) : rgV 0 (w : Int) = ((List.range w).map fun (i : Nat) => (i : Int)).map V.int := by
  unfold rgV
  simp
theorem pm_range (w : Nat) : Pm w ((List.range w).map fun (i : Nat) => (i : Int)) := by
  refine ⟨?_, fun k hk => ?_⟩
  · refine List.Pairwise.map _ (fun a b h => ?_) List.nodup_range
    intro e; exact h (by omega)
  · obtain ⟨i, hi, rfl⟩ := List.mem_map.mp hk
    have := List.mem_range.mp hi
    exact ⟨by omega, by omega⟩
theorem Pm.take {w : Nat} {ks : List Int} (h : Pm w ks) (n : Nat) : Pm w (ks.take n) := ⟨h.1.sublist (List.take_sublist n ks), fun k hk => h.2 k (List.mem_of_mem_take hk)⟩
/-- a rhythm: at most so many, and the closing deeds -/
def RhAt (K : PySem.W.Frag) (H : Hp) (p : Addr) (m : V) (ks : List Int) : Prop := ∃ q, H p = some (.tup [m, .ref q]) ∧ SqT K H q (ks.map V.int)
theorem RhAt.same {K : PySem.W.Frag} {H H' : Hp} {p : Addr} {m : V} {ks : List Int} (h : RhAt K H p m ks) (s : Same H H') : RhAt K H' p m ks := by
  obtain ⟨q, h1, h2⟩ := h
  exact ⟨q, s _ _ h1, h2.ext s⟩
def mSm (m : V) : Prop := m = .non ∨ ∃ i : Int, m = .int i ∧ 0 ≤ i ∧ i ≤ 3
def spTim (K : PySem.W.Frag) : Sp := fun vs H Q _ => ∃ (d c : Addr) (n w : Nat), vs = [.ref d, .int (w : Int)] ∧ PenAt H d c n ∧ n ≤ 800000 ∧ w ≤ 10 ∧
  ∀ (p : Addr) (m : V) (ks : List Int) (H' : Hp), H p = none → RhAt K H' p m ks → mSm m → Pm w ks → ks.length ≤ 2 → PenAt H' d c (n + 20) → Kept d H H' → Q (.ref p) H'
section
variable {P : Program} {w : World} {K : PySem.W.Frag} {mg : Str → Option Value} {base : Heap}
abbrev pTim : List Str := ["_law_pen_here", "_law_width"]
abbrev nTim : List Str := ["_law_pen_here", "_law_width", "_law_most"]
theorem scTim : FnScope nTim pTim (defScope sTim) := ⟨rfl, rfl, rfl, by decide +kernel, rfl, by decide +kernel, by decide +kernel⟩
theorem ok_tim {f fD fP fS : Addr} {fd fdD fdP fdS : FuncData} (D : Df K mg "_law_timing" sTim pTim f fd) (DD : Df K mg "_law_draw" sDraw pDraw fD fdD) (DP : Df K mg "_law_pick" sPick pPick fP fdP) (DS : Df K mg "_law_shuffled" sShuf pShuf fS fdS) (T : Bt mg) : FnOk P w K mg base CX0 3 f fd pTim (spTim K) := by
  have GP : FnOk P w K mg base CX0 2 fP fdP pPick (spPickL K) := ok_pickL DP DD T
  have GS : FnOk P w K mg base CX0 2 fS fdS pShuf (spShuf K) := ok_shuf DS DD T
  refine D.F.ok scTim (fun vs H Q E h => ?_) (fun cdv A outer s H vs Q E hr h => ?_)
  · obtain ⟨d, c, n, w, rfl, _⟩ := h
    rfl
  · obtain ⟨d, c, n, W, rfl, hp, hn, hw, k⟩ := h
    refine ⟨_, pss_cons (ps_set (i := 2) scTim.nd rfl (Or.inl rfl) (pe_call GP hr rfl DP.g DP.F.kp DP.b .nil pass0 (pa_cons (pv 0) (pa_cons (pe_lst (pa_cons pe_non (pa_cons pe_non (pa_cons pe_int (pa_cons pe_int (pa_cons pe_int (pa_cons pe_int pa_nil))))))) pa_nil))))
      (pss_one (ps_ret (pe_tup (pa_cons (pv 2) (pa_cons (pe_callTy (r := rTu K) call_tuple_of (by rfl) T.tuple PyProof.Rows.boot_tuple (pa_cons
        (pe_slice sl_list (pe_call GS hr rfl DS.g DS.F.kp DS.b .nil pass0 (pa_cons (pv 0) (pa_cons (pe_listRg rfl (by rfl) T.list (prg_1 (by rfl) T.range (pv 1))) pa_nil))) po_none
          (po_some (pe_call GP hr rfl DP.g DP.F.kp DP.b .nil pass0 (pa_cons (pv 0) (pa_cons (pe_lst (pa_cons pe_int (pa_cons pe_int (pa_cons pe_int (pa_cons pe_int (pa_cons pe_int pa_nil)))))) pa_nil))))) pa_nil)) pa_nil))))), ?_⟩
    refine ⟨_, rfl, Nat.le_of_ble_eq_true rfl, fun q0 hq0 => ?_⟩
    refine ⟨d, c, q0, n, _, rfl, hp.same (same_upd hq0), by omega, (hp.ne hq0).1, SqL.of upd_same, Nat.le_of_ble_eq_true rfl, Nat.le_of_ble_eq_true rfl, fun m H1 hm p1 k1 => ?_⟩
    have kk1 : Kept d H H1 := (Kept.same (same_upd hq0)).trans k1
    have hms : mSm m := by
      simp only [List.mem_cons, List.not_mem_nil, or_false] at hm
      rcases hm with rfl | rfl | rfl | rfl | rfl | rfl
      · exact .inl rfl
      · exact .inl rfl
      · exact .inr ⟨0, rfl, by decide, by decide⟩
      · exact .inr ⟨1, rfl, by decide, by decide⟩
      · exact .inr ⟨2, rfl, by decide, by decide⟩
      · exact .inr ⟨3, rfl, by decide, by decide⟩
    refine ⟨m, rfl, _, rfl, _, rfl, (W : Int), rfl, RgOk.of_le (by decide) (by omega) (by decide) (by omega), fun q1 hq1 => ?_⟩
    rw [rg_ints]
    have s1 := same_upd (o := .lst (((List.range W).map fun (i : Nat) => (i : Int)).map V.int)) hq1
    refine ⟨d, c, q1, n + 1, W, _, rfl, p1.same s1, by omega, SqL.of upd_same, (p1.ne hq1).1, pm_range W, by simp; omega, fun L ls H2 hL eL hPm hlen p2 k2 => ?_⟩
    have nLd : L ≠ d := ((p1.same s1).ne hL).1
    refine ⟨_, rfl, Nat.le_of_ble_eq_true rfl, fun q2 hq2 => ?_⟩
    have s2 := fun o => same_upd (o := o) hq2
    refine ⟨d, c, q2, n + 1 + 10, _, rfl, p2.same (s2 _), by omega, (p2.ne hq2).1, SqL.of upd_same, Nat.le_of_ble_eq_true rfl, Nat.le_of_ble_eq_true rfl, fun x H3 hx p3 k3 => ?_⟩
    obtain ⟨j, rfl, hj⟩ : ∃ j : Nat, x = .int (j : Int) ∧ j ≤ 2 := by
      simp only [List.mem_cons, List.not_mem_nil, or_false] at hx
      rcases hx with rfl | rfl | rfl | rfl | rfl
      · exact ⟨0, rfl, by omega⟩
      · exact ⟨0, rfl, by omega⟩
      · exact ⟨1, rfl, by omega⟩
      · exact ⟨1, rfl, by omega⟩
      · exact ⟨2, rfl, by omega⟩
    have eL3 := k3 _ _ (s2 _ _ _ eL) nLd
    refine ⟨_, rfl, L, _, rfl, SqL.of eL3, fun q3 hq3 => ?_⟩
    have ec : cutV (ls.map V.int) none (some (j : Int)) = (ls.take j).map V.int := by
      unfold cutV
      rw [HT.sIx_none, HT.sIx_nat, List.drop_zero, Nat.sub_zero, List.map_take]
      by_cases h : j ≤ (ls.map V.int).length
      · rw [Nat.min_eq_left h]
      · rw [Nat.min_eq_right (by omega), List.take_length, List.take_of_length_le (by omega)]
    rw [ec]
    refine ⟨q3, _, rfl, .inl ⟨SqL.of upd_same, fun q4 hq4 => ?_⟩⟩
    refine ⟨Nat.le_of_ble_eq_true rfl, fun p hpn => ?_⟩
    have s5 : Same H3 _ := ((same_upd (o := .lst ((ls.take j).map V.int)) hq3).trans (same_upd (o := .tup ((ls.take j).map V.int)) hq4)).trans (same_upd (o := .tup [m, .ref q4]) hpn)
    have kk : Kept d H _ := (((kk1.trans (.same s1)).trans k2).trans ((Kept.same (s2 _)).trans k3)).trans (.same s5)
    have zp : H p = none := ((((kk1.trans (.same s1)).trans k2).trans ((Kept.same (s2 _)).trans k3)).trans (.same ((same_upd (o := .lst ((ls.take j).map V.int)) hq3).trans (same_upd (o := .tup ((ls.take j).map V.int)) hq4)))).free ((p3.same (same_upd hq3)).same (same_upd hq4)) hpn
    exact k p m (ls.take j) _ zp ⟨q4, upd_same, SqT.of (same_upd hpn _ _ upd_same)⟩ hms (hPm.take j) (by rw [List.length_take]; omega) ((p3.same s5).mono (by omega)) kk
end
end K1
set_option Elab.async false
set_option linter.all false
set_option maxRecDepth 100000
namespace K1
open PySem L2
/-- the deeds of a turn -/
structure Dd (ws : List Str) : Prop where
  nd : ws.Nodup
  wd : ∀ z ∈ ws, Wd z
  len : 1 ≤ ws.length ∧ ws.length ≤ 6
  eq : ∃ k, ∀ z ∈ ws, z.cps.toList.length = k
theorem Wd.word {z : Str} (h : Wd z) : wordB (.str z) = true := by
  obtain ⟨c, r, e, h1, h2, h3⟩ := h
  show wordL z.cps.toList = true
  rw [e]
  unfold wordL
  simp only [Bool.and_eq_true, decide_eq_true_eq, List.all_eq_true]
  refine ⟨by simp; omega, h1, fun x hx => ?_⟩
  rcases List.mem_cons.mp hx with rfl | h
  · exact LE_AL h1
  · exact h2 x h
theorem Wd.short {z : Str} (h : Wd z) : z.length ≤ 1000 := by have := len_word h.word; omega
theorem nm_mem {ws : List Str} {ks : List Int} (h : Ix ws.length ks) : ∀ z ∈ nm ws ks, z ∈ ws := fun z hz => by
  obtain ⟨k, hk, rfl⟩ := List.mem_map.mp hz
  obtain ⟨h0, h1⟩ := h k hk
  have hl : k.toNat < ws.length := by omega
  rw [List.getD_eq_getElem?_getD, List.getElem?_eq_getElem hl]
  exact List.getElem_mem hl
theorem nm_inj {ws : List Str} (nd : ws.Nodup) {j k : Int} (j0 : 0 ≤ j) (j1 : j < (ws.length : Int)) (k0 : 0 ≤ k) (k1 : k < (ws.length : Int)) (e : ws.getD j.toNat "" = ws.getD k.toNat "") : j = k := by
  have hj : j.toNat < ws.length := by omega
  have hk : k.toNat < ws.length := by omega
  rw [List.getD_eq_getElem?_getD, List.getElem?_eq_getElem hj, List.getD_eq_getElem?_getD, List.getElem?_eq_getElem hk] at e
  have e' : ws[j.toNat] = ws[k.toNat] := e
  by_cases h : j.toNat < k.toNat
  · exact absurd e' (List.pairwise_iff_getElem.mp nd _ _ hj hk h)
  · by_cases h2 : k.toNat < j.toNat
    · exact absurd e'.symm (List.pairwise_iff_getElem.mp nd _ _ hk hj h2)
    · omega
theorem nm_nodup {ws : List Str} {ks : List Int} (nd : ws.Nodup) (hP : Pm ws.length ks) : (nm ws ks).Nodup := by
  unfold nm
  rw [List.nodup_iff_pairwise_ne, List.pairwise_map]
  refine List.Pairwise.imp_of_mem (fun {a b} ha hb hne e => ?_) hP.1
  obtain ⟨a0, a1⟩ := hP.2 a ha
  obtain ⟨b0, b1⟩ := hP.2 b hb
  exact hne (nm_inj nd a0 a1 b0 b1 e)
theorem first_good {ws : List Str} (nd : ws.Nodup) (hw : ∀ z ∈ ws, wordB (.str z) = true) : firstBad (ws.map V.str).length (okD (ws.map V.str)) = none := by
  refine first_none fun j hj => ?_
  rw [List.length_map] at hj
  have e : (ws.map V.str).getD j .non = .str ws[j] := by
    rw [List.getD_eq_getElem?_getD, List.getElem?_map, List.getElem?_eq_getElem hj]; rfl
  unfold okD
  rw [e, hw _ (List.getElem_mem hj), ← List.map_take, inV_str (nodup_take nd (List.getElem?_eq_getElem hj))]
  rfl
def spTMade (K : PySem.W.Frag) (C : Addr) : Sp := fun vs H Q _ => ∃ (a rh : Addr) (ws : List Str) (m : V) (ks : List Int), vs = [.ref a, .ref rh] ∧ SqL K H a (ws.map V.str) ∧ Dd ws ∧ RhAt K H rh m ks ∧ mSm m ∧ Pm ws.length ks ∧ ks.length ≤ 10 ∧
  ∀ (x : Addr) (G : Hp), H x = none → Same H G → TimAt K C G x m ((nm ws ks).map V.str) → Q (.ref x) G
theorem mSm.num {m : V} (h : mSm m) : numB m = true := by
  rcases h with rfl | ⟨i, rfl, h0, h1⟩
  · rfl
  · show (decide (0 ≤ i) && decide (i ≤ 10 ^ 30)) = true
    rw [decide_eq_true h0, decide_eq_true (by omega)]; rfl
theorem mSm.ok {m : V} (h : mSm m) : mOk m := by
  rcases h with rfl | ⟨i, rfl, _⟩
  · exact .inl rfl
  · exact .inr ⟨i, rfl⟩
theorem mSm.th {K : PySem.W.Frag} {H : Hp} {m : V} (h : mSm m) : ∃ t, Th K H m t := by
  rcases h with rfl | ⟨i, rfl, _⟩
  · exact ⟨_, .non⟩
  · exact ⟨_, .int i⟩
/-- what the making of an object leaves as it was -/
theorem made_same {H G : Hp} {x dx C : Addr} (hx : H x = none) (hd : H dx = none) (k : Kept x (upd (upd H dx (.own x)) x (.ins C dx [])) G) : Same H G := fun b o e => by
  have n1 : b ≠ x := ne_of_none e hx
  have n2 : b ≠ dx := ne_of_none e hd
  exact k b o (by rw [upd_ne n1, upd_ne n2]; exact e) n1
theorem made_pre {H : Hp} {x dx C : Addr} (hx : H x = none) (hd : H dx = none) : Same H (upd (upd H dx (.own x)) x (.ins C dx [])) := fun b o e => by
  rw [upd_ne (ne_of_none e hx), upd_ne (ne_of_none e hd)]; exact e
section
variable {P : Program} {w : World} {K : PySem.W.Frag} {mg : Str → Option Value} {base : Heap}
abbrev pTMade : List Str := ["_law_deeds", "_law_rhythm"]
abbrev nTMade : List Str := ["_law_deeds", "_law_rhythm", "_law_k"]
theorem scTMade : FnScope nTMade pTMade (defScope sTMade) := ⟨rfl, rfl, rfl, by decide +kernel, rfl, by decide +kernel, by decide +kernel⟩
theorem ok_tmade {C CN CD f fI : Addr} {fd fdI : FuncData} (D : Df K mg "_law_timing_made" sTMade pTMade f fd) (M : Tt K mg C) (T : Bt mg) (Mk' : Mk K C fI) (GI : FnOk P w K mg base (L2.CX P w) 4 fI fdI pTI (spTI K C CN CD)) (bI : Binds K fdI pTI []) : FnOk P w K mg base CX0 6 f fd pTMade (spTMade K C) := by
  refine D.F.ok scTMade (fun vs H Q E h => ?_) (fun cdv A outer s H vs Q E hr h => ?_)
  · obtain ⟨a, rh, ws, m, ks, rfl, _⟩ := h
    rfl
  · obtain ⟨a, rh, ws, m, ks, rfl, ha, dd, ⟨q, hrh, hq⟩, hm, hP, hk, k⟩ := h
    refine ⟨_, pss_one (ps_ret (pe_makeS Mk' GI hr rfl M.mgC bI .nil (fun σ => passAt (LamX.takes0) σ) (pa_cons (pe_ix ix_tup (pv 1) pe_int (fun _ _ => rfl))
      (pa_cons (pe_lc (own := [("_law_k", 2)]) (g := gName 2) (by rfl) scTMade.nd (pi_tup (pe_ix ix_tup (pv 1) pe_int (fun _ _ => rfl)))
        (blkOk_by (own := [("_law_k", 2)]) (N := nTMade) (sc := defScope sTMade) (by decide +kernel)) (fun _ _ _ _ _ => pg_name (i := 2) scTMade.nd rfl (Or.inl rfl)) (fun _ _ _ _ _ => pts_nil)
        (fun _ _ _ _ _ => pe_ix (r := rIxL K) ix_list (pv 0) (pv 2) (fun _ _ => rfl))) pa_nil)))), ?_⟩
    have tp := SqT.of (K := K) hrh
    refine ⟨_, rfl, rh, _, 0, m, rfl, rfl, tp, rfl, _, rfl, rh, _, 1, .ref q, rfl, rfl, tp, rfl, q, rfl, ⟨_, hq⟩, fun D1 hD1 => ?_⟩
    refine lc_tup (K := K) (a := q) (xs := ks.map V.int) (fun i H' => Same H H' ∧ H' D1 = some (.lst ((nm ws (ks.take i)).map V.str))) ?_ ?_ ?_ ?_
    · exact ⟨same_upd hD1, upd_same⟩
    · exact fun i H' _ z => hq.ext z.1
    · rintro i y H1 hi ⟨sm, hD⟩
      rw [List.getElem?_map] at hi
      obtain ⟨j, ej, rfl⟩ := Option.map_eq_some_iff.mp hi
      obtain ⟨j0, j1⟩ := hP.2 j (List.mem_of_getElem? ej)
      have hil : i < ks.length := (List.getElem?_eq_some_iff.mp ej).1
      refine ⟨rfl, _, rfl, _, rfl, a, _, j, _, rfl, rfl, sm.seq ha, at_deed j0 j1, _, hD, ?_, ?_, ?_⟩
      · rw [List.length_map, nm, List.length_map, List.length_take]; exact small1000 (by omega)
      · exact fun b u e => by rw [upd_ne (ne_of_none e hD1)]; exact sm b u e
      · have e : ks.take (i + 1) = ks.take i ++ [j] := by rw [List.take_add_one, ej]; rfl
        rw [upd_same, e, nm, nm, List.map_append, List.map_append]; rfl
    · rintro H1 ⟨sm, hD⟩
      rw [List.length_map, List.take_length] at hD
      intro x dx hx hdx ndx
      have pre := made_pre (C := C) hx hdx
      obtain ⟨t, th⟩ := hm.th (K := K) (H := upd (upd H1 dx (.own x)) x (.ins C dx []))
      refine ⟨x, dx, D1, m, t, rfl, upd_same, th, ?_⟩
      rw [if_pos hm.num]
      have hmem := nm_mem hP.2
      refine .inl ⟨(nm ws ks).map V.str, SqL.of (pre _ _ hD), fun v hv => ?_, by rw [List.length_map, nm, List.length_map]; omega, ?_⟩
      · obtain ⟨z, hz, rfl⟩ := List.mem_map.mp hv
        exact ⟨_, .str z (dd.wd z (hmem z hz)).short⟩
      · rw [first_good (nm_nodup dd.nd hP) fun z hz => (dd.wd z (hmem z hz)).word]
        exact fun G kG tG => ⟨rfl, k x G (sm.free hx) (sm.trans (made_same hx hdx kG)) tG⟩
end
end K1
set_option Elab.async false
set_option linter.all false
set_option maxRecDepth 100000
namespace K1
open PySem L2
def allI (m : V) (ks r : List Int) : Bool := mB m r.length && !(r.dropLast.any fun j => decide (j ∈ ks))
def keepsB (m : V) (ks : List Int) (rs : List (List Int)) (z : Str) : Bool := (if lateB z = true then rs.drop 1 else rs).all fun r => allI m ks r
theorem nm_len (ws : List Str) (r : List Int) : (nm ws r).length = r.length := List.length_map _
theorem allB_nm {ws : List Str} {ks r : List Int} {m : V} (nd : ws.Nodup) (hk : Ix ws.length ks) (hr : Ix ws.length r) : allB m (nm ws ks) (nm ws r) = allI m ks r := by
  unfold allB allI
  rw [nm_len]
  congr 2
  unfold nm
  rw [← List.map_dropLast, List.any_map]
  have : ∀ l : List Int, (∀ j ∈ l, j ∈ r) → (l.any ((fun d => decide (d ∈ ks.map fun k => ws.getD k.toNat "")) ∘ fun k => ws.getD k.toNat "")) = l.any fun j => decide (j ∈ ks) := by
    intro l hl
    induction l with
    | nil => rfl
    | cons j l ih =>
      simp only [List.any_cons]
      rw [ih fun i hi => hl i (List.mem_cons_of_mem _ hi)]
      congr 1
      obtain ⟨j0, j1⟩ := hr j (hl j (List.mem_cons_self ..))
      simp only [Function.comp]
      by_cases h : j ∈ ks
      · rw [decide_eq_true h, decide_eq_true (List.mem_map_of_mem h)]
      · rw [decide_eq_false h]
        refine decide_eq_false fun hm => ?_
        obtain ⟨k, hk1, e⟩ := List.mem_map.mp hm
        obtain ⟨k0, k1⟩ := hk k hk1
        exact h (nm_inj nd k0 k1 j0 j1 e ▸ hk1)
  exact this r.dropLast fun j hj => (List.dropLast_sublist r).subset hj
theorem kept_nm {ws : List Str} {ks : List Int} {rs : List (List Int)} {m : V} {z : Str} (nd : ws.Nodup) (hk : Ix ws.length ks) (hr : ∀ r ∈ rs, Ix ws.length r) : keptB m (nm ws ks) (rs.map (nm ws)) z = keepsB m ks rs z := by
  unfold keptB keepsB
  have : ∀ l : List (List Int), (∀ r ∈ l, r ∈ rs) → ((l.map (nm ws)).all fun r => allB m (nm ws ks) r) = l.all fun r => allI m ks r := by
    intro l hl
    induction l with
    | nil => rfl
    | cons r l ih =>
      simp only [List.map_cons, List.all_cons]
      rw [ih fun i hi => hl i (List.mem_cons_of_mem _ hi), allB_nm nd hk (hr r (hl r (List.mem_cons_self ..)))]
  by_cases h : lateB z = true
  · rw [if_pos h, if_pos h, ← List.map_drop]
    exact this _ fun r hr => List.mem_of_mem_drop hr
  · rw [if_neg h, if_neg h]
    exact this _ fun r hr => hr
def spKeeps (K : PySem.W.Frag) : Sp := fun vs H Q _ => ∃ (rh b : Addr) (z : Str) (m : V) (ks : List Int) (as : List Addr) (rs : List (List Int)), vs = [.ref rh, .str z, .ref b] ∧ RhAt K H rh m ks ∧ mOk m ∧ z ∈ kinds ∧ H b = some (.lst (as.map V.ref)) ∧ RowsI H as rs ∧ rs.length ≤ 10 ∧ (∀ r ∈ rs, r.length ≤ 10) ∧
  ∀ H', Same H H' → Q (.bl (keepsB m ks rs z)) H'
theorem flat_ints (ks : List Int) : (ks.map V.int).all flatV = true := by simp [flatV]
theorem inV_ints (j : Int) (ks : List Int) : inV (.int j) (ks.map V.int) = decide (j ∈ ks) := by
  unfold inV
  rw [List.any_map]
  induction ks with
  | nil => rfl
  | cons k r ih =>
    simp only [List.any_cons, Function.comp]
    rw [ih]
    have e : eqV (.int k) (.int j) = decide (j = k) := by
      show (k == j) = _
      by_cases h : k = j
      · simp [h]
      · have h2 : ¬ j = k := fun e => h e.symm
        simp [h, h2]
    rw [e]
    by_cases h : j = k <;> simp [h]
def frOf : Stmt → List Stmt
  | .For _ _ b _ _ => b
  | _ => []
def bdIf : List Stmt → List Stmt
  | [.If _ b _ _] => b
  | _ => []
section
variable {P : Program} {w : World} {K : PySem.W.Frag} {mg : Str → Option Value} {base : Heap}
abbrev pKeeps : List Str := ["_law_rhythm", "_law_kind", "_law_stretches"]
abbrev nKeeps : List Str := ["_law_rhythm", "_law_kind", "_law_stretches", "_law_most", "_law_closing", "_law_k", "_law_one"]
theorem scKeeps : FnScope nKeeps pKeeps (defScope sKeeps) := ⟨rfl, rfl, rfl, by decide +kernel, rfl, by decide +kernel, by decide +kernel⟩
theorem ok_keeps {f : Addr} {fd : FuncData} (D : Df K mg "_law_keeps" sKeeps pKeeps f fd) (T : Bt2 mg) (B : Bk K mg) : FnOk P w K mg base CX0 1 f fd pKeeps (spKeeps K) := by
  refine D.F.ok scKeeps (fun vs H Q E h => ?_) (fun cdv A outer s H vs Q E hr h => ?_)
  · obtain ⟨rh, b, z, m, ks, as, rs, rfl, _⟩ := h
    rfl
  · obtain ⟨rh, b, z, m, ks, as, rs, rfl, ⟨q, hrh, hq⟩, hm, hz, hb, hR, hl, hrl, k⟩ := h
    have hbl := SqL.of (K := K) hb
    obtain ⟨t3, ht3, hq3⟩ : ∃ t3, PSs (cxOf CX0 P w K mg base nKeeps "_law_keeps" (defScope sKeeps) f cdv A outer s H E).nox ((bdIf (frOf (stOf sKeeps 1))).drop 1) t3 ∧ ∀ (D : Ends) (i : Nat) (H1 : Hp) (v6 : Option V) (r : List Int), Same H H1 → rs[i]? = some r →
        (allI m ks r = true → ∀ H2, Same H H2 → D.nx [some (.ref rh), some (.str z), some (.ref b), some m, some (.ref q), some (.int (i : Int)), v6] H2) → (allI m ks r = false → ∀ H2, Same H H2 → D.rt (.bl false) H2) →
        mB m r.length = true → t3 D [some (.ref rh), some (.str z), some (.ref b), some m, some (.ref q), some (.int (i : Int)), v6] H1 := by
      refine ⟨_, (pss_one (ps_if (pt_val (pe_callB (cr_any rfl) (by rfl) B.any PyProof.Rows.boot_any (pa_cons (pe_lc (own := [("_law_one", 6)]) (g := gName 6) (by rfl) scKeeps.nd
              (pi_tup (pe_slice sl_tupU (pe_ix ix_list (pv 2) (pv 5) (fun _ _ => rfl)) po_none (po_some (pe_un un_neg pe_int))))
              (blkOk_by (own := [("_law_one", 6)]) (N := nKeeps) (sc := defScope sKeeps) (by decide +kernel)) (fun _ _ _ _ _ => pg_name (i := 6) scKeeps.nd rfl (Or.inl rfl)) (fun _ _ _ _ _ => pts_nil)
              (fun _ _ _ _ _ => pe_cmpR (r := rIn K false) op_in_seq (pv 6) (pv 4) (by rfl))) pa_nil)))
            (pss_one (ps_ret pe_bl)) pss_nil)), ?_⟩
      intro D i H1 v6 r sm er yes no hB
      have hil : i < as.length := by rw [hR.1]; exact (List.getElem?_eq_some_iff.mp er).1
      have ea : as[i]? = some as[i] := List.getElem?_eq_getElem hil
      have hrow := sm _ _ (hR.2 i _ r ea er)
      have hrl' : r.length ≤ 10 := hrl r (List.mem_of_getElem? er)
      have eix : atI (as.map V.ref) (i : Int) = some (.ref as[i]) := atI_nat (by rw [List.getElem?_map, ea]; rfl)
      have eAll : allI m ks r = !(r.dropLast.any fun j => decide (j ∈ ks)) := by
        unfold allI
        rw [hB, Bool.true_and]
      refine ⟨_, rfl, _, rfl, b, _, (i : Int), _, rfl, rfl, sm.seq hbl, eix, 1, rfl, _, rfl, as[i], _, rfl, SqT.of hrow, fun p G sG hp => ?_⟩
      rw [cut_last, ← List.map_dropLast] at hp
      have hl2 : r.dropLast.length ≤ 10 := by rw [List.length_dropLast]; omega
      generalize r.dropLast = rd at hp eAll hl2
      refine ⟨p, rfl, ⟨_, hp⟩, fun D1 hD1 => ?_⟩
      refine lc_tup (K := K) (a := p) (xs := rd.map V.int) (fun i H' => Same G H' ∧ H' D1 = some (.lst (((rd.take i).map fun d => decide (d ∈ ks)).map V.bl))) ?_ ?_ ?_ ?_
      · exact ⟨same_upd hD1, by rw [upd_same]; rfl⟩
      · exact fun i H' _ q => hp.ext q.1
      · rintro j y H2 hj ⟨sm2, hD⟩
        rw [List.getElem?_map] at hj
        obtain ⟨e, ee, rfl⟩ := Option.map_eq_some_iff.mp hj
        have hjl : j < rd.length := (List.getElem?_eq_some_iff.mp ee).1
        refine ⟨rfl, _, rfl, _, rfl, q, _, rfl, .inr (((hq.ext sm).ext sG).ext sm2), rfl, flat_ints _, _, hD, ?_, ?_, ?_⟩
        · rw [List.length_map, List.length_map, List.length_take]; exact small1000 (by omega)
        · exact fun b u e => by rw [upd_ne (ne_of_none e hD1)]; exact sm2 b u e
        · have e3 : rd.take (j + 1) = rd.take j ++ [e] := by rw [List.take_add_one, ee]; rfl
          rw [upd_same, e3, List.map_append, List.map_append]
          simp [inV_ints]
      · rintro H2 ⟨sm2, hD⟩
        rw [List.length_map, List.take_length] at hD
        refine ⟨D1, _, rfl, SqL.of hD, ?_⟩
        have e4 : ((rd.map fun d => decide (d ∈ ks)).all id) = rd.all fun d => decide (d ∈ ks) := by simp [List.all_map]
        have e5 : ((rd.map fun d => decide (d ∈ ks)).any id) = rd.any fun d => decide (d ∈ ks) := by simp [List.any_map]
        rw [e5]
        refine ⟨_, rfl, ?_⟩
        cases hany : rd.any fun d => decide (d ∈ ks) with
        | true =>
          refine iteT ?_
          exact no (by rw [eAll, hany]; rfl) H2 ((sm.trans sG).trans sm2)
        | false =>
          refine iteF ?_
          exact yes (by rw [eAll, hany]; rfl) H2 ((sm.trans sG).trans sm2)
    obtain ⟨t2, ht2, hq2⟩ : ∃ t2, PSs (cxOf CX0 P w K mg base nKeeps "_law_keeps" (defScope sKeeps) f cdv A outer s H E).nox (bdIf (frOf (stOf sKeeps 1))) t2 ∧ ∀ (D : Ends) (i : Nat) (H1 : Hp) (v6 : Option V) (r : List Int), Same H H1 → rs[i]? = some r →
        (allI m ks r = true → ∀ H2, Same H H2 → D.nx [some (.ref rh), some (.str z), some (.ref b), some m, some (.ref q), some (.int (i : Int)), v6] H2) → (allI m ks r = false → ∀ H2, Same H H2 → D.rt (.bl false) H2) →
        t2 D [some (.ref rh), some (.str z), some (.ref b), some m, some (.ref q), some (.int (i : Int)), v6] H1 := by
      refine ⟨_, pss_cons (ps_if (PW.pt (pw_and (pt_cmpR op_notN (pv 3) pe_non (nomark _)) (pw_and1 (pt_cmpR op_gt (pe_callB call_len (by rfl) T.len PySem.boot_len (pa_cons (pe_ix ix_list (pv 2) (pv 5) (fun _ _ => rfl)) pa_nil)) (pv 3) (nomark _)))))
              (pss_one (ps_ret pe_bl)) pss_nil)
          ht3, ?_⟩
      intro D i H1 v6 r sm er yes no
      have hil : i < as.length := by rw [hR.1]; exact (List.getElem?_eq_some_iff.mp er).1
      have ea : as[i]? = some as[i] := List.getElem?_eq_getElem hil
      have hrow := hR.2 i _ r ea er
      have hrl' : r.length ≤ 10 := hrl r (List.mem_of_getElem? er)
      have eix : atI (as.map V.ref) (i : Int) = some (.ref as[i]) := atI_nat (by rw [List.getElem?_map, ea]; rfl)
      refine ⟨_, rfl, rfl, _, rfl, ?_⟩
      rcases hm with rfl | ⟨i', rfl⟩
      · refine iteF ?_
        exact hq3 D i H1 v6 r sm er yes no rfl
      · refine iteT ?_
        refine ⟨_, rfl, _, rfl, b, _, (i : Int), _, rfl, rfl, sm.seq hbl, eix, _, r.length, rfl, .inr ⟨_, SqT.of (sm _ _ hrow), (List.length_map _).symm⟩, _, rfl, _, _, rfl, rfl, _, rfl, ?_⟩
        refine ite2 (fun h => ?_) (fun h => ?_)
        · have h' : i' < (r.length : Int) := of_decide_eq_true h
          refine no ?_ H1 sm
          unfold allI mB
          simp
          intro z; omega
        · have h' : ¬ i' < (r.length : Int) := fun z => h (decide_eq_true z)
          exact hq3 D i H1 v6 r sm er yes no (decide_eq_true (by omega))
    refine ⟨_, pss_cons (ps_asg (pv 0) (pg_tup (by rfl) (pgs_cons (pg_name (i := 3) scKeeps.nd rfl (Or.inl rfl)) (pgs_cons (pg_name (i := 4) scKeeps.nd rfl (Or.inr rfl)) pgs_nil))))
      (pss_cons (ps_for PassesOwn.never rfl (pi_range1 rfl T.range (pa_cons (pe_callB call_len (by rfl) T.len PySem.boot_len (pa_cons (pv 2) pa_nil)) pa_nil)) (pg_name (i := 5) scKeeps.nd rfl (Or.inl rfl))
        (pss_one (ps_if (PW.pt (pw_or (pt_cmpR op_gt (pv 5) pe_int (nomark _)) (pw_or1 (pt_cmpR op_in_seq (pv 1) (pe_tup (pa_cons pe_str (pa_cons pe_str pa_nil))) (by rfl))))) ht2 pss_nil)))
      (pss_one (ps_ret pe_bl))), ?_⟩
    refine ⟨_, rfl, rh, _, rfl, SqT.of hrh, rfl, _, _, rfl, _, _, rfl, rfl, ?_⟩
    refine ⟨_, rfl, _, rs.length, rfl, .inl ⟨_, hbl, by rw [List.length_map, hR.1]⟩, (rs.length : Int), rfl, by omega, by omega, ?_⟩
    rw [Int.toNat_natCast]
    refine for_range (lo := 0) (n := rs.length) (fun i σ H' => ∃ v5 v6 : Option V, σ = [some (.ref rh), some (.str z), some (.ref b), some m, some (.ref q), v5, v6] ∧ Same H H' ∧ ∀ (j : Nat) (r : List Int), j < i → rs[j]? = some r → (0 < j ∨ lateB z = false) → allI m ks r = true) ?_ ?_ ?_
    · exact ⟨_, _, rfl, Same.refl H, fun j r h => absurd h (Nat.not_lt_zero j)⟩
    · rintro i σ H1 hi ⟨v5, v6, rfl, sm, hall⟩
      have er : rs[i]? = some rs[i] := List.getElem?_eq_getElem hi
      have go : (0 < i ∨ lateB z = false) → ∀ (D : Ends) (H2 : Hp) (v6 : Option V), Same H H2 → (∀ (H' : Hp), Same H H' → (∀ (j : Nat) (r : List Int), j < i + 1 → rs[j]? = some r → (0 < j ∨ lateB z = false) → allI m ks r = true) → D.nx [some (.ref rh), some (.str z), some (.ref b), some m, some (.ref q), some (.int (i : Int)), v6] H') → (∀ H', Same H H' → keepsB m ks rs z = false → D.rt (.bl false) H') →
          t2 D [some (.ref rh), some (.str z), some (.ref b), some m, some (.ref q), some (.int (i : Int)), v6] H2 := fun hc D H2 v6 s2 nx rt => by
        refine hq2 D i H2 v6 rs[i] s2 er (fun h H3 s3 => nx H3 s3 fun j r hj ej hcj => ?_) (fun h H3 s3 => rt H3 s3 ?_)
        · by_cases e : j = i
          · subst e; rw [er] at ej; cases ej; exact h
          · exact hall j r (by omega) ej hcj
        · unfold keepsB
          by_cases hl : lateB z = true
          · rw [if_pos hl, List.all_eq_false]
            have h0 : 0 < i := by
              rcases hc with h | h
              · exact h
              · rw [hl] at h; cases h
            refine ⟨rs[i], ?_, by rw [h]; simp⟩
            have : (rs.drop 1)[i - 1]? = some rs[i] := by
              rw [List.getElem?_drop, show 1 + (i - 1) = i by omega]; exact er
            exact List.mem_of_getElem? this
          · rw [if_neg hl, List.all_eq_false]
            exact ⟨rs[i], List.getElem_mem hi, by rw [h]; simp⟩
      rw [Int.zero_add]
      refine ⟨_, rfl, _, _, rfl, rfl, _, rfl, ?_⟩
      by_cases h0 : 0 < i
      · rw [decide_eq_true (show (0 : Int) < (i : Int) by omega)]
        refine iteT ?_
        refine iteT ?_
        exact go (.inl h0) _ H1 v6 sm (fun H' s' h' => ⟨_, _, rfl, s', h'⟩) (fun H' s' e => by rw [e] at k; exact k H' s')
      · rw [decide_eq_false (show ¬ (0 : Int) < (i : Int) by omega)]
        refine iteF ?_
        refine ⟨_, rfl, Nat.le_of_ble_eq_true rfl, fun t ht => ?_⟩
        have st := same_upd (o := .tup [V.str "carried", V.str "stretch"]) ht
        have eL : inV (.str z) [V.str "carried", V.str "stretch"] = !(lateB z) := by
          have hh : ∀ z ∈ kinds, inV (.str z) [V.str "carried", V.str "stretch"] = !(lateB z) := by decide +kernel
          exact hh z hz
        refine ⟨t, _, rfl, .inr (SqT.of upd_same), rfl, rfl, _, rfl, ?_⟩
        rw [if_neg (by simp), eL]
        cases hlz : lateB z with
        | false =>
          refine iteT ?_
          exact go (.inr hlz) _ _ v6 (sm.trans st) (fun H' s' h' => ⟨_, _, rfl, s', fun j r hj ej hc => h' j r hj ej (hc.elim .inl fun _ => .inr hlz)⟩) (fun H' s' e => by rw [e] at k; exact k H' s')
        | true =>
          refine iteF ?_
          refine ⟨_, _, rfl, sm.trans st, fun j r hj ej hcj => ?_⟩
          rcases hcj with h | h
          · omega
          · cases h
    · rintro σ H1 ⟨v5, v6, rfl, sm, hall⟩
      have e : keepsB m ks rs z = true := by
        unfold keepsB
        by_cases hl : lateB z = true
        · rw [if_pos hl, List.all_eq_true]
          intro r hr
          obtain ⟨j, hj, rfl⟩ := List.getElem_of_mem hr
          rw [List.length_drop] at hj
          rw [List.getElem_drop]
          exact hall (1 + j) _ (by omega) (List.getElem?_eq_getElem (by omega)) (.inl (by omega))
        · rw [if_neg hl, List.all_eq_true]
          intro r hr
          obtain ⟨j, hj, rfl⟩ := List.getElem_of_mem hr
          exact hall j _ hj (List.getElem?_eq_getElem hj) (.inr (by simpa using hl))
      rw [e] at k
      exact k H1 sm
end
end K1
set_option Elab.async false
set_option linter.all false
set_option maxRecDepth 100000
/-! several clauses, each `except X as e`, of one name e -/
namespace K1
open PySem L2 PySem.Spec PyProof.Rows
def endsI (D : Ends) (i : Nat) : Ends := { nx := fun u G => D.nx (u.set i none) G, rt := D.rt, bk := fun u G => D.bk (u.set i none) G, ct := fun u G => D.ct (u.set i none) G }
def wAsAll (K : PySem.W.Frag) (i : Nat) (Wo : WX) (D : Ends) : List (Value × (Addr → Value → Option Addr → TS)) → WX
  | [] => Wo
  | p :: r => fun cl dd u G => ∃ b, PySem.W.exmOne K cl p.1 = some b ∧ (b = true → ∀ a, G a = none → p.2 a cl dd (endsI D i) (u.set i (some (.ref a))) G) ∧ (b = false → wAsAll K i Wo D r cl dd u G)
inductive AsOk (X : Cx) (n : Str) : List ExceptHandler → List (Value × (Addr → Value → Option Addr → TS)) → Prop
  | nil : AsOk X n [] []
  | cons {x : Str} {c : Value} {ts : Addr → Value → Option Addr → TS} {b₀ : Stmt} {suite : List Stmt} {np q : Pos} {hds : List ExceptHandler} {l : List (Value × (Addr → Value → Option Addr → TS))} (hc : Names X x c)
      (hsu : ∀ (a : Addr) (oe : Obj) (cl : Value) (dd : Option Addr) (pn : List (Addr × Obj)), Zc cl dd oe → (∃ vs, oe.data = .fields vs) → PSs (X.suite a ((a, oe) :: pn)) (b₀ :: suite) (ts a cl dd)) (r : AsOk X n hds l) :
      AsOk X n (.ExceptHandler (some (.Name x np)) (some n) (b₀ :: suite) q :: hds) ((c, ts) :: l)
section
variable {X : Cx} {n : Str} {i : Nat} {body : List Stmt} {h₀ : ExceptHandler} {hds : List ExceptHandler} {l : List (Value × (Addr → Value → Option Addr → TS))} {pos : Pos} {tb : WX → TS} {Wo : WX}
theorem ps_try_asAll (e0 : X.stack = X.env :: X.outer) (e1 : X.env.frame = some X.env.locals) (nd : X.N.Nodup) (hi : X.N[i]? = some n) (hln : X.env.kindOf n = some .local) (tk : Takes X Wo)
    (hb : ∀ (W : WX) (pn : List (Addr × Obj)) (xe : Value → Shared → Prop), Takes (X.tr pn xe) W → PassesOwn (model X.prog X.w) X.A X.env xe → PSs (X.tr pn xe) body (tb W))
    (hh : AsOk X n (h₀ :: hds) l) : PS X (.Try body (h₀ :: hds) [] [] pos) (fun D u G => tb (wAsAll X.K i Wo D l) D u G) := by
  refine ⟨fun pins s u G D I0 go0 => ?_⟩
  have ok := I0.ok
  have fr : X.A.frames = some (X.env :: X.outer) := by rw [ok.frames, e0]
  have lc : Loc X.env.scope n := .inl hln
  refine wpAny_Try_except ?_
  have run0 := (hb (wAsAll X.K i Wo D l) (X.pn ++ pins) (fun e s₁ => wpAny (model X.prog X.w) X.A (noteFrame e X.env) (fun _ s₂ => wpAny (model X.prog X.w) X.A (setFlight e none) (fun _ s₃ =>
    wpAny (model X.prog X.w) X.A (handleBy e X.env (h₀ :: hds)) (SP X pins D) X.xe s₃) X.xe s₂) X.xe s₁) (fun v s' xx => ?_) PassesOwn.looking).run [] s u G D (I0.toTry _) go0
  · refine wpAny_mono run0 (fun f s1 hsp => ?_) (fun e s1 he => he)
    cases f with
    | next => exact let ⟨u', G', J', q⟩ := hsp; wpAny_execs_nil ⟨u', G', J'.ofTry ok, q⟩
    | brk => exact let ⟨u', G', J', q⟩ := hsp; ⟨u', G', J'.ofTry ok, q⟩
    | cont => exact let ⟨u', G', J', q⟩ := hsp; ⟨u', G', J'.ofTry ok, q⟩
    | ret w => exact let ⟨v, u', G', J', r, q⟩ := hsp; ⟨v, u', G', J'.ofTry ok, r, q⟩
  · obtain ⟨a, B, sI, pins', u', G', cl, dd, rfl, J', nb, up, sky, na, os, ag, w⟩ := xx
    have J : Inv X pins u' G' sI := J'.ofTry ok
    have sk : Sky B (X.env :: X.outer) a (Zc cl dd) X.env.locals s'.heap := by rw [← e0]; exact sky
    show wpAny (model X.prog X.w) X.A (noteFrame (.ref a) X.env) _ _ _
    refine Sky.land Zc.steady fr e1 sk fun h3 fl3 up3 => ?_
    have J3 : Inv X pins u' G' { s' with heap := h3 } := J.landed nb fl3.1 (up.trans up3) os ag
    obtain ⟨oe3, vs3, he3, hz3, hd3⟩ := fl3.there
    have out : ∀ {h : Heap} {o : Obj} {vs : Array Value}, h.FunFrames B (X.env :: X.outer) → h.get? a = some o → o.data = .fields vs → a ∉ frs (X.env :: X.outer) := fun {h o vs} ff e hdt hm => by
      obtain ⟨_, o', e', hnf⟩ := ff.mem hm
      cases e.symm.trans e'
      exact hnf _ hdt
    have nfr := out fl3.2.2.1 he3 hd3
    have nL : a ≠ X.env.locals := fun z => nfr (List.mem_filterMap.mpr ⟨X.env, List.mem_cons_self, by rw [e1, z]⟩)
    have nF : a ∉ X.fs := fun hm => let ⟨e, he, q⟩ := List.mem_filterMap.mp hm; nfr (List.mem_filterMap.mpr ⟨e, List.mem_cons_of_mem _ he, q⟩)
    have S3 := J3.suite he3 hd3 na nL nF
    have go : ∀ {hs' : List ExceptHandler} {l' : List (Value × (Addr → Value → Option Addr → TS))}, AsOk X n hs' l' → wAsAll X.K i Wo D l' cl dd u' G' →
        wpAny (model X.prog X.w) X.A (handleBy (.ref a) X.env hs') (SP X pins D) X.xe { s' with heap := h3 } := by
      intro hs' l' hk
      induction hk with
      | nil =>
        intro w
        refine wpAny_handleBy_nil ?_
        obtain ⟨k1, k2, k3, oe, vs, T, oT, tz, he, hz, hd, h1, hr⟩ := id fl3
        unfold PySem.passOn
        refine wpAny_bind (wpAny_field he hd h1 ?_)
        rw [if_neg (show ¬ ((Value.ref T == Value.none) = true) by simp)]
        have fin : wpAny (model X.prog X.w) X.A (setFlight (.ref a) X.env.frame) (fun _ s4 => wpAny (model X.prog X.w) X.A (throw (.ref a) : Sem Flow) (SP X pins D) X.xe s4) X.xe { s' with heap := h3 } := by
          rw [e1]
          refine HandSPX.setFlight_upZ fl3 fun h4 hh4 up4 => wpAny_throw (tk _ _ ?_)
          exact ⟨a, B, sI, pins, u', G', cl, dd, rfl, J, nb, (up.trans up3).trans up4, .inr (.inr (by rw [e0]; exact hh4)), na, os, ag, w⟩
        first
          | exact wpAny_bind (wpAny_pure (wpAny_bind fin))
          | exact wpAny_bind fin
      | @cons x c ts b₀ suite np q0 hds2 l2 hc hsu r ih =>
        intro w
        obtain ⟨b, hb1, yes, no⟩ := w
        refine wpAny_handleBy_cons (codeAny_handlers_test ?_) (by intro q; cases q)
        have LT : PySem.W.Looks (model X.prog X.w) h3 (typeOf (.ref a)) cl := fun A Q E s k q => wpAny_typeOf_ref (k _ _ he3) (by rw [hz3.1]; exact q)
        have LM := PySem.W.exm_one (M := model X.prog X.w) (J3.kIn) LT hb1
        have test : ∀ {Q : Value → Shared → Prop} {E : Value → Shared → Prop}, Q c { s' with heap := h3 } → wpAny (model X.prog X.w) (X.A.mark (some (.ref a))) (eval (.Name x np) X.env) Q E { s' with heap := h3 } := fun {Q E} q => by
          rcases hc with ⟨hg, hdbg, hm | ⟨hm, hv, hnn⟩⟩
          · exact ld_glob (X := X.suite a ((a, oe3) :: (X.pn ++ pins))) S3 hg hm q hdbg
          · exact ld_blt (X := X.suite a ((a, oe3) :: (X.pn ++ pins))) S3 hg hm hv q hnn hdbg
        refine test (LM.here ?_)
        cases b with
        | true =>
          refine codeAny_handlers_suite_as (HandSPX.lands_againZ fl3 fun h4 fl4 up4 => ?_)
          have J4 : Inv X pins u' G' { s' with heap := h4 } := J.landed nb fl4.1 ((up.trans up3).trans up4) os ag
          obtain ⟨oe4, vs4, he4, hz4, hd4⟩ := fl4.there
          have S4 := J4.suite he4 hd4 na nL nF
          refine store_ok (X := X.suite a ((a, oe4) :: (X.pn ++ pins))) (v := .ref a) S4 nd hi lc rfl (fun s5 S5 => ?_) (.inr hln)
          refine wpAny_mono ((hsu a oe4 cl dd (X.pn ++ pins) hz4 ⟨_, hd4⟩).run [] s5 _ G' _ S5 (yes rfl a na)) (fun f s6 hsp => ?_) (fun _ _ z => False.elim z)
          have close : ∀ {u6 : L2.St} {G6 : Hp} {Q : Shared → Prop}, Inv (X.suite a ((a, oe4) :: (X.pn ++ pins))) [] u6 G6 s6 → (∀ s7, Inv X pins (u6.set i none) G6 s7 → Q s7) →
              wpAny (model X.prog X.w) X.A (do bindName X.env n .none; unbindBehindTheSuite X.env n q0) (fun _ s7 => Q s7) X.xe s6 := fun {u6 G6 Q} S6 hq => gone_ok (S6.unsuite ok) nd hi hln hq
          cases f with
          | next => exact let ⟨u6, G6, S6, q6⟩ := hsp; close S6 fun s7 J7 => ⟨_, _, J7, q6⟩
          | brk => exact let ⟨u6, G6, S6, q6⟩ := hsp; close S6 fun s7 J7 => ⟨_, _, J7, q6⟩
          | cont => exact let ⟨u6, G6, S6, q6⟩ := hsp; close S6 fun s7 J7 => ⟨_, _, J7, q6⟩
          | ret z => exact let ⟨v6, u6, G6, S6, r6, q6⟩ := hsp; close S6 fun s7 J7 => ⟨_, _, _, J7, r6, q6⟩
        | false =>
          show wpAny _ X.A (handleBy (.ref a) X.env hds2) _ _ _
          exact ih (no rfl)
    exact go hh w
end
end K1
set_option Elab.async false
set_option linter.all false
set_option maxRecDepth 100000
set_option maxHeartbeats 2000000
/-! a lambda handed to a def that calls it in a try: what is raised is told of the very slots -/
namespace K1
open PySem PySem.Spec PyProof.Rows L2 LamX
/-- a def whose code object is known -/
structure FunC (K : PySem.W.Frag) (x qual : Str) (st : Stmt) (f : Addr) (fd : FuncData) (c : Addr) : Prop where
  ex : ∃ (oc : Value) (od : Option Addr) (kV doc pm : Value) (an : Option Addr) (ct : Value) (osl : Array (Option Value)),
    fd = PySem.W.fnOf x qual (defArgs st) (defBody st) (defScope st) .none kV doc pm an (.ref c) ct ∧ K.lookup f = some ⟨oc, od, .func fd, osl⟩ ∧ PySem.W.codeIn K (.ref c) qual = true
  kp : PySem.W.keepIn K (.ref f) = true
theorem FunC.toFun {K : PySem.W.Frag} {x qual : Str} {st : Stmt} {f c : Addr} {fd : FuncData} (F : FunC K x qual st f fd c) : L2.Fun K x qual st f fd :=
  let ⟨oc, od, kV, doc, pm, an, ct, osl, e, l, cc⟩ := F.ex
  ⟨⟨oc, od, kV, doc, pm, an, _, ct, osl, e, l, cc⟩, F.kp⟩
section
variable {P : Program} {w : World} {K : PySem.W.Frag} {mg : Str → Option Value} {base : Heap}
theorem FunC.ok {x qual : Str} {st : Stmt} {f c : Addr} {fd : FuncData} {N ps : List Str} {k : Nat} {sp : Sp} (F : FunC K x qual st f fd c) (S : FnScope N ps (defScope st)) (len : ∀ vs H Q E, sp vs H Q E → vs.length = ps.length)
    (body : ∀ (A : Around) (outer : List Env) (s : Shared) (H : Hp) (vs : List V) (Q : VK) (E : XK), Room k (A.deeper (envOfC qual (defScope st) s.heap.objs.size f (.ref c))) → sp vs H Q E →
      ∃ t, PSs (cxOf L2.CX0 P w K mg base N qual (defScope st) f (.ref c) A outer s H E).nox (defBody st) t ∧ t { nx := fun _ H' => Q .non H', rt := Q } (L2.start N vs) H) : FnOk P w K mg base L2.CX0 (k + 1) f fd ps sp := by
  obtain ⟨oc, od, kV, doc, pm, an, ct, osl, rfl, l, cc⟩ := F.ex
  exact fn_of l cc S len fun A outer s H vs Q E hr h => (body A outer s H vs Q E hr h).imp fun t ht => ⟨ht.1.nox, ht.2⟩
end
end K1
namespace LamX
open PySem L2 K1
/-! what is kept when a lambda is made -/
theorem ExtN.tup {H H' : Hp} (e : ExtN H H') {a : Addr} {xs : List V} (h : H a = some (.tup xs)) : H' a = some (.tup xs) := e _ _ h fun ps => by intro z; cases z
theorem ExtN.lst {H H' : Hp} (e : ExtN H H') {a : Addr} {xs : List V} (h : H a = some (.lst xs)) : H' a = some (.lst xs) := e _ _ h fun ps => by intro z; cases z
theorem ExtN.ins {H H' : Hp} (e : ExtN H H') {a C dx : Addr} {fs : List (Str × V)} (h : H a = some (.ins C dx fs)) : H' a = some (.ins C dx fs) := e _ _ h fun ps => by intro z; cases z
theorem ExtN.dk {H H' : Hp} (e : ExtN H H') {a : Addr} {kv : List (Key × V)} (h : H a = some (.dK kv)) : H' a = some (.dK kv) := e _ _ h fun ps => by intro z; cases z
theorem ExtN.seqT {K : PySem.W.Frag} {H H' : Hp} {a : Addr} {xs : List V} (e : ExtN H H') (h : SqT K H a xs) : SqT K H' a xs := by
  rcases h with (h | ⟨o, h⟩) | h
  · exact .inl (.inl (e.tup h))
  · exact .inl (.inr ⟨o, e _ _ h fun ps => by intro z; cases z⟩)
  · exact .inr h
theorem ExtN.seqL {K : PySem.W.Frag} {H H' : Hp} {a : Addr} {xs : List V} (e : ExtN H H') (h : SqL K H a xs) : SqL K H' a xs := by
  rcases h with (h | ⟨o, h⟩) | h
  · exact .inl (.inl (e.lst h))
  · exact .inl (.inr ⟨o, e _ _ h fun ps => by intro z; cases z⟩)
  · exact .inr h
theorem ExtN.pen {H H' : Hp} (e : ExtN H H') {d c : Addr} {n : Nat} (h : PenAt H d c n) : PenAt H' d c n := by
  obtain ⟨ns, a, l, h1, h2, h3⟩ := h
  exact ⟨ns, a, l, e.dk h1, e.lst h2, h3⟩
end LamX
namespace K1
open PySem PySem.Spec PyProof.Rows L2 LamX
/-- all but d and the tables is kept -/
def KeptN (d : Addr) (H H' : Hp) : Prop := ∀ b o, H b = some o → b ≠ d → (∀ ps, o ≠ .tbl ps) → H' b = some o
theorem KeptN.refl (d : Addr) (H : Hp) : KeptN d H H := fun _ _ e _ _ => e
theorem KeptN.trans {d : Addr} {H H1 H2 : Hp} (a : KeptN d H H1) (b : KeptN d H1 H2) : KeptN d H H2 := fun c o e n m => b c o (a c o e n m) n m
theorem KeptN.seqL {K : PySem.W.Frag} {d : Addr} {H H' : Hp} {a : Addr} {xs : List V} (e : KeptN d H H') (n : a ≠ d) (h : SqL K H a xs) : SqL K H' a xs := by
  rcases h with (h | ⟨o, h⟩) | h
  · exact .inl (.inl (e _ _ h n fun ps => by intro z; cases z))
  · exact .inl (.inr ⟨o, e _ _ h n fun ps => by intro z; cases z⟩)
  · exact .inr h
theorem KeptN.seqT {K : PySem.W.Frag} {d : Addr} {H H' : Hp} {a : Addr} {xs : List V} (e : KeptN d H H') (n : a ≠ d) (h : SqT K H a xs) : SqT K H' a xs := by
  rcases h with (h | ⟨o, h⟩) | h
  · exact .inl (.inl (e _ _ h n fun ps => by intro z; cases z))
  · exact .inl (.inr ⟨o, e _ _ h n fun ps => by intro z; cases z⟩)
  · exact .inr h
theorem KeptN.upd {d D : Addr} {H0 H : Hp} {o : HO} (k : KeptN d H0 H) (h : H0 D = none) : KeptN d H0 (upd H D o) := fun b u e nb m => by
  rw [upd_ne (ne_of_none e h)]; exact k b u e nb m
theorem KeptN.tup {d : Addr} {H H' : Hp} {a : Addr} {xs : List V} (e : KeptN d H H') (n : a ≠ d) (h : H a = some (.tup xs)) : H' a = some (.tup xs) := e _ _ h n fun ps => by intro z; cases z
theorem KeptN.lst {d : Addr} {H H' : Hp} {a : Addr} {xs : List V} (e : KeptN d H H') (n : a ≠ d) (h : H a = some (.lst xs)) : H' a = some (.lst xs) := e _ _ h n fun ps => by intro z; cases z
theorem KeptN.ins {d : Addr} {H H' : Hp} {a C dx : Addr} {fs : List (Str × V)} (e : KeptN d H H') (n : a ≠ d) (h : H a = some (.ins C dx fs)) : H' a = some (.ins C dx fs) := e _ _ h n fun ps => by intro z; cases z
theorem Kept.n {d : Addr} {H H' : Hp} (k : Kept d H H') : KeptN d H H' := fun b o e n _ => k b o e n
end K1
namespace LamX
open PySem L2 K1
theorem ExtN.n {d : Addr} {H H' : Hp} (k : ExtN H H') : KeptN d H H' := fun b o e _ m => k b o e m
theorem Tabs.kept {T : List (Addr × Str)} {d : Addr} {kv : List (Key × V)} {H H' : Hp} (t : Tabs T H) (hd : H d = some (.dK kv)) (k : Kept d H H') : Tabs T H' := fun p hp => by
  obtain ⟨ps, h1, h2, h3⟩ := t p hp
  refine ⟨ps, k _ _ h1 (ne_of h1 hd (by intro z; cases z)), h2, fun pos cv hc => ?_⟩
  obtain ⟨c, e1, e2⟩ := h3 pos cv hc
  exact ⟨c, e1, k _ _ e2 (ne_of e2 hd (by unfold CodeO; intro z; cases z))⟩
theorem Tabs.same {T : List (Addr × Str)} {H H' : Hp} (t : Tabs T H) (s : L2.Same H H') : Tabs T H' := t.ext s
theorem Tabs.updL {T : List (Addr × Str)} {H : Hp} {L : Addr} {xs ys : List V} (t : Tabs T H) (h : H L = some (.lst xs)) : Tabs T (upd H L (.lst ys)) := fun p hp => by
  obtain ⟨ps, h1, h2, h3⟩ := t p hp
  refine ⟨ps, by rw [upd_ne (ne_of h1 h (by intro z; cases z))]; exact h1, h2, fun pos cv hc => ?_⟩
  obtain ⟨c, e1, e2⟩ := h3 pos cv hc
  exact ⟨c, e1, by rw [upd_ne (ne_of e2 h (by unfold CodeO; intro z; cases z))]; exact e2⟩
theorem Tabs.pen {T : List (Addr × Str)} {d c : Addr} {n : Nat} {H H' : Hp} (t : Tabs T H) (p : PenAt H d c n) (k : Kept d H H') : Tabs T H' := by
  obtain ⟨ns, x, l, hd, _⟩ := p
  exact t.kept hd k
end LamX
namespace K1
open PySem PySem.Spec PyProof.Rows L2 LamX
section
variable {X : Cx} {pins : List (Addr × Obj)} {σ : L2.St} {H : Hp} {s : Shared}
/-- the call of the handed lambda; what it raises is taken at the slots as they are -/
theorem pe_actS {GX : CXT} {GE : XK} {GN : List Str} {gq : Str} {gs : Scope} {g f c' : Addr} {gcd pm ctv : Value} {params : Arguments} {body : Expr} {scope : Scope} {k i : Nat} {a : Str} {pn : List (Addr × Obj)} {xe : Value → Shared → Prop} {W : WX} {tb : XK → TE} {p1 p2 : Pos}
    (I : Inv X pins σ H s) (L : LamS X.env.scope scope) (hf : s.heap.get? f = some (PySem.W.kla_obj "<lambda>" (X.env.qual ++ "<lambda>") params body scope (cloFrom X.env.cells scope.names []) pm c' ctv)) (hfn : H f = none) (hfr : f ∉ frs X.stack)
    (bind0 : bindArgs (PySem.W.kla_fn "<lambda>" (X.env.qual ++ "<lambda>") params body scope (cloFrom X.env.cells scope.names []) pm (.ref c') ctv) ⟨[], []⟩ = pure [])
    (tk : Takes ((cxOf GX X.prog X.w X.K X.mg X.base GN gq gs g gcd X.A X.stack s H GE).tr pn xe) W) (hr : Room (k + 1) (X.A.deeper (envOfC gq gs s.heap.objs.size g gcd)))
    (inner : ∀ (A : Around) (outer : List Env) (s2 : Shared) (H2 : Hp) (E : XK), Room k (A.deeper (lamEnv X scope s2.heap.objs.size f c')) → PE (lamCx X A outer s2 H2 E scope f c') body (tb E))
    (hN : GN[i]? = some a) (hv : Vis gs a) (hd : (a == ("__debug__" : Str)) = false := by decide) (hcd : (a == ("__classdict__" : Str)) = false := by decide) :
    PE ((cxOf GX X.prog X.w X.K X.mg X.base GN gq gs g gcd X.A X.stack s H GE).tr pn xe) (.Call (.Name a p1) [] [] p2)
      (fun τ G Q => τ[i]? = some (some (.ref f)) ∧ G c' = some (CodeO c' (X.env.qual ++ "<lambda>")) ∧ tb (fun cls dd G' => W cls dd τ G') σ G Q) := by
  constructor
  intro pz sz τ G Q J ⟨at_, co, go⟩
  refine wpAny_Call_Name_kw (thn ((pe_var (pos := p1) (i := i) hN hv hd hcd).run pz sz τ G (fun v G1 => v = .ref f ∧ G1 = G) J ⟨.ref f, at_, rfl, rfl⟩) ?_)
  rintro u s1 ⟨v, G1, J1, rel, rfl, rfl⟩
  cases (show u = Value.ref f from rel)
  have held : s1.heap.get? f = some (PySem.W.kla_obj "<lambda>" (X.env.qual ++ "<lambda>") params body scope (cloFrom X.env.cells scope.names []) pm c' ctv) :=
    J1.base.keep f _ hf hfn hfr fun z => absurd (show f ∈ ([] : List Addr) from z) (by simp)
  refine PySem.W.callWith_F0 ⟨_, _, _, _, held⟩ ?_
  have base : Un (frs X.stack) [] H G1 s.heap s1.heap := J1.base
  obtain ⟨⟨oc, vs, t, k1, k2, k3⟩, -, -⟩ := J1.hok c' _ co
  have ran : codeAny (model X.prog X.w) (X.A.deeper (envOfC gq gs s.heap.objs.size g gcd)) (.call (.ref f) ⟨[], []⟩)
      (CR (L2.CX X.prog X.w) (envOfC gq gs s.heap.objs.size g gcd :: X.stack) X.prog X.w G1 s1 Q (fun cls dd G' => W cls dd τ G')) s1 := by
    refine PySem.W.kla_callFunE hr.depth held rfl L.co L.gen rfl ⟨c', oc, vs, t, rfl, k1, k2, k3⟩ ?_
    rw [bind0]
    refine wpAny_pure (wpAny_newFunctionEnv (fun y hy => (L.own y hy).2) (fun y hy => absurd hy (by simp)) (fun h₁ ns bt => ?_) L.kind)
    have up : ∀ b o, s1.heap.get? b = some o → h₁.get? b = some o := fun b o e =>
      bt.extBut b o (Nat.ne_of_lt (Heap.lt_size e)) (Heap.get?_push_of_some _ e)
    refine ⟨J1.nolimit.fresh _ bt, PySem.W.kla_codeExpr ?_⟩
    have start : Inv (lamCx X (X.A.deeper (envOfC gq gs s.heap.objs.size g gcd)) (envOfC gq gs s.heap.objs.size g gcd :: X.stack) s1 G1 (fun cls dd G' => W cls dd τ G') scope f c') [] σ G1
        { s1 with heap := h₁, toks := s1.toks + ([] : List (Str × Value)).length } := lam_start2 I L J1.env0 hr.hd base ns up
    refine wpAny_mono ((inner _ _ s1 G1 _ (hr.deeper _)).run [] _ _ G1 Q start go) ?_ fun e s' q => q
    rintro v s' ⟨w', G2, J2, rv, q⟩
    exact ⟨w', G2, J2.os, J2.bare, J2.base, J2.hok, rv, q⟩
  refine wpAny_call (codeAny_mono ran fun r s' q => ?_)
  match r, q with
  | .error e, q => exact passAt tk τ pz G1 s1 e s' J1 q
  | .ok (.ret u), q => exact J1.after q
end
/-- what the def g, which calls what it got, makes of the lambda's reading -/
def Gives (X : Cx) (GN : List Str) (x : Str) (gs : Scope) (g : Addr) (gcd : Value) (gb : List Stmt) (a q : Str) (TT : (XK → Hp → VK → Prop) → Hp → VK → Prop) : Prop :=
  ∀ (f c' : Addr) (s : Shared) (H : Hp) (Q : VK) (tl : XK → Hp → VK → Prop),
    (∀ (W : WX) (pn : List (Addr × Obj)) (xe : Value → Shared → Prop) (p1 p2 : Pos), Takes ((cxOf L2.CX0 X.prog X.w X.K X.mg X.base GN x gs g gcd X.A X.stack s H L2.E0).tr pn xe) W →
      PE ((cxOf L2.CX0 X.prog X.w X.K X.mg X.base GN x gs g gcd X.A X.stack s H L2.E0).tr pn xe) (.Call (.Name a p1) [] [] p2) (fun τ G Q => τ[0]? = some (some (.ref f)) ∧ G c' = some (CodeO c' q) ∧ tl (fun cls dd G' => W cls dd τ G') G Q)) →
    H c' = some (CodeO c' q) → TT tl H Q → ∃ t, PSs (cxOf L2.CX0 X.prog X.w X.K X.mg X.base GN x gs g gcd X.A X.stack s H L2.E0).nox gb t ∧ t { nx := fun _ G => Q .non G, rt := Q } (L2.start GN [.ref f]) H
section
variable {X : Cx}
/-- g(lambda: body) -/
theorem pe_lamS {T : List (Addr × Str)} {TT : (XK → Hp → VK → Prop) → Hp → VK → Prop} {x a : Str} {g c P : Addr} {k : Nat} {st : Stmt} {fd : FuncData} {GN : List Str} {params : Arguments} {body : Expr} {scope : Scope} {t : XK → TE} {p lp pos : Pos}
    (D : Df X.K X.mg x st [a] g fd) (S : FnScope GN [a] (defScope st)) (at0 : GN[0]? = some a) (va : Vis (defScope st) a) (gl : Gl X x)
    (gives : ∀ gcd, Gives X GN x (defScope st) g gcd (defBody st) a (X.env.qual ++ "<lambda>") TT) (B : TabB X.base X.mg c P) (code : X.env.code = .ref c) (mem : (P, X.env.qual ++ "<lambda>") ∈ T) (uni : ∀ p ∈ T, p.1 = P → p.2 = X.env.qual ++ "<lambda>")
    (hr : Room (k + 2) X.A) (L : LamS X.env.scope scope) (inner : ∀ (A : Around) (outer : List Env) (s2 : Shared) (H2 : Hp) (E : XK) (f c' : Addr), Room k (A.deeper (lamEnv X scope s2.heap.objs.size f c')) → PE (lamCx X A outer s2 H2 E scope f c') body (t E))
    (d0 : defaultsOf params X.env = ([], []) := by rfl) (bind0 : ∀ (q : Str) (cl : List (Str × Addr)) (pm cv ctv : Value), bindArgs (PySem.W.kla_fn "<lambda>" q params body scope cl pm cv ctv) ⟨[], []⟩ = pure [] := by intros; rfl)
    (hdb : (x == ("__debug__" : Str)) = false := by decide) (hd : (a == ("__debug__" : Str)) = false := by decide) (hcd : (a == ("__classdict__" : Str)) = false := by decide) :
    PE X (.Call (.Name x p) [.Lambda params body scope lp] [] pos) (tLam T TT t) := by
  obtain ⟨oc, od, kV, doc, pm, an, gcd, ct, osl, rfl, lk, cg⟩ := D.F.ex
  constructor
  intro pins s σ H Q I ⟨hT, h⟩
  refine wpAny_Call_Name_kw (ld_glob I gl D.g ?_ hdb)
  refine PySem.W.callWith_K (h₀ := X.base) I.ok.mod.kin D.F.kp ?_ (by rfl) (by rfl)
  show wpAny _ _ (spliced ((false, eval (.Lambda params body scope lp) X.env) :: backTo pos (starEach [] X.env))) _ _ s
  refine Calls.spliced_cons (lam_make2 I B code mem uni hT d0 (L.has I.ok) ?_)
  intro f c' pm' ctv H1 s' I1 eN T1 hf hfn hfr hco
  refine Calls.spliced_nil ⟨I1.kIn, wpAny_call (codeAny_mono ?_ fun r s2 (q : CR L2.CX0 X.stack X.prog X.w H1 s' Q L2.E0 r s2) => ?_)⟩
  · refine run_ofS (N := GN) (ps := [a]) (us := [.ref f]) (vs := [.ref f]) lk cg S hr I1.env0 (D.b s' [.ref f] I1.kIn rfl) (.cons rfl .nil) rfl fun hr' => ?_
    obtain ⟨t', ht', hq'⟩ := gives gcd f c' s' H1 Q (fun E G Q' => t E σ G Q')
      (fun W pn xe p1 p2 tk => pe_actS (i := 0) I1 L hf hfn hfr (bind0 _ _ _ _ _) tk hr' (fun A outer s2 H2 E hr2 => inner A outer s2 H2 E f c' hr2) at0 va hd hcd) hco (h H1 eN T1)
    exact ⟨t', ht'.nox, hq'⟩
  · match r, q with
    | .ok (.ret u), q => exact I1.after q
end
/-- try: a() / except C as e: .. / .. ; return None -/
def TTf (K : PySem.W.Frag) (i : Nat) (l : List (Value × (Addr → Value → Option Addr → TS))) : (XK → Hp → VK → Prop) → Hp → VK → Prop := fun tl H Q =>
  ∀ f : Addr, tl (fun cls dd G => wAsAll K i (fun _ _ _ _ => False) { nx := fun _ G' => Q .non G', rt := Q } l cls dd [some (.ref f), none] G) H fun _ G => Q .non G
theorem fault_gives {X : Cx} {a n x q : Str} {gs : Scope} {g : Addr} {gcd : Value} {h0 : ExceptHandler} {hds : List ExceptHandler} {l : List (Value × (Addr → Value → Option Addr → TS))} {j : Nat} {p1 p2 p3 p4 p5 p6 : Pos} (nd : [a, n].Nodup) (hln : gs.names.lookup n = some .local)
    (hh : ∀ (s : Shared) (H : Hp), AsOk (cxOf L2.CX0 X.prog X.w X.K X.mg X.base [a, n] x gs g gcd X.A X.stack s H L2.E0).nox n (h0 :: hds) l) :
    Gives X [a, n] x gs g gcd [.Try [.Expr (.Call (.Name a p1) [] [] p2) p3] (h0 :: hds) [] [] p4, .Return (some (.Constant .none j p5)) p6] a q (TTf X.K 1 l) := by
  intro f c' s H Q tl act hc h
  refine ⟨_, pss_cons (ps_try_asAll (X := (cxOf L2.CX0 X.prog X.w X.K X.mg X.base [a, n] x gs g gcd X.A X.stack s H L2.E0).nox) (i := 1)
    (tb := fun W D τ G => τ[0]? = some (some (.ref f)) ∧ G c' = some (CodeO c' q) ∧ tl (fun cls dd G' => W cls dd τ G') G fun _ G' => D.nx τ G') rfl rfl nd rfl hln LamX.takes0 (fun W pn xe tk _ => ?_) (hh s H)) (pss_one (ps_ret pe_non)), ?_⟩
  · constructor
    intro pins s' τ G D I go
    exact (pss_one (ps_expr (act W pn xe p1 p2 tk))).run pins s' τ G D I go
  · exact ⟨rfl, hc, h f⟩
end K1
set_option Elab.async false
set_option linter.all false
set_option maxRecDepth 100000
/-! a clause's suite that tells a tag and the error's fields -/
namespace K1
open PySem L2
def Has (gs : List (Str × V)) : List Str → List V → Prop
  | [], [] => True
  | f :: r, v :: vs => gs.lookup f = some v ∧ Has gs r vs
  | _, _ => False
def tFs (i : Nat) (C a : Addr) (cl : Value) (dd : Option Addr) : List Str → TA
  | [] => tNil
  | f :: r => tCons (tXf a cl dd C f (tVar i)) (tFs i C a cl dd r)
/-- return (tag, e.f, ..) -/
def suiteT (i : Nat) (C : Addr) (tag : Str) (fs : List Str) : Addr → Value → Option Addr → TS := fun a cl dd => tRet (tTup (tCons (tC (.str tag)) (tFs i C a cl dd fs)))
theorem tFs_read {i : Nat} {C a d : Addr} {gs : List (Str × V)} {σ : St} {G : Hp} (hσ : σ[i]? = some (some (.ref a))) (hd : G d = some (.xd gs)) : ∀ (fs : List Str) (vs : List V), Has gs fs vs → ∀ {Q : List V → Hp → Prop}, Q vs G → tFs i C a (.ref C) (some d) fs σ G Q
  | [], [], _, _, k => k
  | [], _ :: _, h, _, _ => h.elim
  | _ :: _, [], h, _, _ => h.elim
  | f :: r, v :: vs, h, Q, k => by
    obtain ⟨h1, h2⟩ := h
    exact ⟨_, hσ, rfl, rfl, d, gs, v, rfl, hd, h1, tFs_read hσ hd r vs h2 k⟩
theorem suiteT_read {i : Nat} {C a d : Addr} {tag : Str} {fs : List Str} {vs : List V} {gs : List (Str × V)} {D : Ends} {σ : St} {G : Hp} (hσ : σ[i]? = some (some (.ref a))) (hd : G d = some (.xd gs)) (h : Has gs fs vs) (hl : vs.length ≤ 10)
    (k : ∀ p, G p = none → D.rt (.ref p) (upd G p (.tup (.str tag :: vs)))) : suiteT i C tag fs a (.ref C) (some d) D σ G :=
  tFs_read hσ hd fs vs h ⟨by simp; exact Nat.le_of_lt (small1000 (by omega)), k⟩
end K1
set_option Elab.async false
set_option linter.all false
set_option maxRecDepth 100000
namespace K1
open PySem L2 LamX
theorem RowsH.snoc {H : Hp} {as : List Addr} {rs : List (List Str)} {a : Addr} {r : List Str} (h : RowsH H as rs) (e : H a = some (.tup (r.map V.str))) : RowsH H (as ++ [a]) (rs ++ [r]) := by
  refine ⟨by simp [h.1], fun i b q e1 e2 => ?_⟩
  by_cases hi : i < as.length
  · rw [List.getElem?_append_left hi] at e1
    rw [List.getElem?_append_left (by rw [← h.1]; exact hi)] at e2
    exact h.2 i b q e1 e2
  · rw [List.getElem?_append_right (by omega)] at e1
    rw [List.getElem?_append_right (by rw [← h.1]; omega), ← h.1] at e2
    cases hj : i - as.length with
    | zero =>
      rw [hj] at e1 e2
      simp at e1 e2
      subst e1; subst e2
      exact e
    | succ j => rw [hj] at e1; simp at e1
def spHMade (K : PySem.W.Frag) (C : Addr) : Sp := fun vs H Q _ => ∃ (a b : Addr) (ws : List Str) (as : List Addr) (rs : List (List Int)), vs = [.ref a, .ref b] ∧ SqL K H a (ws.map V.str) ∧ Dd ws ∧ H b = some (.lst (as.map V.ref)) ∧ RowsI H as rs ∧ rs.length ≤ 10 ∧ (∀ r ∈ rs, r.length ≤ 10 ∧ Ix ws.length r) ∧
  ∀ (x : Addr) (G : Hp), H x = none → Same H G → HistAt K C G x (rs.map (nm ws)) → Q (.ref x) G
section
variable {P : Program} {w : World} {K : PySem.W.Frag} {mg : Str → Option Value} {base : Heap}
abbrev pHMade : List Str := ["_law_deeds", "_law_stretches"]
abbrev nHMade : List Str := ["_law_deeds", "_law_stretches", "_law_row"]
theorem scHMade : FnScope nHMade pHMade (defScope sHMade) := ⟨rfl, rfl, rfl, by decide +kernel, rfl, by decide +kernel, by decide +kernel⟩
theorem ok_hmade {C f fN fI : Addr} {fd fdN fdI : FuncData} (D : Df K mg "_law_history_made" sHMade pHMade f fd) (DN : Df K mg "_law_named" sNamed pNamed fN fdN) (M : Th2 K mg C) (T : Bt mg) (Mk' : Mk K C fI) (GI : FnOk P w K mg base CX0 2 fI fdI pHI (spHI K C)) (bI : Binds K fdI pHI []) : FnOk P w K mg base CX0 4 f fd pHMade (spHMade K C) := by
  have GN : FnOk P w K mg base CX0 1 fN fdN pNamed (spNamed K) := ok_named DN T
  refine D.F.ok scHMade (fun vs H Q E h => ?_) (fun cdv A outer s H vs Q E hr h => ?_)
  · obtain ⟨a, b, ws, as, rs, rfl, _⟩ := h
    rfl
  · obtain ⟨a, b, ws, as, rs, rfl, ha, dd, hb, hR, hl, hrw, k⟩ := h
    have hr1 : Room 1 _ := hr.mono (by decide)
    refine ⟨_, pss_one (ps_ret (pe_make Mk' GI hr rfl M.mgC bI .nil pass0 (pa_cons (pe_lc (own := [("_law_row", 2)]) (g := gName 2) (by rfl) scHMade.nd (pi_list (pv 1))
        (blkOk_by (own := [("_law_row", 2)]) (N := nHMade) (sc := defScope sHMade) (by decide +kernel)) (fun _ _ _ _ _ => pg_name (i := 2) scHMade.nd rfl (Or.inl rfl)) (fun _ _ _ _ _ => pts_nil)
        (fun _ _ _ _ _ => pe_call GN hr1 rfl DN.g DN.F.kp DN.b .nil pass0 (pa_cons (pv 0) (pa_cons (pv 2) pa_nil)))) pa_nil))), ?_⟩
    have hbl := SqL.of (K := K) hb
    refine ⟨_, rfl, b, rfl, ⟨_, hbl⟩, fun D1 hD1 => ?_⟩
    refine lc_list (K := K) (a := b) (xs := as.map V.ref) (fun i H' => ∃ qs : List Addr, Same H H' ∧ H' D1 = some (.lst (qs.map V.ref)) ∧ RowsH H' qs ((rs.take i).map (nm ws))) ?_ ?_ ?_ ?_
    · exact ⟨[], same_upd hD1, upd_same, ⟨rfl, fun i a r e => by simp at e⟩⟩
    · rintro i H' _ ⟨qs, sm, _⟩
      exact sm.seq hbl
    · rintro i y H1 hi ⟨qs, sm, hD, hQ⟩
      rw [List.getElem?_map] at hi
      obtain ⟨q, eq, rfl⟩ := Option.map_eq_some_iff.mp hi
      have hil : i < rs.length := by rw [← hR.1]; exact (List.getElem?_eq_some_iff.mp eq).1
      have er : rs[i]? = some rs[i] := List.getElem?_eq_getElem hil
      have hrow := sm _ _ (hR.2 i q _ eq er)
      have hh := hrw _ (List.getElem_mem hil)
      refine ⟨rfl, _, rfl, _, rfl, a, q, ws, rs[i], rfl, sm.seq ha, SqT.of hrow, hh.2, by omega, fun p G hp sG eG => ?_⟩
      have hDG := sG _ _ hD
      have npD : p ≠ D1 := (ne_of_none hD hp).symm
      refine ⟨_, hDG, ?_, qs ++ [p], ?_, ?_, ?_⟩
      · have := hQ.1
        rw [List.length_map, this, List.length_map, List.length_take]; exact small1000 (by omega)
      · exact fun b u e => by rw [upd_ne (ne_of_none e hD1)]; exact sG _ _ (sm b u e)
      · rw [upd_same, List.map_append]; rfl
      · have e : rs.take (i + 1) = rs.take i ++ [rs[i]] := by rw [List.take_add_one, er]; rfl
        rw [e, List.map_append]
        have h1 := (hQ.same sG).snoc (r := nm ws rs[i]) eG
        refine ⟨h1.1, fun j b r e1 e2 => ?_⟩
        have h2 := h1.2 j b r e1 e2
        rw [upd_ne (ne_of h2 hDG (by intro z; cases z))]
        exact h2
    · rintro H1 ⟨qs, sm, hD, hQ⟩
      rw [List.length_map, hR.1, List.take_length] at hQ
      intro x dx hx hdx ndx
      have pre := made_pre (C := C) hx hdx
      refine ⟨x, dx, D1, qs, rs.map (nm ws), rfl, upd_same, SqL.of (pre _ _ hD), hQ.same pre, by rw [List.length_map]; omega, fun r hr => ?_, fun G kG hG => ⟨rfl, k x G (sm.free hx) (sm.trans (made_same hx hdx kG)) hG⟩⟩
      obtain ⟨r0, hr0, rfl⟩ := List.mem_map.mp hr
      have hh := hrw _ hr0
      exact ⟨by rw [nm_len]; omega, fun z hz => (dd.wd z (nm_mem hh.2 z hz)).word⟩
/-! the faults -/
abbrev pFault : List Str := ["_law_ask"]
abbrev nFault : List Str := ["_law_ask", "e"]
theorem scFault : FnScope nFault pFault (defScope sFault) := ⟨rfl, rfl, rfl, by decide +kernel, rfl, by decide +kernel, by decide +kernel⟩
/-- the three clauses -/
def clauses (CN CD CK : Addr) : List (Value × (Addr → Value → Option Addr → TS)) :=
  [(.ref CN, suiteT 1 CN "number" ["number"]), (.ref CD, suiteT 1 CD "deeds" ["index"]), (.ref CK, suiteT 1 CK "kind" ["kind"])]
theorem gives_fault {X : Cx} {g CN CD CK fN fD fK : Addr} {fdN fdD fdK : FuncData} {gcd : Value} {q : Str} (ON : OBadNumber X.K X.mg CN fN fdN) (OD : OBadDeeds X.K X.mg CD fD fdD) (OK : OBadKind X.K X.mg CK fK fdK) :
    Gives X nFault "_law_fault" (defScope sFault) g gcd (defBody sFault) "_law_ask" q (TTf X.K 1 (clauses CN CD CK)) := by
  refine fault_gives scFault.nd rfl fun s H => ?_
  exact (.cons (x := "BadNumber") ⟨rfl, by decide, .inl ON.g⟩ (fun a oe cl dd pn hz hf => pss_one (ps_ret (pe_tup (pa_cons pe_str (pa_cons (pe_xf ON.xf (ON.no "number" (by simp)) hz hf (pv 1)) pa_nil)))))
    (.cons (x := "BadDeeds") ⟨rfl, by decide, .inl OD.g⟩ (fun a oe cl dd pn hz hf => pss_one (ps_ret (pe_tup (pa_cons pe_str (pa_cons (pe_xf OD.xf (OD.no "index" (by simp)) hz hf (pv 1)) pa_nil)))))
    (.cons (x := "BadKind") ⟨rfl, by decide, .inl OK.g⟩ (fun a oe cl dd pn hz hf => pss_one (ps_ret (pe_tup (pa_cons pe_str (pa_cons (pe_xf OK.xf (OK.no "kind" (by simp)) hz hf (pv 1)) pa_nil))))) .nil)))
end
end K1
set_option Elab.async false
set_option linter.all false
set_option maxRecDepth 100000
namespace K1
open PySem L2 LamX
theorem okD_pre {ws : List Str} {ds : List V} {i : Nat} (nd : ws.Nodup) (hw : ∀ z ∈ ws, wordB (.str z) = true) (hi : i < ws.length) (h : ∀ k, k ≤ i → ds[k]? = (ws.map V.str)[k]?) : okD ds i = true := by
  have e : ds.getD i .non = .str ws[i] := by
    rw [List.getD_eq_getElem?_getD, h i (Nat.le_refl _), List.getElem?_map, List.getElem?_eq_getElem hi]; rfl
  have et : ds.take i = (ws.take i).map V.str := by
    rw [List.map_take]
    refine List.ext_getElem? fun k => ?_
    rw [List.getElem?_take, List.getElem?_take]
    by_cases hk : k < i
    · rw [if_pos hk, if_pos hk, h k (by omega)]
    · rw [if_neg hk, if_neg hk]
  unfold okD
  rw [e, hw _ (List.getElem_mem hi), et, inV_str (nodup_take nd (List.getElem?_eq_getElem hi))]
  rfl
theorem first_put {ws : List Str} {v : V} {j : Nat} (nd : ws.Nodup) (hw : ∀ z ∈ ws, wordB (.str z) = true) (hj : j ≤ ws.length) (hv : wordB v = false) :
    firstBad ((ws.map V.str).take j ++ [v] ++ (ws.map V.str).drop j).length (okD ((ws.map V.str).take j ++ [v] ++ (ws.map V.str).drop j)) = some j := by
  have lt : ((ws.map V.str).take j).length = j := by simp; omega
  refine first_some (by simp; omega) (fun i hi => okD_pre nd hw (by omega) fun k hk => ?_) ?_
  · rw [List.append_assoc, List.getElem?_append_left (by omega), List.getElem?_take, if_pos (by omega)]
  · unfold okD
    have e : ((ws.map V.str).take j ++ [v] ++ (ws.map V.str).drop j).getD j .non = v := by
      rw [List.getD_eq_getElem?_getD, List.append_assoc, List.getElem?_append_right (by omega), lt, Nat.sub_self]; rfl
    rw [e, hv]; rfl
theorem first_dup {ws : List Str} {z : Str} (nd : ws.Nodup) (hw : ∀ z ∈ ws, wordB (.str z) = true) (hz : z ∈ ws) : firstBad (ws.map V.str ++ [V.str z]).length (okD (ws.map V.str ++ [V.str z])) = some ws.length := by
  refine first_some (by simp) (fun i hi => okD_pre nd hw hi fun k hk => by rw [List.getElem?_append_left (by simp; omega)]) ?_
  unfold okD
  have e : (ws.map V.str ++ [V.str z]).getD ws.length .non = .str z := by
    rw [List.getD_eq_getElem?_getD, List.getElem?_append_right (by simp), List.length_map, Nat.sub_self]; rfl
  have et : (ws.map V.str ++ [V.str z]).take ws.length = ws.map V.str := by
    have h := List.take_left' (l₁ := ws.map V.str) (l₂ := [V.str z]) (i := ws.length) (by simp)
    exact h
  rw [e, et, hw z hz, inV_strs, decide_eq_true hz]
  rfl
def rPen : Sp := fun _ _ _ _ => True
/-- an odd limit -/
theorem odd_ok {K : PySem.W.Frag} {v : V} {t : Addr} (h : v ∈ [V.int (-1), V.int (10 ^ Int.toNat 30 + 1), V.bl true, V.str "3", V.ref t, V.int (-10 ^ Int.toNat 40)]) :
    ∃ dv : PyData, dv.canLay0 = true ∧ dv.depth ≤ 3 ∧ numB v = false ∧ ∀ H : Hp, H t = some (.tup [.int 1]) → Dp K H v dv ∧ ∃ ty, Th K H v ty := by
  simp only [List.mem_cons, List.not_mem_nil, or_false] at h
  rcases h with rfl | rfl | rfl | rfl | rfl | rfl
  · exact ⟨.int (-1), rfl, by decide, by decide, fun H e => ⟨.int _, _, .int _⟩⟩
  · exact ⟨.int (10 ^ Int.toNat 30 + 1), rfl, Nat.zero_le _, by decide +kernel, fun H e => ⟨.int _, _, .int _⟩⟩
  · exact ⟨.bool true, rfl, by decide, rfl, fun H e => ⟨.bl _, _, .bl _⟩⟩
  · exact ⟨.str "3", by decide +kernel, by decide, rfl, fun H e => ⟨.str _, _, .str _ (by decide +kernel)⟩⟩
  · exact ⟨.tuple [.int 1], by decide +kernel, by decide, rfl, fun H e => ⟨.tup (SqT.of e) (.cons (.int 1) .nil), _, .tup e⟩⟩
  · exact ⟨.int (-10 ^ Int.toNat 40), rfl, Nat.zero_le _, by decide +kernel, fun H e => ⟨.int _, _, .int _⟩⟩
/-- no deed -/
theorem bad_ok {K : PySem.W.Frag} {v : V} {t : Addr} {x : V} (h : v ∈ [V.str "A", V.str "", V.str "0a", V.str "a b", V.str "abcdefghijklm", V.int 3, V.non, V.ref t]) :
    wordB v = false ∧ ∀ H : Hp, H t = some (.tup [x]) → ∃ ty, Th K H v ty := by
  simp only [List.mem_cons, List.not_mem_nil, or_false] at h
  rcases h with rfl | rfl | rfl | rfl | rfl | rfl | rfl | rfl
  · exact ⟨by decide +kernel, fun H e => ⟨_, .str _ (by decide +kernel)⟩⟩
  · exact ⟨by decide +kernel, fun H e => ⟨_, .str _ (by decide +kernel)⟩⟩
  · exact ⟨by decide +kernel, fun H e => ⟨_, .str _ (by decide +kernel)⟩⟩
  · exact ⟨by decide +kernel, fun H e => ⟨_, .str _ (by decide +kernel)⟩⟩
  · exact ⟨by decide +kernel, fun H e => ⟨_, .str _ (by decide +kernel)⟩⟩
  · exact ⟨rfl, fun H e => ⟨_, .int _⟩⟩
  · exact ⟨rfl, fun H e => ⟨_, .non⟩⟩
  · exact ⟨rfl, fun H e => ⟨_, .tup e⟩⟩
def mBig (m : V) : Prop := m = .non ∨ m = .int 0 ∨ m = .int (10 ^ Int.toNat 30)
theorem mBig.num {m : V} (h : mBig m) : numB m = true := by
  rcases h with rfl | rfl | rfl
  · rfl
  · rfl
  · decide +kernel
theorem mBig.th {K : PySem.W.Frag} {H : Hp} {m : V} (h : mBig m) : ∃ t, Th K H m t := by
  rcases h with rfl | rfl | rfl
  · exact ⟨_, .non⟩
  · exact ⟨_, .int _⟩
  · exact ⟨_, .int _⟩
abbrev qRef : Str := "_law_refused.<locals>.<lambda>"
def spRef (K : PySem.W.Frag) (T : List (Addr × Str)) : Sp := fun vs H Q _ => ∃ (d c a : Addr) (n : Nat) (m : V) (ws : List Str), vs = [.ref d, .ref a, m] ∧ PenAt H d c n ∧ n ≤ 900000 ∧ SqL K H a (ws.map V.str) ∧ a ≠ d ∧ Dd ws ∧ mBig m ∧ Tabs T H ∧
  ∀ H', PenAt H' d c (n + 10) → KeptN d H H' → Tabs T H' → Q (.bl true) H'
/-- the errors' classes, told apart -/
structure Ee (K : PySem.W.Frag) (CN CD CK : Addr) : Prop where
  nn : PySem.W.exmOne K (.ref CN) (.ref CN) = some true
  dn : PySem.W.exmOne K (.ref CD) (.ref CN) = some false
  dd : PySem.W.exmOne K (.ref CD) (.ref CD) = some true
  kn : PySem.W.exmOne K (.ref CK) (.ref CN) = some false
  kd : PySem.W.exmOne K (.ref CK) (.ref CD) = some false
  kk : PySem.W.exmOne K (.ref CK) (.ref CK) = some true
section
variable {P : Program} {w : World} {K : PySem.W.Frag} {mg : Str → Option Value} {base : Heap}
abbrev pRef : List Str := ["_law_pen_here", "_law_deeds", "_law_most"]
abbrev nRef : List Str := ["_law_pen_here", "_law_deeds", "_law_most", "_law_odd", "_law_owed", "_law_at", "_law_twice"]
theorem scRef : FnScope nRef pRef (defScope sRef) := ⟨rfl, rfl, rfl, by decide +kernel, rfl, by decide +kernel, by decide +kernel⟩
end
end K1
set_option Elab.async false
set_option linter.all false
set_option maxRecDepth 100000
namespace K1
open PySem L2 LamX
abbrev WF (K : PySem.W.Frag) (CN CD CK f : Addr) (Q : VK) : XK := fun cls dd G => wAsAll K 1 (fun _ _ _ _ => False) { nx := fun _ G' => Q .non G', rt := Q } (clauses CN CD CK) cls dd [some (.ref f), none] G
theorem t_num {K : PySem.W.Frag} {C CN CD CK : Addr} (EE : Ee K CN CD CK) {σ : St} {H1 : Hp} {Q : VK} {i j : Nat} {v : V} {b : Addr} (hi : σ[i]? = some (some v)) (hj : σ[j]? = some (some (.ref b))) (hn : numB v = false) (hth : ∀ G, Same H1 G → ∃ ty, Th K G v ty)
    (k : ∀ p G, Same H1 G → H1 p = none → G p = some (.tup [.str "number", v]) → Q (.ref p) G) (f : Addr) : tMakeS C (spTI K C CN CD) [] (fun _ => WF K CN CD CK f Q) (tCons (tVar i) (tCons (tVar j) tNil)) σ H1 (fun _ G => Q .non G) := by
  refine ⟨v, hi, .ref b, hj, fun x dx hx hdx ne => ?_⟩
  have pre := made_pre (C := C) hx hdx
  obtain ⟨ty, th⟩ := hth _ pre
  refine ⟨x, dx, b, v, ty, rfl, upd_same, th, ?_⟩
  rw [if_neg (by rw [hn]; simp)]
  intro d G sG hd eG
  exact ⟨true, EE.nn, fun _ a ha => suiteT_read (vs := [v]) rfl eG ⟨rfl, trivial⟩ (Nat.le_of_ble_eq_true rfl) fun p hp => k p _ ((pre.trans sG).trans (same_upd hp)) ((pre.trans sG).free hp) upd_same, fun q => nomatch q⟩
theorem t_deeds {K : PySem.W.Frag} {C CN CD CK : Addr} (EE : Ee K CN CD CK) {σ : St} {H1 : Hp} {Q : VK} {i j n : Nat} {v : V} {b : Addr} {ds : List V} (hi : σ[i]? = some (some v)) (hj : σ[j]? = some (some (.ref b))) (hn : numB v = true) (hth : ∀ G, Same H1 G → ∃ ty, Th K G v ty)
    (hb : ∀ G, Same H1 G → SqL K G b ds) (hds : ∀ G, Same H1 G → ∀ v ∈ ds, ∃ ty, Th K G v ty) (hl : ds.length ≤ 100) (hf : firstBad ds.length (okD ds) = some n)
    (k : ∀ p G, Same H1 G → H1 p = none → G p = some (.tup [.str "deeds", .int (n : Int)]) → Q (.ref p) G) (f : Addr) : tMakeS C (spTI K C CN CD) [] (fun _ => WF K CN CD CK f Q) (tCons (tVar i) (tCons (tVar j) tNil)) σ H1 (fun _ G => Q .non G) := by
  refine ⟨v, hi, .ref b, hj, fun x dx hx hdx ne => ?_⟩
  have pre := made_pre (C := C) hx hdx
  obtain ⟨ty, th⟩ := hth _ pre
  refine ⟨x, dx, b, v, ty, rfl, upd_same, th, ?_⟩
  rw [if_pos hn]
  refine .inl ⟨ds, hb _ pre, hds _ pre, hl, ?_⟩
  rw [hf]
  intro d G sG hd eG
  exact ⟨false, EE.dn, (fun q => nomatch q), fun _ => ⟨true, EE.dd, fun _ a ha => suiteT_read (vs := [.int (n : Int)]) rfl eG ⟨rfl, trivial⟩ (Nat.le_of_ble_eq_true rfl) fun p hp => k p _ ((pre.trans sG).trans (same_upd hp)) ((pre.trans sG).free hp) upd_same, fun q => nomatch q⟩⟩
theorem Same.n {H H' : Hp} (s : Same H H') : ExtN H H' := fun b o e _ => s b o e
theorem tagD {K : PySem.W.Frag} {G : Hp} {p : Addr} {z : Str} {v : V} {dv : PyData} (h : G p = some (.tup [.str z, v])) (d : Dp K G v dv) : Dp K G (.ref p) (.tuple [.str z, dv]) := .tup (SqT.of h) (.cons (.str z) (.cons d .nil))
theorem tagS {z : Str} {dv : PyData} (hz : PyData.strOk z = true) (hl : dv.canLay0 = true) (hd : dv.depth ≤ 3) : SeqAt.shaped (.tuple [.str z, dv]) = true := by
  refine shaped_of ?_ ?_
  · simp [PyData.canLay0, PyData.canLayAll0, hz, hl]
  · simp only [PyData.depth, PyData.depthAll]; omega
theorem tagE {z : Str} {dv : PyData} (hz : PyData.strOk z = true) (hl : dv.canLay0 = true) : PyData.eqv (.tuple [.str z, dv]) (.tuple [.str z, dv]) = true := by
  refine PySem.SeqAt.eqv_refl _ ?_
  simp [PyData.canLay0, PyData.canLayAll0, hz, hl]
section
variable {P : Program} {w : World} {K : PySem.W.Frag} {mg : Str → Option Value} {base : Heap}
theorem ok_ref {C CN CD CK f fD fP fF fI fN fd' fK c pT : Addr} {fd fdD fdP fdF fdI fdN fdd fdK : FuncData} {T : List (Addr × Str)} (F : FunC K "_law_refused" "_law_refused" sRef f fd c) (DD : Df K mg "_law_draw" sDraw pDraw fD fdD) (DP : Df K mg "_law_pick" sPick pPick fP fdP)
    (DF : Df K mg "_law_fault" sFault pFault fF fdF) (M : Tt K mg C) (TB2 : Bt2 mg) (Mk' : Mk K C fI) (GI : FnOk P w K mg base (L2.CX P w) 4 fI fdI pTI (spTI K C CN CD)) (bI : Binds K fdI pTI []) (ON : OBadNumber K mg CN fN fdN) (OD : OBadDeeds K mg CD fd' fdd) (OK : OBadKind K mg CK fK fdK) (EE : Ee K CN CD CK)
    (B : TabB base mg c pT) (mem : (pT, qRef) ∈ T) (uni : ∀ p ∈ T, p.1 = pT → p.2 = qRef) : FnOk P w K mg base CX0 8 f fd pRef (spRef K T) := by
  have TB : Bt mg := TB2.toBt
  have GD : FnOk P w K mg base CX0 1 fD fdD pDraw spDraw := ok_draw DD.F TB
  have GP : FnOk P w K mg base CX0 2 fP fdP pPick (spPickL K) := ok_pickL DP DD TB
  refine F.ok scRef (fun vs H Q E h => ?_) (fun A outer s H vs Q E hr h => ?_)
  · obtain ⟨d, c, a, n, m, ws, rfl, _⟩ := h
    rfl
  · obtain ⟨d, cc, a, n, m, ws, rfl, hp, hn, ha, nad, dd, hm, hT, k⟩ := h
    have hr1 : Room 1 _ := hr.mono (by decide)
    have hr2 : Room 2 _ := hr.mono (by decide)
    have lam : ∀ {X : Cx} {i j : Nat} , True := fun {_ _ _} => trivial
    refine ⟨_, pss_cons (ps_set (i := 3) scRef.nd rfl (Or.inr rfl) (pe_call GP hr2 rfl DP.g DP.F.kp DP.b .nil pass0 (pa_cons (pv 0) (pa_cons (pe_lst (pa_cons (pe_un un_neg pe_int) (pa_cons (pe_op op_add (pe_op op_pow pe_int pe_int) pe_int) (pa_cons pe_bl (pa_cons pe_str (pa_cons (pe_tup (pa_cons pe_int pa_nil)) (pa_cons (pe_un un_neg (pe_op op_pow pe_int pe_int)) pa_nil))))))) pa_nil))))
      (pss_cons (ps_set (i := 4) scRef.nd rfl (Or.inr rfl) (pe_callTy (r := rLi K) call_list_of (by rfl) TB.list PyProof.Rows.boot_list (pa_cons (pv 1) pa_nil)))
      (pss_cons (ps_set (i := 5) scRef.nd rfl (Or.inl rfl) (pe_call GD hr1 rfl DD.g DD.F.kp DD.b .nil pass0 (pa_cons (pv 0) (pa_cons (pe_op op_add (pe_callB call_len (by rfl) TB.len PySem.boot_len (pa_cons (pv 4) pa_nil)) pe_int) pa_nil))))
      (pss_cons (ps_expr (pe_bm PySem.F.plainAttrs_list PySem.F.slot_list_insert PySem.F.type_list_insert mt_insert (pv 4) (pa_cons (pv 5) (pa_cons (pe_call GP hr2 rfl DP.g DP.F.kp DP.b .nil pass0 (pa_cons (pv 0) (pa_cons
        (pe_lst (pa_cons pe_str (pa_cons pe_str (pa_cons pe_str (pa_cons pe_str (pa_cons pe_str (pa_cons pe_int (pa_cons pe_non (pa_cons (pe_tup (pa_cons (pe_ix (r := rIxL K) ix_list (pv 1) pe_int (fun _ _ => rfl)) pa_nil)) pa_nil))))))))) pa_nil))) pa_nil))))
      (pss_cons (ps_if (pt_cmpR (op_neD hr.units) (pe_lamS (T := T) (k := 5) DF scFault rfl (Or.inl rfl) rfl (fun gcd => gives_fault ON OD OK) B rfl mem uni hr (lamS_by (by show lamSB (defScope sRef) _ = true; decide +kernel))
          (fun A outer s2 H2 E f c' hr5 => pe_makeS Mk' GI hr5 rfl M.mgC bI .nil (fun σ => passAt (takes_of rfl rfl rfl rfl) σ) (pa_cons (pv 3) (pa_cons (pv 4) pa_nil)))) (pe_tup (pa_cons pe_str (pa_cons (pv 3) pa_nil))) (nomark _)) (pss_one (ps_ret pe_bl)) pss_nil)
      (pss_cons (ps_if (pt_cmpR (op_neD hr.units) (pe_lamS (T := T) (k := 5) DF scFault rfl (Or.inl rfl) rfl (fun gcd => gives_fault ON OD OK) B rfl mem uni hr (lamS_by (by show lamSB (defScope sRef) _ = true; decide +kernel))
          (fun A outer s2 H2 E f c' hr5 => pe_makeS Mk' GI hr5 rfl M.mgC bI .nil (fun σ => passAt (takes_of rfl rfl rfl rfl) σ) (pa_cons (pv 2) (pa_cons (pv 4) pa_nil)))) (pe_tup (pa_cons pe_str (pa_cons (pv 5) pa_nil))) (nomark _)) (pss_one (ps_ret pe_bl)) pss_nil)
      (pss_cons (ps_set (i := 6) scRef.nd rfl (Or.inr rfl) (pe_op op_cat (pe_callTy (r := rLi K) call_list_of (by rfl) TB.list PyProof.Rows.boot_list (pa_cons (pv 1) pa_nil))
          (pe_lst (pa_cons (pe_ix (r := rIxL K) ix_list (pv 1) (pe_call GD hr1 rfl DD.g DD.F.kp DD.b .nil pass0 (pa_cons (pv 0) (pa_cons (pe_callB call_len (by rfl) TB.len PySem.boot_len (pa_cons (pv 1) pa_nil)) pa_nil))) (fun _ _ => rfl)) pa_nil))))
      (pss_one (ps_ret (pe_cmpR (op_eqD hr.units) (pe_lamS (T := T) (k := 5) DF scFault rfl (Or.inl rfl) rfl (fun gcd => gives_fault ON OD OK) B rfl mem uni hr (lamS_by (by show lamSB (defScope sRef) _ = true; decide +kernel))
          (fun A outer s2 H2 E f c' hr5 => pe_makeS Mk' GI hr5 rfl M.mgC bI .nil (fun σ => passAt (takes_of rfl rfl rfl rfl) σ) (pa_cons (pv 2) (pa_cons (pv 6) pa_nil)))) (pe_tup (pa_cons pe_str (pa_cons (pe_callB call_len (by rfl) TB.len PySem.boot_len (pa_cons (pv 1) pa_nil)) pa_nil))) (nomark _)))))))))), ?_⟩
    have pw : ∀ {i j : Int}, True := fun {_ _} => trivial
    have wl : 1 ≤ ws.length ∧ ws.length ≤ 6 := dd.len
    refine ⟨_, rfl, 1, rfl, _, _, rfl, rfl, ⟨by decide, by decide, by decide⟩, _, _, rfl, rfl, Nat.le_of_ble_eq_true rfl, fun t ht => ⟨_, _, rfl, rfl, ⟨by decide, by decide, by decide⟩, _, rfl, Nat.le_of_ble_eq_true rfl, fun q hq => ?_⟩⟩
    have st := same_upd (o := .tup [V.int 1]) ht
    have ntd : t ≠ d := (hp.ne ht).1
    have nqd : q ≠ d := ((hp.same st).ne hq).1
    have et0 : upd H t (.tup [V.int 1]) t = some (.tup [V.int 1]) := upd_same
    generalize upd H t (.tup [V.int 1]) = H0 at st hq et0 ⊢
    have sq := same_upd (o := .lst [V.int (-1), V.int (10 ^ Int.toNat 30 + 1), V.bl true, V.str "3", V.ref t, V.int (-10 ^ Int.toNat 40)]) hq
    refine ⟨d, cc, q, n, _, rfl, hp.same (st.trans sq), by omega, nqd, SqL.of upd_same, Nat.le_of_ble_eq_true rfl, Nat.le_of_ble_eq_true rfl, fun v H1 hv p1 k1 => ?_⟩
    have kk1 : KeptN d H H1 := (Kept.same (st.trans sq)).n.trans k1.n
    have T1 : Tabs T H1 := by
      obtain ⟨ns, x, l, hd, _⟩ := hp
      exact (hT.same (st.trans sq)).kept (st.trans sq _ _ hd) k1
    have et1 : H1 t = some (.tup [V.int 1]) := k1 _ _ (sq _ _ et0) ntd
    have ha1 : SqL K H1 a (ws.map V.str) := k1.seq nad ((st.trans sq).seq ha)
    clear et0 sq st
    generalize hq0 : upd H0 q _ = Hq at k1
    clear hq0 k1 hq
    -- owed
    refine ⟨_, rfl, a, _, rfl, .inl ha1, fun L hL => ?_⟩
    have sL := same_upd (o := .lst (ws.map V.str)) hL
    have nLd : L ≠ d := (p1.ne hL).1
    have eL : upd H1 L (.lst (ws.map V.str)) L = some (.lst (ws.map V.str)) := upd_same
    generalize upd H1 L (.lst (ws.map V.str)) = H2 at sL eL ⊢
    refine ⟨_, rfl, _, rfl, _, ws.length, rfl, .inl ⟨_, SqL.of eL, (List.length_map _).symm⟩, _, _, rfl, rfl, d, cc, n + 1, _, rfl, p1.same sL, by omega, by omega, by omega, fun r H3 r0 r1 p3 k3 => ?_⟩
    obtain ⟨j, rfl⟩ : ∃ j : Nat, r = (j : Int) := ⟨r.toNat, by omega⟩
    have hj : j ≤ ws.length := by omega
    have T3 : Tabs T H3 := by
      obtain ⟨ns, x, l, hd, _⟩ := p1.same sL
      exact (T1.same sL).kept hd k3
    have kk3 : KeptN d H H3 := kk1.trans ((Kept.same sL).n.trans k3.n)
    have eL3 := k3 _ _ eL nLd
    have et3 := k3 _ _ (sL _ _ et1) ntd
    have ha3 : SqL K H3 a (ws.map V.str) := k3.seq nad (sL.seq ha1)
    have e0 : (ws.map V.str)[0]? = some (.str ws[0]) := by rw [List.getElem?_map, List.getElem?_eq_getElem (by omega)]; rfl
    -- the insert
    refine ⟨_, rfl, .inl ⟨rfl, _, SqL.of eL3⟩, _, rfl, _, rfl, _, rfl, a, _, 0, .str ws[0], rfl, rfl, ha3, atI_nat e0, Nat.le_of_ble_eq_true rfl, fun t2 ht2 => ⟨Nat.le_of_ble_eq_true rfl, fun q2 hq2 => ?_⟩⟩
    have st2 := same_upd (o := .tup [V.str ws[0]]) ht2
    have nt2d : t2 ≠ d := (p3.ne ht2).1
    have nq2d : q2 ≠ d := ((p3.same st2).ne hq2).1
    have et2 : upd H3 t2 (.tup [V.str ws[0]]) t2 = some (.tup [V.str ws[0]]) := upd_same
    generalize upd H3 t2 (.tup [V.str ws[0]]) = H30 at st2 hq2 et2 ⊢
    have sq2 := fun o => same_upd (o := o) hq2
    refine ⟨d, cc, q2, n + 2, _, rfl, p3.same (st2.trans (sq2 _)), by omega, nq2d, SqL.of upd_same, Nat.le_of_ble_eq_true rfl, Nat.le_of_ble_eq_true rfl, fun y H4 hy p4 k4 => ?_⟩
    have s34 := st2.trans (sq2 (.lst [V.str "A", V.str "", V.str "0a", V.str "a b", V.str "abcdefghijklm", V.int 3, V.non, V.ref t2]))
    have T4 : Tabs T H4 := by
      obtain ⟨ns, x, l, hd, _⟩ := p3.same s34
      exact (T3.same s34).kept hd k4
    have kk4 : KeptN d H H4 := kk3.trans ((Kept.same s34).n.trans k4.n)
    have eL4 := k4 _ _ (s34 _ _ eL3) nLd
    have et4 := k4 _ _ (s34 _ _ et3) ntd
    have et24 := k4 _ _ (sq2 _ _ _ et2) nt2d
    have ha4 : SqL K H4 a (ws.map V.str) := k4.seq nad (s34.seq ha3)
    refine ⟨L, _, (j : Int), y, rfl, rfl, eL4, by rw [List.length_map]; exact small1000 (by omega), by omega, by omega, ?_⟩
    rw [Int.toNat_natCast]
    obtain ⟨dv, cl, dp, nn, odd⟩ := odd_ok (K := K) hv
    obtain ⟨wy, thy⟩ := bad_ok (K := K) (x := V.str ws[0]) hy
    have p5 : PenAt (upd H4 L (.lst ((ws.map V.str).take j ++ [y] ++ (ws.map V.str).drop j))) d cc (n + 3) := p4.upd nLd (fun z => by
      obtain ⟨ns, x, l, _, hc, _⟩ := p1
      rw [z, hc] at hL; cases hL)
    have kL : ∀ b o, H4 b = some o → b ≠ L → upd H4 L (.lst ((ws.map V.str).take j ++ [y] ++ (ws.map V.str).drop j)) b = some o := fun b o e n => by rw [upd_ne n]; exact e
    have eL5 : upd H4 L (.lst ((ws.map V.str).take j ++ [y] ++ (ws.map V.str).drop j)) L = some (.lst ((ws.map V.str).take j ++ [y] ++ (ws.map V.str).drop j)) := upd_same
    have g4 : KeptN d H1 H4 := (Kept.same sL).n.trans (k3.n.trans ((Kept.same s34).n.trans k4.n))
    have g5 : KeptN d H1 (upd H4 L (.lst ((ws.map V.str).take j ++ [y] ++ (ws.map V.str).drop j))) := g4.upd hL
    have T5 : Tabs T (upd H4 L (.lst ((ws.map V.str).take j ++ [y] ++ (ws.map V.str).drop j))) := T4.updL eL4
    have et5 := kL _ _ et4 (ne_of et4 eL4 (by intro z; cases z))
    have et25 := kL _ _ et24 (ne_of et24 eL4 (by intro z; cases z))
    clear eL4 et4 et24 k4 kL T4 p4 g4 hq2 s34 sq2 k3 T3 p3 et3 ha3 eL3 ha4 kk4 kk3
    have hwd : ∀ z ∈ ws, wordB (.str z) = true := fun z hz => (dd.wd z hz).word
    have hfb := first_put (v := y) dd.nd hwd hj wy
    have hds : ∀ u ∈ (ws.map V.str).take j ++ [y] ++ (ws.map V.str).drop j, u = y ∨ ∃ z ∈ ws, u = .str z := fun u hu => by
      rcases List.mem_append.mp hu with hu | hu
      · rcases List.mem_append.mp hu with hu | hu
        · obtain ⟨z, hz, rfl⟩ := List.mem_map.mp (List.mem_of_mem_take hu)
          exact .inr ⟨z, hz, rfl⟩
        · exact .inl (List.mem_singleton.mp hu)
      · obtain ⟨z, hz, rfl⟩ := List.mem_map.mp (List.mem_of_mem_drop hu)
        exact .inr ⟨z, hz, rfl⟩
    have hlen : ((ws.map V.str).take j ++ [y] ++ (ws.map V.str).drop j).length ≤ 100 := by simp; omega
    generalize (ws.map V.str).take j ++ [y] ++ (ws.map V.str).drop j = ds at *
    generalize upd H4 L (.lst ds) = H5 at p5 g5 T5 et5 et25 eL5 ⊢
    -- the first fault
    refine ⟨T5, fun H6 e6 T6 f1 => t_num EE (i := 3) (j := 4) rfl rfl nn (fun G sG => (odd G (sG _ _ (e6.tup et5))).2) (fun u1 G1 s1 hu1 eu1 => ?_) f1⟩
    refine ⟨_, rfl, Nat.le_of_ble_eq_true rfl, fun u2 hu2 => ?_⟩
    have s2 := same_upd (o := .tup [V.str "number", v]) hu2
    have etG := s2 _ _ (s1 _ _ (e6.tup et5))
    refine ⟨_, _, tagD (s2 _ _ eu1) (odd _ etG).1, tagD upd_same (odd _ etG).1, tagS (by decide +kernel) cl dp, tagS (by decide +kernel) cl dp, _, rfl, ?_⟩
    rw [tagE (by decide +kernel) cl]
    refine iteF ?_
    have e7 : ExtN H5 (upd G1 u2 (.tup [V.str "number", v])) := e6.trans (Same.n (s1.trans s2))
    have T7 := T6.same (s1.trans s2)
    generalize upd G1 u2 (.tup [V.str "number", v]) = H7 at e7 T7 ⊢
    clear s2 hu2 eu1 hu1 s1 T6 e6
    have eL7 := e7.lst eL5
    have et27 := e7.tup et25
    have p7 := e7.pen p5
    have g7 := g5.trans e7.n
    -- the second one
    refine ⟨T7, fun H8 e8 T8 f2 => t_deeds EE (i := 2) (j := 4) (ds := ds) rfl rfl hm.num (fun G sG => hm.th) (fun G sG => SqL.of (sG _ _ (e8.lst eL7))) (fun G sG u hu => ?_) hlen hfb (fun u1 G1 s1 hu1 eu1 => ?_) f2⟩
    · rcases hds u hu with rfl | ⟨z, hz, rfl⟩
      · exact thy G (sG _ _ (e8.tup et27))
      · exact ⟨_, .str z (dd.wd z hz).short⟩
    refine ⟨_, rfl, Nat.le_of_ble_eq_true rfl, fun u2 hu2 => ?_⟩
    have s2 := same_upd (o := .tup [V.str "deeds", .int (j : Int)]) hu2
    refine ⟨_, _, tagD (s2 _ _ eu1) (.int _), tagD upd_same (.int _), tagS (dv := .int (j : Int)) (by decide +kernel) rfl (Nat.zero_le _), tagS (dv := .int (j : Int)) (by decide +kernel) rfl (Nat.zero_le _), _, rfl, ?_⟩
    rw [tagE (dv := .int (j : Int)) (by decide +kernel) rfl]
    refine iteF ?_
    have e9 : ExtN H7 (upd G1 u2 (.tup [V.str "deeds", .int (j : Int)])) := e8.trans (Same.n (s1.trans s2))
    have T9 := T8.same (s1.trans s2)
    generalize upd G1 u2 (.tup [V.str "deeds", .int (j : Int)]) = H9 at e9 T9 ⊢
    clear s2 hu2 eu1 hu1 s1 T8 e8
    have p9 := e9.pen p7
    have g9 := g7.trans e9.n
    have ha9 : SqL K H9 a (ws.map V.str) := g9.seqL nad ha1
    -- twice
    refine ⟨_, rfl, a, _, rfl, .inl ha9, fun L2 hL2 => ?_⟩
    have sL2 := same_upd (o := .lst (ws.map V.str)) hL2
    have nL2d : L2 ≠ d := (p9.ne hL2).1
    have eL2 : upd H9 L2 (.lst (ws.map V.str)) L2 = some (.lst (ws.map V.str)) := upd_same
    generalize upd H9 L2 (.lst (ws.map V.str)) = H10 at sL2 eL2 ⊢
    refine ⟨_, rfl, _, rfl, _, rfl, _, ws.length, rfl, .inl ⟨_, sL2.seq ha9, (List.length_map _).symm⟩, d, cc, n + 3, _, rfl, p9.same sL2, by omega, by omega, by omega, fun r H11 r0 r1 p11 k11 => ?_⟩
    have T11 : Tabs T H11 := (T9.same sL2).pen (p9.same sL2) k11
    have g11 := g9.trans ((Kept.same sL2).n.trans k11.n)
    have ha11 : SqL K H11 a (ws.map V.str) := g11.seqL nad ha1
    have eL211 := k11 _ _ eL2 nL2d
    have hrm : ws.getD r.toNat "" ∈ ws := by
      have hl : r.toNat < ws.length := by omega
      rw [List.getD_eq_getElem?_getD, List.getElem?_eq_getElem hl]
      exact List.getElem_mem hl
    refine ⟨a, _, r, _, rfl, rfl, ha11, at_deed r0 r1, Nat.le_of_ble_eq_true rfl, fun q3 hq3 => ?_⟩
    generalize ws.getD r.toNat "" = wz at hrm ⊢
    have s3 := same_upd (o := .lst [V.str wz]) hq3
    refine ⟨L2, q3, _, _, rfl, rfl, s3 _ _ eL211, upd_same, by simp; exact Nat.le_of_lt (small1000 (by omega)), fun q4 hq4 => ?_⟩
    have s4 := same_upd (o := .lst (ws.map V.str ++ [V.str wz])) hq4
    have T12 := (T11.same s3).same s4
    have p12 := (p11.same s3).same s4
    have g12 := g11.trans ((Kept.same (d := d) (s3.trans s4)).n)
    have eq4 : upd (upd H11 q3 (.lst [V.str wz])) q4 (.lst (ws.map V.str ++ [V.str wz])) q4 = some (.lst (ws.map V.str ++ [V.str wz])) := upd_same
    generalize upd (upd H11 q3 (.lst [V.str wz])) q4 (.lst (ws.map V.str ++ [V.str wz])) = H12 at T12 p12 g12 eq4 ⊢
    have hdup := first_dup dd.nd hwd hrm
    -- the third one
    refine ⟨T12, fun H13 e13 T13 f3 => t_deeds EE (i := 2) (j := 6) (ds := ws.map V.str ++ [V.str wz]) rfl rfl hm.num (fun G sG => hm.th) (fun G sG => SqL.of (sG _ _ (e13.lst eq4))) (fun G sG u hu => ?_) (by simp; omega) hdup (fun u1 G1 s1 hu1 eu1 => ?_) f3⟩
    · rcases List.mem_append.mp hu with hu | hu
      · obtain ⟨z, hz, rfl⟩ := List.mem_map.mp hu
        exact ⟨_, .str z (dd.wd z hz).short⟩
      · rw [List.mem_singleton.mp hu]
        exact ⟨_, .str wz (dd.wd wz hrm).short⟩
    have g13 := (g12.trans e13.n).trans (Kept.same (d := d) s1).n
    refine ⟨_, rfl, _, ws.length, rfl, .inl ⟨_, g13.seqL nad ha1, (List.length_map _).symm⟩, Nat.le_of_ble_eq_true rfl, fun u2 hu2 => ?_⟩
    have s2 := same_upd (o := .tup [V.str "deeds", .int (ws.length : Int)]) hu2
    refine ⟨_, _, tagD (s2 _ _ eu1) (.int _), tagD upd_same (.int _), tagS (dv := .int (ws.length : Int)) (by decide +kernel) rfl (Nat.zero_le _), tagS (dv := .int (ws.length : Int)) (by decide +kernel) rfl (Nat.zero_le _), ?_⟩
    rw [tagE (dv := .int (ws.length : Int)) (by decide +kernel) rfl]
    exact k _ (((e13.pen p12).same (s1.trans s2)).mono (by omega)) (kk1.trans (g13.trans (Kept.same s2).n)) (T13.same (s1.trans s2))
end
end K1
set_option Elab.async false
set_option linter.all false
set_option maxRecDepth 100000
namespace K1
open PySem L2 LamX
abbrev sLaw : Stmt := top 39
def forBody : Stmt → List Stmt
  | .For _ _ b _ _ => b
  | _ => []
abbrev lawBody : List Stmt := forBody (stOf sLaw 1)
abbrev qLaw : Str := "law.<locals>.<lambda>"
theorem seqT_pen {K : PySem.W.Frag} {d : Addr} {kv : List (Key × V)} {H H' : Hp} {a : Addr} {xs : List V} (h : SqT K H a xs) (hd : H d = some (.dK kv)) (e : KeptN d H H') : SqT K H' a xs := by
  rcases h with (h | ⟨o, h⟩) | h
  · exact .inl (.inl (e.tup (ne_of h hd (by intro z; cases z)) h))
  · exact .inl (.inr ⟨o, e _ _ h (ne_of h hd (by intro z; cases z)) fun ps => by intro z; cases z⟩)
  · exact .inr h
theorem seqL_pen {K : PySem.W.Frag} {d : Addr} {kv : List (Key × V)} {H H' : Hp} {a : Addr} {xs : List V} (h : SqL K H a xs) (hd : H d = some (.dK kv)) (e : KeptN d H H') : SqL K H' a xs := by
  rcases h with (h | ⟨o, h⟩) | h
  · exact .inl (.inl (e.lst (ne_of h hd (by intro z; cases z)) h))
  · exact .inl (.inr ⟨o, e _ _ h (ne_of h hd (by intro z; cases z)) fun ps => by intro z; cases z⟩)
  · exact .inr h
/-- a turn: the pen, the deeds, the rhythm, the timing, the tables -/
structure Tn (K : PySem.W.Frag) (C : Addr) (T : List (Addr × Str)) (H : Hp) (d c : Addr) (n : Nat) (dl rh x : Addr) (ws : List Str) (m : V) (ks : List Int) : Prop where
  pen : PenAt H d c n
  hdl : H dl = some (.lst (ws.map V.str))
  hrh : RhAt K H rh m ks
  tim : TimAt K C H x m ((nm ws ks).map V.str)
  tab : Tabs T H
theorem Tn.go {K : PySem.W.Frag} {C : Addr} {T : List (Addr × Str)} {H H' : Hp} {d c : Addr} {n n' : Nat} {dl rh x : Addr} {ws : List Str} {m : V} {ks : List Int} (t : Tn K C T H d c n dl rh x ws m ks) (k : KeptN d H H') (p : PenAt H' d c n') (b : Tabs T H') : Tn K C T H' d c n' dl rh x ws m ks := by
  obtain ⟨hp, h1, ⟨q, h2, h3⟩, ⟨dx, o, h4, h5⟩, _⟩ := t
  obtain ⟨_, _, _, hd, _⟩ := hp
  have ne : ∀ {a : Addr} {u : HO}, H a = some u → (∀ kv, u ≠ .dK kv) → a ≠ d := fun e n z => by rw [z, hd] at e; cases e; exact n _ rfl
  exact ⟨p, k.lst (ne h1 (fun _ z => by cases z)) h1, ⟨q, k.tup (ne h2 (fun _ z => by cases z)) h2, seqT_pen h3 hd k⟩, ⟨dx, o, k.ins (ne h4 (fun _ z => by cases z)) h4, seqT_pen h5 hd k⟩, b⟩
theorem Tn.same {K : PySem.W.Frag} {C : Addr} {T : List (Addr × Str)} {H H' : Hp} {d c : Addr} {n : Nat} {dl rh x : Addr} {ws : List Str} {m : V} {ks : List Int} (t : Tn K C T H d c n dl rh x ws m ks) (s : Same H H') : Tn K C T H' d c n dl rh x ws m ks := t.go (Kept.same s).n (t.pen.same s) (t.tab.same s)
theorem Tn.kept {K : PySem.W.Frag} {C : Addr} {T : List (Addr × Str)} {H H' : Hp} {d c : Addr} {n n' : Nat} {dl rh x : Addr} {ws : List Str} {m : V} {ks : List Int} (t : Tn K C T H d c n dl rh x ws m ks) (k : Kept d H H') (p : PenAt H' d c n') : Tn K C T H' d c n' dl rh x ws m ks := t.go k.n p (t.tab.pen t.pen k)
theorem Tn.n1 {K : PySem.W.Frag} {C : Addr} {T : List (Addr × Str)} {H : Hp} {d c : Addr} {n : Nat} {dl rh x : Addr} {ws : List Str} {m : V} {ks : List Int} (t : Tn K C T H d c n dl rh x ws m ks) {a : Addr} {u : HO} (e : H a = some u) (n : ∀ kv, u ≠ .dK kv) : a ≠ d := by
  obtain ⟨_, _, _, hd, _⟩ := t.pen
  intro z
  rw [z, hd] at e; cases e; exact n _ rfl
/-- what the law calls -/
structure Fs (P : Program) (w : World) (K : PySem.W.Frag) (mg : Str → Option Value) (base : Heap) (C C2 CN CD CK : Addr) (T : List (Addr × Str)) : Prop where
  T2 : Bt2 mg
  B : Bk K mg
  M : Tt K mg C
  M2 : Th2 K mg C2
  mt : PySem.W.mroIn K C (.type "tuple") = some false
  pen : ∃ f fd, mg "_law_pen" = some (.ref f) ∧ PySem.W.keepIn K (.ref f) = true ∧ Binds K fd ["_law_script"] [] ∧ FnOk P w K mg base CX0 1 f fd ["_law_script"] (spPen K)
  draw : ∃ f fd, mg "_law_draw" = some (.ref f) ∧ PySem.W.keepIn K (.ref f) = true ∧ Binds K fd pDraw [] ∧ FnOk P w K mg base CX0 1 f fd pDraw spDraw
  pick : ∃ f fd, mg "_law_pick" = some (.ref f) ∧ PySem.W.keepIn K (.ref f) = true ∧ Binds K fd pPick [] ∧ FnOk P w K mg base CX0 2 f fd pPick (spPickL K)
  words : ∃ f fd, mg "_law_words" = some (.ref f) ∧ PySem.W.keepIn K (.ref f) = true ∧ Binds K fd pDraw [] ∧ FnOk P w K mg base CX0 3 f fd pDraw (spWords K)
  timing : ∃ f fd, mg "_law_timing" = some (.ref f) ∧ PySem.W.keepIn K (.ref f) = true ∧ Binds K fd pTim [] ∧ FnOk P w K mg base CX0 3 f fd pTim (spTim K)
  tmade : ∃ f fd, mg "_law_timing_made" = some (.ref f) ∧ PySem.W.keepIn K (.ref f) = true ∧ Binds K fd pTMade [] ∧ FnOk P w K mg base CX0 6 f fd pTMade (spTMade K C)
  named : ∃ f fd, mg "_law_named" = some (.ref f) ∧ PySem.W.keepIn K (.ref f) = true ∧ Binds K fd pNamed [] ∧ FnOk P w K mg base CX0 1 f fd pNamed (spNamed K)
  keeps : ∃ f fd, mg "_law_keeps" = some (.ref f) ∧ PySem.W.keepIn K (.ref f) = true ∧ Binds K fd pKeeps [] ∧ FnOk P w K mg base CX0 1 f fd pKeeps (spKeeps K)
  hist : ∃ f fd, mg "_law_history" = some (.ref f) ∧ PySem.W.keepIn K (.ref f) = true ∧ Binds K fd pHist [] ∧ FnOk P w K mg base CX0 2 f fd pHist (spHist K)
  hmade : ∃ f fd, mg "_law_history_made" = some (.ref f) ∧ PySem.W.keepIn K (.ref f) = true ∧ Binds K fd pHMade [] ∧ FnOk P w K mg base CX0 4 f fd pHMade (spHMade K C2)
  ref : ∃ f fd, mg "_law_refused" = some (.ref f) ∧ PySem.W.keepIn K (.ref f) = true ∧ Binds K fd pRef [] ∧ FnOk P w K mg base CX0 8 f fd pRef (spRef K T)
  fault : ∃ f fd, Df K mg "_law_fault" sFault pFault f fd
  all : ∃ f fd, Meth K C "allows" f ∧ Binds K fd ["self", "row"] [] ∧ FnOk P w K mg base CX0 1 f fd ["self", "row"] (spAll K C)
  kept : ∃ f fd, Meth K C "kept" f ∧ Binds K fd ["self", "history", "kind"] [] ∧ FnOk P w K mg base (L2.CX P w) 3 f fd ["self", "history", "kind"] (spKept K C C2 CK)
  init : ∃ f fd, Mk K C f ∧ Binds K fd pTI [] ∧ (∃ o ds, Vals [.non, .ref o] ds ∧ Binds K fd pTI ds ∧ ∀ H, SqT K H o []) ∧ FnOk P w K mg base (L2.CX P w) 4 f fd pTI (spTI K C CN CD)
  eq : ∃ f fd, OwnE K C f ∧ Binds K fd pEq [] ∧ FnOk P w K mg base CX0 1 f fd pEq (spTEq K C) ∧ FnNI P w K mg base 1 f fd pEq (preNI C)
  on : ∃ f fd, OBadNumber K mg CN f fd
  od : ∃ f fd, OBadDeeds K mg CD f fd
  ok : ∃ f fd, OBadKind K mg CK f fd
  ee : Ee K CN CD CK
abbrev nLaw : List Str := ["_law_script", "_law_pen_here", "_law_turn", "_law_deeds", "_law_timing_here", "_law_made", "_law_owed", "_law_again", "_law_row", "_law_stretches", "_law_history_here", "_law_kind", "_law_odd", "_law_k"]
theorem scLaw : FnScope nLaw ["_law_script"] (defScope sLaw) := ⟨rfl, rfl, rfl, by decide +kernel, rfl, by decide +kernel, by decide +kernel⟩
theorem keeps_one {m : V} {ks r : List Int} : keepsB m ks [r] "carried" = allI m ks r := by
  unfold keepsB
  rw [if_neg (by decide)]
  simp
/-- an odd kind -/
theorem odk_ok {K : PySem.W.Frag} {v : V} {t : Addr} (h : v ∈ [V.str "", V.str "Carried", V.str "late", V.non, V.int 2, V.ref t]) :
    ∃ dv : PyData, dv.canLay0 = true ∧ dv.depth ≤ 3 ∧ (∀ z ∈ kinds, PyData.eqv (.str z) dv = false) ∧ ∀ H : Hp, H t = some (.tup [.str "taken"]) → Dp K H v dv := by
  simp only [List.mem_cons, List.not_mem_nil, or_false] at h
  rcases h with rfl | rfl | rfl | rfl | rfl | rfl
  · exact ⟨.str "", by decide +kernel, by decide, by decide +kernel, fun H e => .str _⟩
  · exact ⟨.str "Carried", by decide +kernel, by decide, by decide +kernel, fun H e => .str _⟩
  · exact ⟨.str "late", by decide +kernel, by decide, by decide +kernel, fun H e => .str _⟩
  · exact ⟨.none, rfl, by decide, by decide +kernel, fun H e => .non⟩
  · exact ⟨.int 2, rfl, by decide, by decide +kernel, fun H e => .int _⟩
  · exact ⟨.tuple [.str "taken"], by decide +kernel, by decide, by decide +kernel, fun H e => .tup (SqT.of e) (.cons (.str "taken") .nil)⟩
theorem t_kind {K : PySem.W.Frag} {C C2 CN CD CK : Addr} (EE : Ee K CN CD CK) {σ : St} {H1 : Hp} {Q : VK} {v : V} {x h : Addr} {m : V} {ws : List Str} {rows : List (List Str)} {dv : PyData} (h5 : σ[5]? = some (some (.ref x))) (h10 : σ[10]? = some (some (.ref h))) (h12 : σ[12]? = some (some v))
    (tim : TimAt K C H1 x m (ws.map V.str)) (om : mOk m) (hh : HistAt K C2 H1 h rows) (hl : rows.length ≤ 100) (hrl : ∀ r ∈ rows, r.length ≤ 100) (hd : Dp K H1 v dv) (sd : SeqAt.shaped dv = true) (nd : ∀ z ∈ kinds, PyData.eqv (.str z) dv = false)
    (k : ∀ p G, Same H1 G → H1 p = none → G p = some (.tup [.str "kind", v]) → Q (.ref p) G) (f : Addr) : tMeth C "kept" (spKept K C C2 CK) [] (WF K CN CD CK f Q) (tVar 5) (tCons (tVar 10) (tCons (tVar 12) tNil)) σ H1 (fun _ G => Q .non G) := by
  obtain ⟨dx, o, hx, ho⟩ := id tim
  refine ⟨_, h5, x, dx, _, rfl, hx, tf_no _ _ (by decide) (by decide), _, h10, v, h12, x, h, v, m, ws, rows, rfl, tim, om, hh, hl, hrl, .inr ⟨dv, hd, sd, nd, ?_⟩⟩
  intro d G sG hd eG
  exact ⟨false, EE.kn, (fun q => nomatch q), fun _ => ⟨false, EE.kd, (fun q => nomatch q), fun _ => ⟨true, EE.kk, fun _ a ha => suiteT_read (vs := [v]) rfl eG ⟨rfl, trivial⟩ (Nat.le_of_ble_eq_true rfl) fun p hp => k p _ (sG.trans (same_upd hp)) (sG.free hp) upd_same, fun q => nomatch q⟩⟩⟩
end K1
set_option Elab.async false
set_option linter.all false
set_option maxRecDepth 100000
namespace K1
open PySem L2 LamX
def rLn (K : PySem.W.Frag) : List V → Hp → VK → Prop := fun xs H Q => ∃ x n, xs = [x] ∧ LenV K x H n ∧ Q (.int (n : Int)) H
theorem HistAt.go {K : PySem.W.Frag} {C d : Addr} {kv : List (Key × V)} {H H' : Hp} {x : Addr} {rows : List (List Str)} (h : HistAt K C H x rows) (hd : H d = some (.dK kv)) (k : KeptN d H H') : HistAt K C H' x rows := by
  obtain ⟨dx, o, as, h1, h2, h3⟩ := h
  exact ⟨dx, o, as, k.ins (ne_of h1 hd (by intro z; cases z)) h1, seqT_pen h2 hd k, h3.1, fun i a r e1 e2 => seqT_pen (h3.2 i a r e1 e2) hd k⟩
section
variable {P : Program} {w : World} {K : PySem.W.Frag} {mg : Str → Option Value} {base : Heap} {C C2 CN CD CK : Addr} {T : List (Addr × Str)}
theorem again_ok (F : Fs P w K mg base C C2 CN CD CK T) (f c pT : Addr) (A : Around) (outer : List Env) (s : Shared) (H0 : Hp) (E : XK) (hr : Room 8 (A.deeper (PyProof.Rows.envOfC "law" (defScope sLaw) s.heap.objs.size f (.ref c))))
    (TB : TabB base mg c pT) (mem : (pT, qLaw) ∈ T) (uni : ∀ p ∈ T, p.1 = pT → p.2 = qLaw) :
    ∃ t3, PSs (cxOf CX0 P w K mg base nLaw "law" (defScope sLaw) f (.ref c) A outer s H0 E).nox (lawBody.drop 6) t3 ∧
      ∀ (D : Ends) (H : Hp) (sc d cc : Addr) (n : Nat) (i : Int) (dl rh x ow : Addr) (ws : List Str) (m : V) (ks : List Int) (v7 v8 v9 v10 v11 v12 : Option V),
        Tn K C T H d cc n dl rh x ws m ks → n ≤ 500000 → Dd ws → mSm m → Pm ws.length ks → ks.length ≤ 2 →
        (∀ (v7 v8 v9 v10 v11 v12 : Option V) (n' : Nat) (H' : Hp), PenAt H' d cc n' → n' ≤ n + 1000 → KeptN d H H' → Tabs T H' → D.nx [some (.ref sc), some (.ref d), some (.int i), some (.ref dl), some (.ref rh), some (.ref x), some (.ref ow), v7, v8, v9, v10, v11, v12, none] H') →
        t3 D [some (.ref sc), some (.ref d), some (.int i), some (.ref dl), some (.ref rh), some (.ref x), some (.ref ow), v7, v8, v9, v10, v11, v12, none] H := by
  obtain ⟨T2, B, M, M2, mt, _, ⟨fD, fdD, mgD, kpD, bD, GD⟩, ⟨fP, fdP, mgP, kpP, bP, GP⟩, _, _, _, ⟨fN, fdN, mgN, kpN, bN, GN⟩, ⟨fS, fdS, mgS, kpS, bS, GS⟩, ⟨fH, fdH, mgH, kpH, bH, GH⟩, ⟨fM, fdM, mgM, kpM, bM, GM⟩, ⟨fR, fdR, mgR, kpR, bR, GR⟩, ⟨fF, fdF, DF⟩, ⟨fA, fdA, MA, bA, GA⟩, ⟨fK, fdK, MK, bK, GK⟩, _, _, ⟨_, _, ON⟩, ⟨_, _, OD⟩, ⟨_, _, OK⟩, EE⟩ := F
  have T1 : Bt mg := T2.toBt
  have hr1 : Room 1 (cxOf CX0 P w K mg base nLaw "law" (defScope sLaw) f (.ref c) A outer s H0 E).nox.A := hr.mono (by decide)
  have hr2 : Room 2 (cxOf CX0 P w K mg base nLaw "law" (defScope sLaw) f (.ref c) A outer s H0 E).nox.A := hr.mono (by decide)
  have hr3 : Room 3 (cxOf CX0 P w K mg base nLaw "law" (defScope sLaw) f (.ref c) A outer s H0 E).nox.A := hr.mono (by decide)
  have hr4 : Room 4 (cxOf CX0 P w K mg base nLaw "law" (defScope sLaw) f (.ref c) A outer s H0 E).nox.A := hr.mono (by decide)
  have hr5 : Room 5 (cxOf CX0 P w K mg base nLaw "law" (defScope sLaw) f (.ref c) A outer s H0 E).nox.A := hr.mono (by decide)
  refine ⟨_, pss_cons (ps_for PassesOwn.never rfl (pi_range1 rfl T1.range (pa_cons pe_int pa_nil)) (pg_name (i := 7) scLaw.nd rfl (Or.inl rfl))
      (pss_cons (ps_set (i := 8) scLaw.nd rfl (Or.inl rfl) (pe_callTy (r := rTu K) call_tuple_of (by rfl) T1.tuple PyProof.Rows.boot_tuple (pa_cons (pe_lc (own := [("_law_k", 13)]) (g := gName 13) (by rfl) scLaw.nd
          (pi_range1 rfl T1.range (pa_cons (pe_call GD hr1 rfl mgD kpD bD .nil pass0 (pa_cons (pv 1) (pa_cons pe_int pa_nil))) pa_nil))
          (blkOk_by (own := [("_law_k", 13)]) (N := nLaw) (sc := defScope sLaw) (by decide +kernel)) (fun _ _ _ _ _ => pg_name (i := 13) scLaw.nd rfl (Or.inl rfl)) (fun _ _ _ _ _ => pts_nil)
          (fun _ _ _ _ _ => pe_call GD hr1 rfl mgD kpD bD .nil pass0 (pa_cons (pv 1) (pa_cons (pe_callB (r := rLn K) call_len (by rfl) T1.len PySem.boot_len (pa_cons (pv 3) pa_nil)) pa_nil)))) pa_nil)))
      (pss_cons (ps_if (pt_cmpR op_ne (pe_meth (pv 5) M.cl MA GA hr1 bA .nil pass0 (pa_cons (pe_call GN hr1 rfl mgN kpN bN .nil pass0 (pa_cons (pv 3) (pa_cons (pv 8) pa_nil))) pa_nil))
          (pe_call GS hr1 rfl mgS kpS bS .nil pass0 (pa_cons (pv 4) (pa_cons pe_str (pa_cons (pe_lst (pa_cons (pv 8) pa_nil)) pa_nil)))) (nomark _)) (pss_one (ps_ret pe_bl)) pss_nil)
      (pss_cons (ps_set (i := 9) scLaw.nd rfl (Or.inl rfl) (pe_call GH hr2 rfl mgH kpH bH .nil pass0 (pa_cons (pv 1) (pa_cons (pe_callB call_len (by rfl) T1.len PySem.boot_len (pa_cons (pv 3) pa_nil))
          (pa_cons (pe_call GD hr1 rfl mgD kpD bD .nil pass0 (pa_cons (pv 1) (pa_cons pe_int pa_nil))) (pa_cons (pe_call GP hr2 rfl mgP kpP bP .nil pass0 (pa_cons (pv 1) (pa_cons (pe_lst (pa_cons pe_int (pa_cons pe_int (pa_cons pe_int pa_nil)))) pa_nil))) pa_nil))))))
      (pss_cons (ps_set (i := 10) scLaw.nd rfl (Or.inr rfl) (pe_call GM hr4 rfl mgM kpM bM .nil pass0 (pa_cons (pv 3) (pa_cons (pv 9) pa_nil))))
      (pss_cons (ps_for PassesOwn.never rfl (pi_tup (pe_tup (pa_cons pe_str (pa_cons pe_str (pa_cons pe_str (pa_cons pe_str pa_nil)))))) (pg_name (i := 11) scLaw.nd rfl (Or.inl rfl))
        (pss_one (ps_if (pt_cmpR op_ne (pe_meth (pv 5) M.cl MK GK hr3 bK .nil passL (pa_cons (pv 10) (pa_cons (pv 11) pa_nil))) (pe_call GS hr1 rfl mgS kpS bS .nil pass0 (pa_cons (pv 4) (pa_cons (pv 11) (pa_cons (pv 9) pa_nil)))) (nomark _)) (pss_one (ps_ret pe_bl)) pss_nil)))
      (pss_cons (ps_set (i := 12) scLaw.nd rfl (Or.inr rfl) (pe_call GP hr2 rfl mgP kpP bP .nil pass0 (pa_cons (pv 1) (pa_cons (pe_lst (pa_cons pe_str (pa_cons pe_str (pa_cons pe_str (pa_cons pe_non (pa_cons pe_int (pa_cons (pe_tup (pa_cons pe_str pa_nil)) pa_nil))))))) pa_nil))))
      (pss_one (ps_if (pt_cmpR (op_neD hr.units) (pe_lamS (T := T) (k := 3) DF scFault rfl (Or.inl rfl) rfl (fun gcd => gives_fault ON OD OK) TB rfl mem uni hr5 (lamS_by (by show lamSB (defScope sLaw) _ = true; decide +kernel))
          (fun A outer s2 H2 E f c' hr3 => pe_meth (pv 5) M.cl MK GK hr3 bK .nil (passes_call (takes_of rfl rfl rfl rfl) fun _ _ _ _ h => h) (pa_cons (pv 10) (pa_cons (pv 12) pa_nil)))) (pe_tup (pa_cons pe_str (pa_cons (pv 12) pa_nil))) (nomark _)) (pss_one (ps_ret pe_bl)) pss_nil)))))))))
    (pss_one (ps_if (pt_not (pt_val (pe_call GR hr rfl mgR kpR bR .nil pass0 (pa_cons (pv 1) (pa_cons (pv 3) (pa_cons (pe_call GP hr2 rfl mgP kpP bP .nil pass0 (pa_cons (pv 1) (pa_cons (pe_lst (pa_cons pe_non (pa_cons pe_int (pa_cons (pe_op op_pow pe_int pe_int) pa_nil)))) pa_nil))) pa_nil)))))) (pss_one (ps_ret pe_bl)) pss_nil)), ?_⟩
  intro D H sc d cc n i dl rh x ow ws m ks v7 v8 v9 v10 v11 v12 tn hn dd hm hP hk2 done
  have wl := dd.len
  have ixk : Ix ws.length ks := hP.2
  refine ⟨4, rfl, by decide, by decide, for_range (n := 4) (fun i' σ H' => ∃ (v7 v8 v9 v10 v11 v12 : Option V) (n' : Nat), σ = [some (.ref sc), some (.ref d), some (.int i), some (.ref dl), some (.ref rh), some (.ref x), some (.ref ow), v7, v8, v9, v10, v11, v12, none] ∧ Tn K C T H' d cc n' dl rh x ws m ks ∧ n' ≤ n + 100 * i' ∧ KeptN d H H') ?_ ?_ ?_⟩
  · exact ⟨_, _, _, _, _, _, n, rfl, tn, by omega, KeptN.refl d H⟩
  · rintro i' σ H1 hi ⟨v7, v8, v9, v10, v11, v12, n1, rfl, tn1, hn1, k1⟩
    -- the row
    refine ⟨_, rfl, d, cc, n1, _, rfl, tn1.pen, by omega, by decide, by decide, fun r H2 r0 r1 p2 k2 => ?_⟩
    obtain ⟨J, rfl⟩ : ∃ J : Nat, r = (J : Int) := ⟨r.toNat, by omega⟩
    have tn2 := tn1.kept k2 p2
    refine ⟨(J : Int), rfl, by omega, by omega, fun D2 hD2 => ?_⟩
    rw [Int.toNat_natCast]
    obtain ⟨n2d, n2c⟩ := p2.ne hD2
    refine lc_range (lo := 0) (n := J) (fun j H' => ∃ qs : List Int, qs.length = j ∧ Ix ws.length qs ∧ H' D2 = some (.lst (qs.map V.int)) ∧ PenAt H' d cc (n1 + 1 + j) ∧ Kept d H2 H') ?_ ?_ ?_
    · exact ⟨[], rfl, (fun k h => nomatch h), upd_same, p2.upd n2d n2c, (Kept.refl d H2).upd hD2⟩
    · rintro j H3 hj ⟨qs, hqs, hix, hD3, p3, k3⟩
      have dl3 := k3 _ _ tn2.hdl (tn2.n1 tn2.hdl (fun _ z => by cases z))
      refine ⟨rfl, _, rfl, _, rfl, _, ws.length, rfl, .inl ⟨_, SqL.of dl3, (List.length_map _).symm⟩, d, cc, _, (ws.length : Int), rfl, p3, by omega, by omega, by omega, fun y H4 y0 y1 p4 k4 => ?_⟩
      refine ⟨_, k4 _ _ hD3 n2d, ?_, qs ++ [y], by simp [hqs], fun z hz => ?_, ?_, p4.upd n2d n2c, (k3.trans k4).upd hD2⟩
      · rw [List.length_map]; exact small1000 (by omega)
      · rcases List.mem_append.mp hz with h | h
        · exact hix z h
        · rw [List.mem_singleton.mp h]; exact ⟨y0, y1⟩
      · rw [upd_same, List.map_append]; rfl
    · rintro H3 ⟨qs, hqs, hix, hD3, p3, k3⟩
      refine ⟨D2, _, rfl, .inl ⟨SqL.of hD3, fun t ht => ?_⟩⟩
      have st := same_upd (o := .tup (qs.map V.int)) ht
      have tn4 := (tn2.kept k3 p3).same st
      have k4 : KeptN d H (upd H3 t (.tup (qs.map V.int))) := k1.trans (k2.n.trans (k3.n.trans (Kept.same st).n))
      have et4 : upd H3 t (.tup (qs.map V.int)) t = some (.tup (qs.map V.int)) := upd_same
      generalize upd H3 t (.tup (qs.map V.int)) = H4 at tn4 k4 et4 ⊢
      -- allows
      obtain ⟨dx, o, hx, ho⟩ := id tn4.tim
      refine ⟨_, rfl, x, dx, _, rfl, hx, tf_no _ _ (by decide) (by decide), _, rfl, _, rfl, dl, t, ws, qs, rfl, SqL.of tn4.hdl, SqT.of et4, hix, by omega, fun p H5 hp s5 e5 => ?_⟩
      have tn5 := tn4.same s5
      refine ⟨x, p, m, nm ws ks, nm ws qs, rfl, tn5.tim, hm.ok, SqT.of e5, by rw [nm_len]; omega, fun H6 s6 => ?_⟩
      have tn6 := tn5.same s6
      refine ⟨_, rfl, _, rfl, Nat.le_of_ble_eq_true rfl, fun l hl => ?_⟩
      have s7 := same_upd (o := .lst [V.ref t]) hl
      have tn7 := tn6.same s7
      refine ⟨rh, l, "carried", m, ks, [t], [qs], rfl, tn7.hrh, hm.ok, by decide, upd_same, ⟨rfl, fun i a r e1 e2 => ?_⟩, Nat.le_of_ble_eq_true rfl, fun r hr => ?_, fun H8 s8 => ?_⟩
      · match i, e1, e2 with
        | 0, e1, e2 => cases e1; cases e2; exact s7 _ _ (s6 _ _ (s5 _ _ et4))
      · rw [List.mem_singleton.mp hr]; omega
      refine ⟨rfl, _, rfl, ?_⟩
      rw [allB_nm dd.nd ixk hix, keeps_one]
      refine ite2 (fun h => absurd h (by simp)) (fun _ => ?_)
      have tn8 := tn7.same s8
      have k8 : KeptN d H H8 := k4.trans (Kept.same (((s5.trans s6).trans s7).trans s8)).n
      clear tn7 tn6 tn5 tn4 s8 s7 s6 s5 hx ho
      -- stretches
      refine ⟨_, rfl, _, rfl, _, ws.length, rfl, .inl ⟨_, SqL.of tn8.hdl, (List.length_map _).symm⟩, _, rfl, d, cc, _, _, rfl, tn8.pen, by omega, by decide, by decide, fun r H9 r0' r1' p9 k9 => ?_⟩
      obtain ⟨L, rfl⟩ : ∃ L : Nat, r = (L : Int) := ⟨r.toNat, by omega⟩
      have tn9 := tn8.kept k9 p9
      refine ⟨_, rfl, Nat.le_of_ble_eq_true rfl, fun q hq => ?_⟩
      have sq := same_upd (o := .lst [V.int 1, V.int 2, V.int 4]) hq
      refine ⟨d, cc, q, _, _, rfl, p9.same sq, by omega, ((p9.ne hq).1), SqL.of upd_same, Nat.le_of_ble_eq_true rfl, Nat.le_of_ble_eq_true rfl, fun v H10 hv p10 k10 => ?_⟩
      obtain ⟨mm, rfl, hmm⟩ : ∃ mm : Nat, v = .int (mm : Int) ∧ mm ≤ 5 := by
        simp only [List.mem_cons, List.not_mem_nil, or_false] at hv
        rcases hv with rfl | rfl | rfl
        · exact ⟨1, rfl, by decide⟩
        · exact ⟨2, rfl, by decide⟩
        · exact ⟨4, rfl, by decide⟩
      have tn10 := (tn9.same sq).kept k10 p10
      refine ⟨d, cc, _, ws.length, L, mm, rfl, p10, by omega, by omega, by omega, by omega, hmm, fun p9' as rs H11 hp9' e11 hR11 hrs hrr p11 k11 => ?_⟩
      have tn11 := tn10.kept k11 p11
      have k11' : KeptN d H H11 := k8.trans (k9.n.trans ((Kept.same sq).n.trans (k10.n.trans k11.n)))
      -- the history
      refine ⟨_, rfl, _, rfl, dl, p9', ws, as, rs, rfl, SqL.of tn11.hdl, dd, e11, hR11, by omega, fun r hr => ⟨by have := (hrr r hr).1; omega, (hrr r hr).2⟩, fun hi' H12 hhi s12 hh12 => ?_⟩
      have tn12 := tn11.same s12
      have e12 := s12 _ _ e11
      have hR12 := hR11.same s12
      refine ⟨Nat.le_of_ble_eq_true rfl, fun tk htk => ?_⟩
      have stk := same_upd (o := .tup [V.str "carried", V.str "stretch", V.str "joined", V.str "taken"]) htk
      have etk : upd H12 tk (.tup [V.str "carried", V.str "stretch", V.str "joined", V.str "taken"]) tk = some (.tup (kinds.map V.str)) := upd_same
      refine ⟨tk, rfl, ⟨_, SqT.of etk⟩, for_tup (K := K) (a := tk) (xs := kinds.map V.str) (fun j σ H' => ∃ v11 : Option V, σ = [some (.ref sc), some (.ref d), some (.int i), some (.ref dl), some (.ref rh), some (.ref x), some (.ref ow), some (.int (0 + (i' : Int))), some (.ref t), some (.ref p9'), some (.ref hi'), v11, v12, none] ∧ Same (upd H12 tk (.tup [V.str "carried", V.str "stretch", V.str "joined", V.str "taken"])) H') ⟨v11, rfl, Same.refl _⟩ (fun j σ H' _ q => by obtain ⟨_, _, sm⟩ := q; exact SqT.of (sm _ _ etk)) ?_ ?_⟩
      · rintro j y σ H13 hj ⟨v11', rfl, s13⟩
        rw [List.getElem?_map] at hj
        obtain ⟨z, ez, rfl⟩ := Option.map_eq_some_iff.mp hj
        have hz := List.mem_of_getElem? ez
        have s123 := stk.trans s13
        have tn13 := tn12.same s123
        obtain ⟨dx', o', hx', ho'⟩ := id tn13.tim
        refine ⟨_, rfl, x, dx', _, rfl, hx', tf_no _ _ (by decide) (by decide), _, rfl, _, rfl, x, hi', .str z, m, nm ws ks, rs.map (nm ws), rfl, tn13.tim, hm.ok, hh12.same s123, by rw [List.length_map]; omega, fun r hr => ?_, .inl ⟨z, rfl, hz, fun H14 s14 => ?_⟩⟩
        · obtain ⟨r0, hr0, rfl⟩ := List.mem_map.mp hr
          rw [nm_len]; have := (hrr r0 hr0).1; omega
        · have tn14 := tn13.same s14
          refine ⟨_, rfl, _, rfl, _, rfl, rh, p9', z, m, ks, as, rs, rfl, tn14.hrh, hm.ok, hz, (s123.trans s14) _ _ e12, hR12.same (s123.trans s14), by omega, fun r hr => by have := (hrr r hr).1; omega, fun H15 s15 => ?_⟩
          refine ⟨rfl, _, rfl, ?_⟩
          rw [kept_nm dd.nd ixk (fun r hr => (hrr r hr).2)]
          refine ite2 (fun h => absurd h (by simp)) (fun _ => ?_)
          exact ⟨_, rfl, (s13.trans s14).trans s15⟩
      · rintro σ H13 ⟨v11', rfl, s13⟩
        have s123 := stk.trans s13
        have tn13 := tn12.same s123
        -- the odd kind
        refine ⟨_, rfl, Nat.le_of_ble_eq_true rfl, fun tt htt => ⟨Nat.le_of_ble_eq_true rfl, fun q2 hq2 => ?_⟩⟩
        have stt := same_upd (o := .tup [V.str "taken"]) htt
        have ett : upd H13 tt (.tup [V.str "taken"]) tt = some (.tup [V.str "taken"]) := upd_same
        generalize upd H13 tt (.tup [V.str "taken"]) = H13' at stt ett hq2 ⊢
        have sq2 := same_upd (o := .lst [V.str "", V.str "Carried", V.str "late", V.non, V.int 2, V.ref tt]) hq2
        have tn14 := tn13.same (stt.trans sq2)
        refine ⟨d, cc, q2, _, _, rfl, tn14.pen, by omega, (((tn13.pen.same stt).ne hq2).1), SqL.of upd_same, Nat.le_of_ble_eq_true rfl, Nat.le_of_ble_eq_true rfl, fun v H15 hv p15 k15 => ?_⟩
        obtain ⟨dv, cl, dp, nd, od⟩ := odk_ok (K := K) hv
        have tn15 := tn14.kept k15 p15
        have g15 : KeptN d H12 H15 := (Kept.same (s123.trans (stt.trans sq2))).n.trans k15.n
        have et15 := k15 _ _ (sq2 _ _ ett) (tn13.pen.ne htt).1
        obtain ⟨_, _, _, hd12, _⟩ := id tn12.pen
        have hh15 := hh12.go hd12 g15
        obtain ⟨_, _, _, hd15, _⟩ := id tn15.pen
        refine ⟨tn15.tab, fun H16 e16 T16 f1 => ?_⟩
        have tn16 := tn15.go e16.n (e16.pen tn15.pen) T16
        have et16 := e16.tup et15
        refine t_kind EE (x := x) (h := hi') (m := m) (ws := nm ws ks) (rows := rs.map (nm ws)) rfl rfl rfl tn16.tim hm.ok (hh15.go hd15 e16.n) (by rw [List.length_map]; omega) (fun r hr => ?_) (od _ et16) (shaped_of cl (by omega)) nd (fun u1 G1 s1 hu1 eu1 => ?_) f1
        · obtain ⟨r0, hr0, rfl⟩ := List.mem_map.mp hr
          rw [nm_len]; have := (hrr r0 hr0).1; omega
        refine ⟨_, rfl, Nat.le_of_ble_eq_true rfl, fun u2 hu2 => ?_⟩
        have s2 := same_upd (o := .tup [V.str "kind", v]) hu2
        have etG := s2 _ _ (s1 _ _ et16)
        refine ⟨_, _, tagD (s2 _ _ eu1) (od _ etG), tagD upd_same (od _ etG), tagS (by decide +kernel) cl dp, tagS (by decide +kernel) cl dp, _, rfl, ?_⟩
        rw [tagE (by decide +kernel) cl]
        refine iteF ?_
        exact ⟨_, _, _, _, _, _, _, rfl, tn16.same (s1.trans s2), by omega, k11'.trans ((Kept.same s12).n.trans (g15.trans (e16.n.trans (Kept.same (s1.trans s2)).n)))⟩
  · rintro σ H1 ⟨v7, v8, v9, v10, v11, v12, n1, rfl, tn1, hn1, k1⟩
    refine ⟨_, rfl, _, rfl, _, rfl, _, _, rfl, rfl, ⟨by decide, by decide, by decide⟩, Nat.le_of_ble_eq_true rfl, fun q hq => ?_⟩
    have sq := same_upd (o := .lst [V.non, V.int 0, V.int (10 ^ Int.toNat 30)]) hq
    have tn2 := tn1.same sq
    refine ⟨d, cc, q, _, _, rfl, tn2.pen, by omega, ((tn1.pen.ne hq).1), SqL.of upd_same, Nat.le_of_ble_eq_true rfl, Nat.le_of_ble_eq_true rfl, fun v H2 hv p2 k2 => ?_⟩
    have tn3 := tn2.kept k2 p2
    have hbig : mBig v := by
      simp only [List.mem_cons, List.not_mem_nil, or_false] at hv
      exact hv
    refine ⟨d, cc, dl, _, v, ws, rfl, p2, by omega, SqL.of tn3.hdl, tn3.n1 tn3.hdl (fun _ z => by cases z), dd, hbig, tn3.tab, fun H3 p3 k3 T3 => ⟨true, rfl, ?_⟩⟩
    refine iteF ?_
    exact done _ _ _ _ _ _ _ H3 p3 (by omega) (k1.trans ((Kept.same sq).n.trans (k2.n.trans k3))) T3
end
end K1
set_option Elab.async false
set_option linter.all false
set_option maxRecDepth 100000
namespace K1
open PySem L2 LamX
theorem tim_new {K : PySem.W.Frag} {C CN CD : Addr} {H1 : Hp} {R : Addr → Hp → Prop} {E : XK} {x dx a : Addr} {m : V} {ws : List Str} (hm : numB m = true) (th : ∀ G : Hp, ∃ t, Th K G m t) (hx : H1 x = none) (hdx : H1 dx = none) (ha : SqL K H1 a (ws.map V.str) ∨ SqT K H1 a (ws.map V.str)) (g : GoodT ws)
    (k : ∀ (x : Addr) (G : Hp), H1 x = none → Same H1 G → TimAt K C G x m (ws.map V.str) → R x G) : spTI K C CN CD [.ref x, m, .ref a] (upd (upd H1 dx (.own x)) x (.ins C dx [])) (fun v H2 => v = .non ∧ R x H2) E := by
  have pre := made_pre (C := C) hx hdx
  obtain ⟨t, tt⟩ := th (upd (upd H1 dx (.own x)) x (.ins C dx []))
  refine ⟨x, dx, a, m, t, rfl, upd_same, tt, ?_⟩
  rw [if_pos hm]
  have fin : ∀ G, Kept x (upd (upd H1 dx (.own x)) x (.ins C dx [])) G → TimAt K C G x m (ws.map V.str) → V.non = V.non ∧ R x G := fun G kG tG => ⟨rfl, k x G hx (made_same hx hdx kG) tG⟩
  rcases ha with ha | ha
  · refine .inl ⟨ws.map V.str, pre.seq ha, fun v hv => ?_, by rw [List.length_map]; exact g.2.2.2, ?_⟩
    · obtain ⟨z, hz, rfl⟩ := List.mem_map.mp hv
      exact ⟨_, .str z (g.2.1 z hz)⟩
    · rw [first_good g.1 g.2.2.1]
      exact fin
  · exact .inr ⟨ws, ha.ext pre, g, fin⟩
theorem good_nm {ws : List Str} {ks : List Int} (dd : Dd ws) (hP : Pm ws.length ks) (hk : ks.length ≤ 10) : GoodT (nm ws ks) := by
  have hm := nm_mem hP.2
  exact ⟨nm_nodup dd.nd hP, fun z hz => (dd.wd z (hm z hz)).short, fun z hz => (dd.wd z (hm z hz)).word, by rw [nm_len]; omega⟩
theorem tl_app (a b : Str) : (a ++ b).cps.toList = a.cps.toList ++ b.cps.toList := by
  show (a.cps ++ b.cps).toList = _
  simp
theorem word_000 {z : Str} (h : Wd z) : wordB (.str (z ++ "000")) = true := by
  obtain ⟨c, r, e, h1, h2, h3⟩ := h
  show wordL (z ++ "000").cps.toList = true
  have e0 : ("000" : Str).cps.toList = [48, 48, 48] := by decide +kernel
  rw [tl_app, e, e0]
  unfold wordL
  simp only [List.cons_append, Bool.and_eq_true, decide_eq_true_eq, List.all_eq_true]
  refine ⟨by simp; omega, h1, fun x hx => ?_⟩
  have h0 : (48 : Nat) ∈ AL := by decide +kernel
  rcases List.mem_cons.mp hx with rfl | hx
  · exact LE_AL h1
  rcases List.mem_append.mp hx with hx | hx
  · exact h2 x hx
  · simp at hx
    rw [hx]; exact h0
theorem good_more {ws : List Str} {ks : List Int} (dd : Dd ws) (hP : Pm ws.length ks) (hk : ks.length ≤ 10) {z : Str} (hz : z ∈ ws) : GoodT (nm ws ks ++ [z ++ "000"]) := by
  obtain ⟨g1, g2, g3, g4⟩ := good_nm dd hP hk
  have hm := nm_mem hP.2
  have hw := word_000 (dd.wd z hz)
  obtain ⟨L, hL⟩ := dd.eq
  refine ⟨?_, fun y hy => ?_, fun y hy => ?_, by rw [List.length_append, nm_len]; simp; omega⟩
  · rw [List.nodup_append]
    refine ⟨g1, by simp, fun a ha b hb => ?_⟩
    rw [List.mem_singleton.mp hb]
    intro e
    have h1 := hL a (hm a ha)
    rw [e, tl_app, List.length_append, hL z hz] at h1
    have : ("000" : Str).cps.toList.length = 3 := by decide +kernel
    omega
  · rcases List.mem_append.mp hy with h | h
    · exact g2 y h
    · rw [List.mem_singleton.mp h]; have := len_word hw; omega
  · rcases List.mem_append.mp hy with h | h
    · exact g3 y h
    · rw [List.mem_singleton.mp h]; exact hw
theorem ok_good {ws : List Str} (g : GoodT ws) : OkS ws := fun z hz => by
  have h : wordL z.cps.toList = true := g.2.2.1 z hz
  refine ok_chars fun c hc => ?_
  cases e : z.cps.toList with
  | nil => rw [e] at hc; cases hc
  | cons a r =>
    rw [e] at h hc
    unfold wordL at h
    simp only [Bool.and_eq_true, List.all_eq_true, decide_eq_true_eq] at h
    exact List.mem_append_left _ (h.2.2 c hc)
theorem mSm.thA {K : PySem.W.Frag} {m : V} (h : mSm m) : ∀ G : Hp, ∃ t, Th K G m t := fun G => h.th
section
variable {P : Program} {w : World} {K : PySem.W.Frag} {mg : Str → Option Value} {base : Heap} {C C2 CN CD CK : Addr} {T : List (Addr × Str)}
/-- the end: Timing() and its parts -/
theorem end_ok (F : Fs P w K mg base C C2 CN CD CK T) (f c : Addr) (A : Around) (outer : List Env) (s : Shared) (H0 : Hp) (E : XK) (hr : Room 8 (A.deeper (PyProof.Rows.envOfC "law" (defScope sLaw) s.heap.objs.size f (.ref c)))) :
    ∃ t, PSs (cxOf CX0 P w K mg base nLaw "law" (defScope sLaw) f (.ref c) A outer s H0 E).nox ((defBody sLaw).drop 2) t ∧ ∀ (D : Ends) (σ : St) (H : Hp), (∀ H', D.rt (.bl true) H') → t D σ H := by
  obtain ⟨T2, B, M, M2, mt, _, _, _, _, _, _, _, _, _, _, _, _, _, _, ⟨fI, fdI, MkI, bI, ⟨o, ds, vds, bI0, qo⟩, GI⟩, ⟨fE, fdE, OE, bE, GE, NE⟩, _, _, _, _⟩ := F
  have T1 : Bt mg := T2.toBt
  have hr1 : Room 1 (cxOf CX0 P w K mg base nLaw "law" (defScope sLaw) f (.ref c) A outer s H0 E).nox.A := hr.mono (by decide)
  have hr5 : Room 5 (cxOf CX0 P w K mg base nLaw "law" (defScope sLaw) f (.ref c) A outer s H0 E).nox.A := hr.mono (by decide)
  refine ⟨_, pss_one (ps_ret (pe_and (pe_cmpR (op_eqOwn OE GE hr1 bE pass0) (pe_make0 MkI GI hr5 rfl M.mgC bI0 vds passL) (pe_make MkI GI hr5 rfl M.mgC bI .nil passL (pa_cons pe_non (pa_cons (pe_tup pa_nil) pa_nil))) (nomark _))
    (pe_and (pe_cmpR op_isN (pe_fld (pe_make0 MkI GI hr5 rfl M.mgC bI0 vds passL) rfl) pe_non (nomark _)) (pe_one (pe_cmpR (op_eqD hr.units) (pe_fld (pe_make0 MkI GI hr5 rfl M.mgC bI0 vds passL) rfl) (pe_tup pa_nil) (nomark _)))))), ?_⟩
  intro D σ H k
  have g0 : GoodT [] := ⟨List.nodup_nil, fun z h => (nomatch h), fun z h => (nomatch h), by decide⟩
  have thN : ∀ G : Hp, ∃ t, Th K G .non t := fun G => ⟨_, .non⟩
  intro x dx hx hdx ndx
  show spTI K C CN CD [V.ref x, .non, .ref o] _ _ _
  apply tim_new (C := C) (CN := CN) (CD := CD) (ws := []) rfl thN hx hdx (.inr (qo _)) g0
  intro x1 H1 hx1 s1 t1
  refine ⟨Nat.le_of_ble_eq_true rfl, fun p hp => ?_⟩
  intro y dy hy hdy ndy
  have sp := same_upd (o := .tup []) hp
  apply tim_new (ws := []) rfl thN hy hdy (.inr (SqT.of upd_same)) g0
  intro y1 H2 hy1 s2 t2
  have t12 := t1.same (sp.trans s2)
  obtain ⟨dx1, o1, hx12, ho1⟩ := id t12
  obtain ⟨dy1, o2, hy12, ho2⟩ := id t2
  refine ⟨x1, y1, dx1, dy1, _, _, rfl, rfl, hx12, hy12, x1, y1, .non, .non, [], [], rfl, t12, t2, .inl rfl, .inl rfl, (fun z h => nomatch h), (fun z h => nomatch h), _, rfl, _, rfl, ?_⟩
  refine ite2 (fun _ => ?_) (fun h => absurd (by simp) h)
  intro x dx hx hdx ndx
  show spTI K C CN CD [V.ref x, .non, .ref o] _ _ _
  apply tim_new (C := C) (CN := CN) (CD := CD) (ws := []) rfl thN hx hdx (.inr (qo _)) g0
  intro x2 H3 hx2 s3 t3
  obtain ⟨dx2, o3, hx3, ho3⟩ := id t3
  refine ⟨x2, C, dx2, _, _, rfl, hx3, M.cl, M.nM, tf_most _ _, rfl, _, rfl, ?_⟩
  refine ite2 (fun _ => ?_) (fun h => absurd (by simp) h)
  intro x dx hx hdx ndx
  show spTI K C CN CD [V.ref x, .non, .ref o] _ _ _
  apply tim_new (C := C) (CN := CN) (CD := CD) (ws := []) rfl thN hx hdx (.inr (qo _)) g0
  intro x3 H4 hx3 s4 t4
  obtain ⟨dx3, o4, hx4, ho4⟩ := id t4
  refine ⟨x3, C, dx3, _, _, rfl, hx4, M.cl, M.nO, tf_owed _ _, Nat.le_of_ble_eq_true rfl, fun p hp => ?_⟩
  have sp := same_upd (o := .tup []) hp
  refine ⟨_, _, .tup (ho4.ext sp) .nil, .tup (SqT.of upd_same) .nil, by decide +kernel, by decide +kernel, ?_⟩
  exact k _
end
end K1
set_option Elab.async false
set_option linter.all false
set_option maxRecDepth 100000
namespace K1
open PySem L2 LamX
def spLaw (K : PySem.W.Frag) (T : List (Addr × Str)) : Sp := fun vs H Q _ => ∃ (a : Addr) (ns : List Int), vs = [.ref a] ∧ SqL K H a (ns.map V.int) ∧ ns.length ≤ 63 ∧ Tabs T H ∧ ∀ H', Q (.bl true) H'
section
variable {P : Program} {w : World} {K : PySem.W.Frag} {mg : Str → Option Value} {base : Heap} {C C2 CN CD CK : Addr} {T : List (Addr × Str)}
theorem ok_law (F : Fs P w K mg base C C2 CN CD CK T) {f c pT : Addr} {fd : FuncData} (FL : FunC K "law" "law" sLaw f fd c) (I : Ti K C) (TB : TabB base mg c pT) (mem : (pT, qLaw) ∈ T) (uni : ∀ p ∈ T, p.1 = pT → p.2 = qLaw) : FnOk P w K mg base CX0 9 f fd ["_law_script"] (spLaw K T) := by
  refine FL.ok scLaw (fun vs H Q E h => ?_) (fun A outer s H vs Q E hr h => ?_)
  · obtain ⟨a, ns, rfl, _⟩ := h
    rfl
  · obtain ⟨a, ns, rfl, ha, hns, hT, k⟩ := h
    obtain ⟨t3, ht3, hq3⟩ := again_ok F f c pT A outer s H E hr TB mem uni
    obtain ⟨t9, ht9, hq9⟩ := end_ok F f c A outer s H E hr
    obtain ⟨T2, B, M, M2, mt, ⟨fE', fdE', mgE, kpE, bE', GE'⟩, ⟨fD, fdD, mgD, kpD, bD, GD⟩, _, ⟨fW, fdW, mgW, kpW, bW, GW⟩, ⟨fT, fdT, mgT, kpT, bT, GT⟩, ⟨fU, fdU, mgU, kpU, bU, GU⟩, _, _, _, _, _, _, _, _, ⟨fI, fdI, MkI, bI, _, GI⟩, ⟨fE, fdE, OE, bE, GE, NE⟩, _, _, _, _⟩ := F
    have T1 : Bt mg := T2.toBt
    have hr1 : Room 1 (cxOf CX0 P w K mg base nLaw "law" (defScope sLaw) f (.ref c) A outer s H E).nox.A := hr.mono (by decide)
    have hr2 : Room 2 (cxOf CX0 P w K mg base nLaw "law" (defScope sLaw) f (.ref c) A outer s H E).nox.A := hr.mono (by decide)
    have hr3 : Room 3 (cxOf CX0 P w K mg base nLaw "law" (defScope sLaw) f (.ref c) A outer s H E).nox.A := hr.mono (by decide)
    have hr5 : Room 5 (cxOf CX0 P w K mg base nLaw "law" (defScope sLaw) f (.ref c) A outer s H E).nox.A := hr.mono (by decide)
    have hr6 : Room 6 (cxOf CX0 P w K mg base nLaw "law" (defScope sLaw) f (.ref c) A outer s H E).nox.A := hr.mono (by decide)
    refine ⟨_, pss_cons (ps_set (i := 1) scLaw.nd rfl (Or.inr rfl) (pe_call GE' hr1 rfl mgE kpE bE' .nil pass0 (pa_cons (pv 0) pa_nil)))
      (pss_cons (ps_for PassesOwn.never rfl (pi_range1 rfl T1.range (pa_cons (pe_op op_add pe_int (pe_callB (call_min2 rfl) (by rfl) T2.min PyProof.Rows.boot_min (pa_cons pe_int (pa_cons (pe_callB call_len (by rfl) T1.len PySem.boot_len (pa_cons (pv 0) pa_nil)) pa_nil)))) pa_nil)) (pg_name (i := 2) scLaw.nd rfl (Or.inl rfl))
        (pss_cons (ps_set (i := 3) scLaw.nd rfl (Or.inr rfl) (pe_call GW hr3 rfl mgW kpW bW .nil pass0 (pa_cons (pv 1) (pa_cons (pe_op op_add pe_int (pe_call GD hr1 rfl mgD kpD bD .nil pass0 (pa_cons (pv 1) (pa_cons pe_int pa_nil)))) pa_nil))))
        (pss_cons (ps_set (i := 4) scLaw.nd rfl (Or.inl rfl) (pe_call GT hr3 rfl mgT kpT bT .nil pass0 (pa_cons (pv 1) (pa_cons (pe_callB call_len (by rfl) T1.len PySem.boot_len (pa_cons (pv 3) pa_nil)) pa_nil))))
        (pss_cons (ps_asg (pe_tup (pa_cons (pe_call GU hr6 rfl mgU kpU bU .nil pass0 (pa_cons (pv 3) (pa_cons (pv 4) pa_nil)))
            (pa_cons (pe_lc (own := [("_law_k", 13)]) (g := gName 13) (by rfl) scLaw.nd (pi_tup (pe_ix ix_tup (pv 4) pe_int (fun _ _ => rfl)))
              (blkOk_by (own := [("_law_k", 13)]) (N := nLaw) (sc := defScope sLaw) (by decide +kernel)) (fun _ _ _ _ _ => pg_name (i := 13) scLaw.nd rfl (Or.inl rfl)) (fun _ _ _ _ _ => pts_nil)
              (fun _ _ _ _ _ => pe_ix (r := rIxL K) ix_list (pv 3) (pv 13) (fun _ _ => rfl))) pa_nil)))
            (pg_tup (by rfl) (pgs_cons (pg_name (i := 5) scLaw.nd rfl (Or.inr rfl)) (pgs_cons (pg_name (i := 6) scLaw.nd rfl (Or.inl rfl)) pgs_nil))))
        (pss_cons (ps_if (PW.pt (pw_or (pt_cmpR (op_neD hr.units) (pe_fld (pv 5) rfl) (pe_ix ix_tup (pv 4) pe_int (fun _ _ => rfl)) (nomark _))
            (pw_or (pt_cmpR (op_neD hr.units) (pe_fld (pv 5) rfl) (pe_callTy (r := rTu K) call_tuple_of (by rfl) T1.tuple PyProof.Rows.boot_tuple (pa_cons (pv 6) pa_nil)) (nomark _))
            (pw_or1 (pt_cmpR (op_neOwn OE GE hr2 bE pass0) (pv 5) (pe_make MkI GI hr5 rfl M.mgC bI .nil passL (pa_cons (pe_ix ix_tup (pv 4) pe_int (fun _ _ => rfl)) (pa_cons (pe_callTy (r := rTu K) call_tuple_of (by rfl) T1.tuple PyProof.Rows.boot_tuple (pa_cons (pv 6) pa_nil)) pa_nil))) (nomark _)))))) (pss_one (ps_ret pe_bl)) pss_nil)
        (pss_cons (ps_if (PW.pt (pw_or (pt_cmpR (op_eqOwn OE GE hr1 bE pass0) (pv 5) (pe_make MkI GI hr5 rfl M.mgC bI .nil passL (pa_cons (pe_op op_pow pe_int pe_int) (pa_cons (pv 6) pa_nil))) (nomark _))
            (pw_or1 (pt_cmpR (op_eqOwn OE GE hr1 bE pass0) (pv 5) (pe_make MkI GI hr5 rfl M.mgC bI .nil passL (pa_cons (pe_ix ix_tup (pv 4) pe_int (fun _ _ => rfl)) (pa_cons (pe_op op_cat (pv 6) (pe_lst (pa_cons (pe_op op_add_str (pe_ix ix_list (pv 3) pe_int (fun _ _ => rfl)) pe_str) pa_nil))) pa_nil))) (nomark _))))) (pss_one (ps_ret pe_bl)) pss_nil)
        (pss_cons (ps_if (pt_cmpR (op_eqNIT OE mt NE hr1 bE) (pv 5) (pe_tup (pa_cons (pe_ix ix_tup (pv 4) pe_int (fun _ _ => rfl)) (pa_cons (pe_callTy (r := rTu K) call_tuple_of (by rfl) T1.tuple PyProof.Rows.boot_tuple (pa_cons (pv 6) pa_nil)) pa_nil))) (nomark _)) (pss_one (ps_ret pe_bl)) pss_nil)
          ht3)))))))
      ht9), ?_⟩
    refine ⟨_, rfl, a, ns, rfl, ha, hns, fun d cc Hs hd0 hc0 hpen0 sm0 => ?_⟩
    refine ⟨_, rfl, _, ns.length, rfl, .inl ⟨_, sm0.seq ha, (List.length_map _).symm⟩, _, _, rfl, _, _, rfl, rfl, ?_⟩
    obtain ⟨J, eJ, hJ⟩ : ∃ J : Nat, (5 + (if (ns.length : Int) < 5 then (ns.length : Int) else 5)) = (J : Int) ∧ J ≤ 10 := by
      by_cases h : (ns.length : Int) < 5
      · rw [if_pos h]; exact ⟨5 + ns.length, by omega, by omega⟩
      · rw [if_neg h]; exact ⟨10, by omega, by omega⟩
    refine ⟨(J : Int), by rw [← eJ], by omega, by omega, ?_⟩
    rw [Int.toNat_natCast]
    refine for_range (lo := 0) (n := J) (fun i σ H' => ∃ (v2 v3 v4 v5 v6 v7 v8 v9 v10 v11 v12 : Option V) (n : Nat), σ = [some (.ref a), some (.ref d), v2, v3, v4, v5, v6, v7, v8, v9, v10, v11, v12, none] ∧ PenAt H' d cc n ∧ n ≤ 2000 * i ∧ Tabs T H') ?_ ?_ ?_
    · exact ⟨_, _, _, _, _, _, _, _, _, _, _, 0, rfl, hpen0, Nat.le_refl _, hT.same sm0⟩
    · rintro i σ H1 hi ⟨v2, v3, v4, v5, v6, v7, v8, v9, v10, v11, v12, n, rfl, hp1, hn, T1'⟩
      -- deeds
      refine ⟨_, rfl, _, rfl, d, cc, n, 3, rfl, hp1, by omega, by decide, by decide, fun r0 H2 r00 r01 hp2 kp2 => ⟨_, _, rfl, rfl, ?_⟩⟩
      obtain ⟨M', eM, hM'⟩ : ∃ M' : Nat, 1 + r0 = (M' : Int) ∧ (1 ≤ M' ∧ M' ≤ 6) := ⟨(1 + r0).toNat, by omega, by omega, by omega⟩
      refine ⟨d, cc, n + 1, M', by show [V.ref d, V.int (1 + r0)] = _; rw [eM], hp2, by omega, by omega, fun dl ws H3 hdl0 hdl3 hwl hnd hwd heq hp3 kp3 => ?_⟩
      have dd : Dd ws := ⟨hnd, hwd, by omega, heq⟩
      have T3 : Tabs T H3 := (T1'.pen hp1 kp2).pen hp2 kp3
      have ndl : dl ≠ d := by
        obtain ⟨_, _, _, hd, _⟩ := hp3
        exact ne_of hdl3 hd (by intro z; cases z)
      -- the rhythm
      refine ⟨_, rfl, _, rfl, _, ws.length, rfl, .inl ⟨_, SqL.of hdl3, (List.length_map _).symm⟩, d, cc, _, ws.length, rfl, hp3, by omega, by omega, fun rh m ks H4 hrh0 hrh hm hP hk2 hp4 kp4 => ?_⟩
      have T4 : Tabs T H4 := T3.pen hp3 kp4
      have hdl4 := kp4 _ _ hdl3 ndl
      have ixk : Ix ws.length ks := hP.2
      -- the timing
      refine ⟨_, rfl, _, rfl, dl, rh, ws, m, ks, rfl, SqL.of hdl4, dd, hrh, hm, hP, by omega, fun x H5 hx0 s5 tim5 => ?_⟩
      have tn5 : Tn K C T H5 d cc _ dl rh x ws m ks := ⟨hp4.same s5, s5 _ _ hdl4, hrh.same s5, tim5, T4.same s5⟩
      obtain ⟨q, hrh5, hq5⟩ := id tn5.hrh
      refine ⟨_, rfl, rh, _, 1, .ref q, rfl, rfl, SqT.of hrh5, rfl, q, rfl, ⟨_, hq5⟩, fun ow how => ?_⟩
      refine lc_tup (K := K) (a := q) (xs := ks.map V.int) (fun i H' => Same H5 H' ∧ H' ow = some (.lst ((nm ws (ks.take i)).map V.str))) ?_ ?_ ?_ ?_
      · exact ⟨same_upd how, upd_same⟩
      · exact fun i H' _ z => hq5.ext z.1
      · rintro j y H6 hj ⟨sm, hD⟩
        rw [List.getElem?_map] at hj
        obtain ⟨e, ej, rfl⟩ := Option.map_eq_some_iff.mp hj
        obtain ⟨j0, j1⟩ := ixk e (List.mem_of_getElem? ej)
        refine ⟨rfl, _, rfl, _, rfl, dl, _, e, _, rfl, rfl, SqL.of (sm _ _ tn5.hdl), at_deed j0 j1, _, hD, ?_, ?_, ?_⟩
        · rw [List.length_map, nm, List.length_map, List.length_take]; exact small1000 (by omega)
        · exact fun b u e => by rw [upd_ne (ne_of_none e how)]; exact sm b u e
        · have e : ks.take (j + 1) = ks.take j ++ [e] := by rw [List.take_add_one, ej]; rfl
          rw [upd_same, e, nm, nm, List.map_append, List.map_append]; rfl
      · rintro H6 ⟨s6, how6⟩
        rw [List.length_map, List.take_length] at how6
        refine ⟨Nat.le_of_ble_eq_true rfl, fun tp htp => ?_⟩
        have s7 := same_upd (o := .tup [V.ref x, V.ref ow]) htp
        have tn7 := tn5.same (s6.trans s7)
        have how7 := s7 _ _ how6
        refine ⟨tp, _, rfl, SqT.of upd_same, rfl, _, _, rfl, _, _, rfl, rfl, ?_⟩
        generalize upd H6 tp (.tup [V.ref x, V.ref ow]) = H7 at tn7 how7 ⊢
        clear s6 s7 hrh5 hq5 tim5 tn5
        have om := hm.ok
        have gn := good_nm dd hP (by omega : ks.length ≤ 10)
        have osn := ok_good gn
        obtain ⟨dx, o, hx7, ho7⟩ := id tn7.tim
        obtain ⟨q7, hrh7, _⟩ := id tn7.hrh
        -- made.most, made.owed
        refine ⟨_, rfl, x, C, dx, _, _, rfl, hx7, M.cl, M.nM, tf_most _ _, _, rfl, rh, _, 0, m, rfl, rfl, SqT.of hrh7, rfl, _, _, om.dp, om.dp, om.sh, om.sh, _, rfl, ?_⟩
        rw [om.eqv om]
        refine ite2 (fun h => absurd h (by simp)) (fun _ => ?_)
        refine ⟨_, rfl, x, C, dx, _, _, rfl, hx7, M.cl, M.nO, tf_owed _ _, _, rfl, ow, _, rfl, .inl ⟨SqL.of how7, fun p hp => ?_⟩⟩
        have s8 := same_upd (o := .tup ((nm ws ks).map V.str)) hp
        refine ⟨_, _, .tup (ho7.ext s8) (dp_strs _), .tup (SqT.of upd_same) (dp_strs _), shaped_strs osn, shaped_strs osn, _, rfl, ?_⟩
        rw [PyData.eqv, eqv_strs]
        refine ite2 (fun h => absurd h (by simp)) (fun _ => ?_)
        have tn8 := tn7.same s8
        have how8 := s8 _ _ how7
        have hrh8 := s8 _ _ hrh7
        generalize upd H7 p (.tup ((nm ws ks).map V.str)) = H8 at tn8 how8 hrh8 ⊢
        clear s8
        -- made != Timing(..)
        refine ⟨_, rfl, _, rfl, rh, _, 0, m, rfl, rfl, SqT.of hrh8, rfl, _, rfl, ow, _, rfl, .inl ⟨SqL.of how8, fun p hp => ?_⟩⟩
        have s9 := same_upd (o := .tup ((nm ws ks).map V.str)) hp
        intro y dy hy hdy ndy
        apply tim_new (ws := nm ws ks) hm.num hm.thA hy hdy (.inr (SqT.of upd_same)) gn
        intro y1 H9 hy1 s9' ty
        have tn9 := tn8.same (s9.trans s9')
        have how9 := s9' _ _ (s9 _ _ how8)
        have hrh9 := s9' _ _ (s9 _ _ hrh8)
        obtain ⟨dx9, o9, hx9, ho9⟩ := id tn9.tim
        obtain ⟨dy9, p9, hy9, hpy9⟩ := id ty
        refine ⟨x, y1, dx9, dy9, _, _, rfl, rfl, hx9, hy9, x, y1, m, m, nm ws ks, nm ws ks, rfl, tn9.tim, ty, om, om, osn, osn, _, rfl, _, rfl, ?_⟩
        refine ite2 (fun h => absurd h (by simp)) (fun _ => ?_)
        -- made == Timing(10 ** 30, owed)
        refine ⟨_, rfl, _, _, rfl, rfl, ⟨by decide, by decide, by decide⟩, _, rfl, fun z dz hz hdz ndz => ?_⟩
        apply tim_new (m := .int (10 ^ Int.toNat 30)) (ws := nm ws ks) (by decide +kernel) (fun G => ⟨_, .int _⟩) hz hdz (.inl (SqL.of how9)) gn
        intro z1 H10 hz1 s10 tz
        have tn10 := tn9.same s10
        have how10 := s10 _ _ how9
        have hrh10 := s10 _ _ hrh9
        obtain ⟨dxa, oa, hxa, hoa⟩ := id tn10.tim
        obtain ⟨dza, pa, hza, hpa⟩ := id tz
        refine ⟨x, z1, dxa, dza, _, _, rfl, rfl, hxa, hza, x, z1, m, .int (10 ^ Int.toNat 30), nm ws ks, nm ws ks, rfl, tn10.tim, tz, om, .inr ⟨_, rfl⟩, osn, osn, _, rfl, _, rfl, ?_⟩
        have hne : ¬ (m = .int (10 ^ Int.toNat 30) ∧ nm ws ks = nm ws ks) := fun h => by
          rcases hm with e | ⟨i, e, _, h3⟩
          · rw [e] at h; cases h.1
          · rw [e] at h
            have := V.int.inj h.1
            have h30 : (10 : Int) ^ Int.toNat 30 > 3 := by decide +kernel
            omega
        rw [decide_eq_false hne]
        refine iteF ?_
        -- made == Timing(.., owed + [..])
        have hw0 : ws.getD 0 "" ∈ ws := by
          have hl : 0 < ws.length := by omega
          rw [List.getD_eq_getElem?_getD, List.getElem?_eq_getElem hl]
          exact List.getElem_mem hl
        have wsh := (dd.wd _ hw0).short
        refine ⟨_, rfl, _, rfl, rh, _, 0, m, rfl, rfl, SqT.of hrh10, rfl, _, rfl, _, rfl, dl, _, 0, _, rfl, rfl, SqL.of tn10.hdl, at_deed (k := 0) (by decide) (by omega), _, _, rfl, rfl, ?_, Nat.le_of_ble_eq_true rfl, fun q hq => ?_⟩
        · have h3 : ("000" : Str).length = 3 := by decide +kernel
          rw [h3]; show (ws.getD 0 "").length + 3 ≤ sizeLine; exact Nat.le_of_lt (small1000 (by have := len_word (dd.wd _ hw0).word; omega))
        have gm := good_more dd hP (by omega : ks.length ≤ 10) hw0
        have s11 := same_upd (o := .lst [V.str (ws.getD 0 "" ++ "000")]) hq
        refine ⟨ow, q, _, _, rfl, rfl, s11 _ _ how10, upd_same, by rw [List.length_map, nm_len]; exact Nat.le_of_lt (small1000 (by simp; omega)), fun q2 hq2 => ?_⟩
        have s12 := same_upd (o := .lst ((nm ws ks).map V.str ++ [V.str (ws.getD 0 "" ++ "000")])) hq2
        intro u du hu hdu ndu
        apply tim_new (ws := nm ws ks ++ [ws.getD 0 "" ++ "000"]) hm.num hm.thA hu hdu (.inl (SqL.of (by rw [upd_same, List.map_append]; rfl))) gm
        intro u1 H13 hu1 s13 tu
        have s14 := s11.trans (s12.trans s13)
        have tn13 := tn10.same s14
        have how13 := s14 _ _ how10
        have hrh13 := s14 _ _ hrh10
        obtain ⟨dxb, ob, hxb, hob⟩ := id tn13.tim
        obtain ⟨dub, pb, hub, hpb⟩ := id tu
        refine ⟨x, u1, dxb, dub, _, _, rfl, rfl, hxb, hub, x, u1, m, m, nm ws ks, nm ws ks ++ [ws.getD 0 "" ++ "000"], rfl, tn13.tim, tu, om, om, osn, ok_good gm, _, rfl, _, rfl, ?_⟩
        have hne2 : ¬ (m = m ∧ nm ws ks = nm ws ks ++ [ws.getD 0 "" ++ "000"]) := fun h => by
          have := congrArg List.length h.2
          simp at this
        rw [decide_eq_false hne2]
        refine iteF ?_
        -- made == (.., ..)
        refine ⟨_, rfl, _, rfl, rh, _, 0, m, rfl, rfl, SqT.of hrh13, rfl, _, rfl, ow, _, rfl, .inl ⟨SqL.of how13, fun p hp => ?_⟩⟩
        refine ⟨Nat.le_of_ble_eq_true rfl, fun p2 hp2 => ?_⟩
        have s15 := (same_upd (o := .tup ((nm ws ks).map V.str)) hp).trans (same_upd (o := .tup [m, V.ref p]) hp2)
        refine ⟨x, dxb, _, p2, _, rfl, s15 _ _ hxb, ⟨x, dxb, _, p2, _, rfl, s15 _ _ hxb, upd_same⟩, rfl, upd_same, fun H16 s16 => ⟨_, rfl, ?_⟩⟩
        refine iteF ?_
        have tn16 := tn13.same (s15.trans s16)
        refine hq3 _ H16 a d cc _ _ dl rh x ow ws m ks v7 v8 v9 v10 v11 v12 tn16 (by omega) dd hm hP hk2 fun w7 w8 w9 w10 w11 w12 n' H17 hp17 hn17 k17 T17 => ?_
        exact ⟨_, _, _, _, _, _, _, _, _, _, _, n', rfl, hp17, by omega, T17⟩
    · rintro σ H1 _
      exact hq9 _ σ H1 fun H' => k H'
end
end K1
set_option Elab.async false
set_option linter.all false
set_option maxRecDepth 100000
/-! the end of a law whose defs make lambdas: the tables of all defs -/
namespace K1
open PySem PySem.Spec PyProof.Rows L2 LamX
/-- the code object of each def of the text and its table, still empty -/
def OwnTabs (q : Program) (mg : Str → Option Value) (h : Heap) : Prop :=
  ∀ e ∈ recsOf q, ∃ (f : Addr) (o : Obj) (fd : FuncData) (c P : Addr), mg e.name = some (.ref f) ∧ h.get? f = some o ∧ o.data = .func fd ∧ fd.code = .ref c ∧ PySem.W.CodeHd h c P ∧ h.get? P = some { cls := .none, data := .fields #[] }
theorem tab_at {q : Program} {mg : Str → Option Value} {K : PySem.W.Frag} {h : Heap} {x : Str} {f c P : Addr} {oc e : Value} {od dd : Option Addr} {fd : FuncData} {sl s2 : Array (Option Value)} {vs : Array Value} (X : K.In h) (O : OwnTabs q mg h) (hx : ((recsOf q).any fun e => e.name == x) = true)
    (g : mg x = some (.ref f)) (l : K.lookup f = some ⟨oc, od, .func fd, sl⟩) (hc : fd.code = .ref c) (lc : K.lookup c = some ⟨e, dd, .fields vs, s2⟩) (h11 : vs[11]? = some (.ref P)) : PySem.W.CodeHd h c P ∧ h.get? P = some { cls := .none, data := .fields #[] } := by
  obtain ⟨r, hr, er⟩ := List.any_eq_true.mp hx
  obtain ⟨f', o, fd', c', P', a1, a2, a3, a4, a5, a6⟩ := O r hr
  rw [beq_iff_eq.mp er, g] at a1
  cases a1
  rw [X _ _ l] at a2
  cases a2
  cases a3
  rw [hc] at a4
  cases a4
  obtain ⟨o, ws, _, _, _, _, _, _, _, b1, _, b3, b4, _⟩ := id a5
  rw [X _ _ lc] at b1
  cases b1
  cases b3
  rw [h11] at b4
  cases b4
  exact ⟨a5, a6⟩
theorem walk_tabs {l : PySem.W.OpenLaw} {n k : Nat} {q : Program} {loose : List Str} {XP : (Str → Option Value) → Heap → Prop} {YP : World → Heap → Prop} {d : DefRec} {K : Params → PySem.W.Frag} {CX : World → CXT} {x : Str}
    (hn : l.most = some n) (hs : n ≤ sizeLine) (hd : d.params.defaults = []) (hr : Room k callerA) (hY : ∀ (w : World) (h : Heap), YP w h → (K w.params).In h)
    (F : ∀ (w : World) (mg : Str → Option Value) (fa : Addr) (h : Heap), YP w h → (K w.params).In h → h.Ns mainGlobals mg → mg d.name = some (.ref fa) → OwnTabs q mg h → LawAtS l w (K w.params) (CX w) k n x mg fa h)
    (hC : ∀ (w : World) (H : Hp) (s : Shared) (e : Value) (s' : Shared), CX w [] H s (fun _ _ _ => False) e s' → False) :
    PySem.W.WalkO q loose XP YP l.row.toRowW d [] (fun f vs => PySem.call f vs) := by
  refine Att.attach_callB hn hd ?_
  intro w s₀ s₁ mg mb fa o pm cd doc a vs ns G Y ho hdt hcd hmg hobj hints hlen hbits hg
  have tabs : OwnTabs q mg s₁.heap := fun e he => by
    obtain ⟨f, o, fd, c, P, b1, b2, b3, b4, b5, b6⟩ := G.T.tab e he
    exact ⟨f, o, fd, c, P, b1, b2, b3, b4, PySem.W.CodeHd.of b5 b6, b6.2⟩
  obtain ⟨fd, cs, sp, t1, t2, t3, b, s, f⟩ := F w mg fa _ Y (hY w _ Y) G.T.g hmg tabs
  exact law_callTs (hY w _ Y) G.T.g G.T.b G.T.builtins G.T.nolimit hg t1 t2 t3 G.T.bmain hobj hints (Nat.le_trans hlen hs) hr f b (fun H hH hS => s H a ns hlen hbits hH hS) fun H e s' => hC w H s₁ e s'
theorem exm_of {K : PySem.W.Frag} {S N : Addr} {b : Bool} (h1 : PySem.W.subIn K (.ref N) (.type "BaseException") = some true) (h2 : PySem.W.isClsIn K N = true) (h3 : PySem.W.typeIn K (.ref N) = some (.type "type")) (h4 : PySem.W.subIn K (.ref S) (.ref N) = some b) :
    PySem.W.exmOne K (.ref S) (.ref N) = some b := by
  have e1 : (PySem.W.subIn K (.ref N) (.type "BaseException") == some true) = true := by rw [h1] <;> rfl
  have e2 : ((PySem.W.clsIn K N).isSome && PySem.W.typeIn K (.ref N) == some (.type "type")) = true := by
    have h2' : (PySem.W.clsIn K N).isSome = true := h2
    rw [h2', h3] <;> rfl
  show (if (PySem.W.subIn K (.ref N) (.type "BaseException") == some true) = true then (if ((PySem.W.clsIn K N).isSome && PySem.W.typeIn K (.ref N) == some (.type "type")) = true then PySem.W.subIn K (.ref S) (.ref N) else none) else none) = some b
  rw [if_pos e1, if_pos e2]
  exact h4
end K1
set_option Elab.async false
set_option linter.all false
set_option maxRecDepth 100000
namespace K1
open PySem PyProof.Rows L2 LamX
set_option maxHeartbeats 0 in
theorem all_mk {l : PySem.W.OpenLaw} {q : Program} {w : World} {K : PySem.W.Frag} {h : Heap} {mg : Str → Option Value}
    {E0 f1 f2 f3 f4 f5 f6 f7 f8 f9 f10 f11 f12 f13 cc13 pt13 f14 cc14 pt14 f15 f16 f17 C o0 o1 f18 T18 f19 f20 f21 C2 f22 T22 EN NN f23 ED ND f24 EK NK f25 pK pL fa : Addr}
    {od1 an1 od2 an2 od3 an3 od4 an4 od5 an5 od6 an6 od7 an7 od8 an8 od9 an9 od10 an10 od11 an11 od12 an12 dd13c od13 an13 dd14c od14 an14 od15 an15 od16 an16 od17 an17 odT18 od18 an18 odqo0 od19 an19 od20 an20 od21 an21 odT22 od22 an22 ddN od23 an23 ddD od24 an24 ddK od25 an25 : Option Addr}
    {sl1 sl2 sl3 sl4 sl5 sl6 sl7 sl8 sl9 sl10 sl11 sl12 slc13 sl13 slc14 sl14 sl15 sl16 sl17 slT18 sl18 slqo0 sl19 sl20 sl21 slT22 sl22 sl23 sl24 sl25 : Array (Option Value)}
    {oc1 kV1 dc1 pm1 ct1 cd1 oc2 kV2 dc2 pm2 ct2 cd2 oc3 kV3 dc3 pm3 ct3 cd3 oc4 kV4 dc4 pm4 ct4 cd4 oc5 kV5 dc5 pm5 ct5 cd5 oc6 kV6 dc6 pm6 ct6 cd6 oc7 kV7 dc7 pm7 ct7 cd7 oc8 kV8 dc8 pm8 ct8 cd8 oc9 kV9 dc9 pm9 ct9 cd9 oc10 kV10 dc10 pm10 ct10 cd10 oc11 kV11 dc11 pm11 ct11 cd11 oc12 kV12 dc12 pm12 ct12 cd12 ec13 oc13 kV13 dc13 pm13 ct13 ec14 oc14 kV14 dc14 pm14 ct14 oc15 kV15 dc15 pm15 ct15 cd15 oc16 kV16 dc16 pm16 ct16 cd16 oc17 kV17 dc17 pm17 ct17 cd17 ocT18 oc18 kV18 dc18 pm18 ct18 cd18 oc19 kV19 dc19 pm19 ct19 cd19 oc20 kV20 dc20 pm20 ct20 cd20 oc21 kV21 dc21 pm21 ct21 cd21 ocT22 oc22 kV22 dc22 pm22 ct22 cd22 oc23 kV23 dc23 pm23 ct23 cd23 oc24 kV24 dc24 pm24 ct24 cd24 oc25 kV25 dc25 pm25 ct25 cd25 : Value}
    {m0N m1N m2N m3N m5N m0D m1D m2D m3D m5D m0K m1K m2K m3K m5K : Option Value}
    {tc0 tc1 tc2 tc3 : Tok}
    {nT18 nqo0 nT22 nqpK nqpL : Nat}
    {nmN qnN nmD qnD nmK qnK : Str}
    {bsN subN bsD subD bsK subK : List Value}
    {snN snD snK : List Str}
    {abN abD abK : Bool}
    {colN colD colK : Option Bool}
    {vs13 vs14 iqpK iqpL : Array Value}
    {gm : Int}
    {oqpK oqpL : Obj}
    (X : K.In h) (G : h.Ns mainGlobals mg) (hfa : mg "law" = some (.ref fa)) (O : OwnTabs q mg h)
    (a1 : PySem.W.nsIn K mainGlobals "_law_pen" = some (some (.ref f1)))
    (l1 : K.lookup f1 = some ⟨oc1, od1, .func (PySem.W.fnOf "_law_pen" "_law_pen" (defArgs sPen) (defBody sPen) (defScope sPen) .none kV1 dc1 pm1 an1 cd1 ct1), sl1⟩)
    (c1 : PySem.W.codeIn K (cd1) "_law_pen" = true)
    (k1 : PySem.W.keepIn K (.ref f1) = true)
    (a2 : PySem.W.nsIn K mainGlobals "_law_draw" = some (some (.ref f2)))
    (l2 : K.lookup f2 = some ⟨oc2, od2, .func (PySem.W.fnOf "_law_draw" "_law_draw" (defArgs sDraw) (defBody sDraw) (defScope sDraw) .none kV2 dc2 pm2 an2 cd2 ct2), sl2⟩)
    (c2 : PySem.W.codeIn K (cd2) "_law_draw" = true)
    (k2 : PySem.W.keepIn K (.ref f2) = true)
    (a3 : PySem.W.nsIn K mainGlobals "_law_pick" = some (some (.ref f3)))
    (l3 : K.lookup f3 = some ⟨oc3, od3, .func (PySem.W.fnOf "_law_pick" "_law_pick" (defArgs sPick) (defBody sPick) (defScope sPick) .none kV3 dc3 pm3 an3 cd3 ct3), sl3⟩)
    (c3 : PySem.W.codeIn K (cd3) "_law_pick" = true)
    (k3 : PySem.W.keepIn K (.ref f3) = true)
    (a4 : PySem.W.nsIn K mainGlobals "_law_shuffled" = some (some (.ref f4)))
    (l4 : K.lookup f4 = some ⟨oc4, od4, .func (PySem.W.fnOf "_law_shuffled" "_law_shuffled" (defArgs sShuf) (defBody sShuf) (defScope sShuf) .none kV4 dc4 pm4 an4 cd4 ct4), sl4⟩)
    (c4 : PySem.W.codeIn K (cd4) "_law_shuffled" = true)
    (k4 : PySem.W.keepIn K (.ref f4) = true)
    (a5 : PySem.W.nsIn K mainGlobals "_law_words" = some (some (.ref f5)))
    (l5 : K.lookup f5 = some ⟨oc5, od5, .func (PySem.W.fnOf "_law_words" "_law_words" (defArgs sWords) (defBody sWords) (defScope sWords) .none kV5 dc5 pm5 an5 cd5 ct5), sl5⟩)
    (c5 : PySem.W.codeIn K (cd5) "_law_words" = true)
    (k5 : PySem.W.keepIn K (.ref f5) = true)
    (a6 : PySem.W.nsIn K mainGlobals "_law_named" = some (some (.ref f6)))
    (l6 : K.lookup f6 = some ⟨oc6, od6, .func (PySem.W.fnOf "_law_named" "_law_named" (defArgs sNamed) (defBody sNamed) (defScope sNamed) .none kV6 dc6 pm6 an6 cd6 ct6), sl6⟩)
    (c6 : PySem.W.codeIn K (cd6) "_law_named" = true)
    (k6 : PySem.W.keepIn K (.ref f6) = true)
    (a7 : PySem.W.nsIn K mainGlobals "_law_history" = some (some (.ref f7)))
    (l7 : K.lookup f7 = some ⟨oc7, od7, .func (PySem.W.fnOf "_law_history" "_law_history" (defArgs sHist) (defBody sHist) (defScope sHist) .none kV7 dc7 pm7 an7 cd7 ct7), sl7⟩)
    (c7 : PySem.W.codeIn K (cd7) "_law_history" = true)
    (k7 : PySem.W.keepIn K (.ref f7) = true)
    (a8 : PySem.W.nsIn K mainGlobals "_law_timing" = some (some (.ref f8)))
    (l8 : K.lookup f8 = some ⟨oc8, od8, .func (PySem.W.fnOf "_law_timing" "_law_timing" (defArgs sTim) (defBody sTim) (defScope sTim) .none kV8 dc8 pm8 an8 cd8 ct8), sl8⟩)
    (c8 : PySem.W.codeIn K (cd8) "_law_timing" = true)
    (k8 : PySem.W.keepIn K (.ref f8) = true)
    (a9 : PySem.W.nsIn K mainGlobals "_law_timing_made" = some (some (.ref f9)))
    (l9 : K.lookup f9 = some ⟨oc9, od9, .func (PySem.W.fnOf "_law_timing_made" "_law_timing_made" (defArgs sTMade) (defBody sTMade) (defScope sTMade) .none kV9 dc9 pm9 an9 cd9 ct9), sl9⟩)
    (c9 : PySem.W.codeIn K (cd9) "_law_timing_made" = true)
    (k9 : PySem.W.keepIn K (.ref f9) = true)
    (a10 : PySem.W.nsIn K mainGlobals "_law_keeps" = some (some (.ref f10)))
    (l10 : K.lookup f10 = some ⟨oc10, od10, .func (PySem.W.fnOf "_law_keeps" "_law_keeps" (defArgs sKeeps) (defBody sKeeps) (defScope sKeeps) .none kV10 dc10 pm10 an10 cd10 ct10), sl10⟩)
    (c10 : PySem.W.codeIn K (cd10) "_law_keeps" = true)
    (k10 : PySem.W.keepIn K (.ref f10) = true)
    (a11 : PySem.W.nsIn K mainGlobals "_law_history_made" = some (some (.ref f11)))
    (l11 : K.lookup f11 = some ⟨oc11, od11, .func (PySem.W.fnOf "_law_history_made" "_law_history_made" (defArgs sHMade) (defBody sHMade) (defScope sHMade) .none kV11 dc11 pm11 an11 cd11 ct11), sl11⟩)
    (c11 : PySem.W.codeIn K (cd11) "_law_history_made" = true)
    (k11 : PySem.W.keepIn K (.ref f11) = true)
    (a12 : PySem.W.nsIn K mainGlobals "_law_fault" = some (some (.ref f12)))
    (l12 : K.lookup f12 = some ⟨oc12, od12, .func (PySem.W.fnOf "_law_fault" "_law_fault" (defArgs sFault) (defBody sFault) (defScope sFault) .none kV12 dc12 pm12 an12 cd12 ct12), sl12⟩)
    (c12 : PySem.W.codeIn K (cd12) "_law_fault" = true)
    (k12 : PySem.W.keepIn K (.ref f12) = true)
    (a13 : PySem.W.nsIn K mainGlobals "_law_refused" = some (some (.ref f13)))
    (l13 : K.lookup f13 = some ⟨oc13, od13, .func (PySem.W.fnOf "_law_refused" "_law_refused" (defArgs sRef) (defBody sRef) (defScope sRef) .none kV13 dc13 pm13 an13 (.ref cc13) ct13), sl13⟩)
    (c13 : PySem.W.codeIn K ((.ref cc13)) "_law_refused" = true)
    (k13 : PySem.W.keepIn K (.ref f13) = true)
    (lc13 : K.lookup cc13 = some ⟨ec13, dd13c, .fields vs13, slc13⟩)
    (h13 : vs13[11]? = some (.ref pt13))
    (np13 : K.lookup pt13 = none)
    (mr13 : ((recsOf q).any fun e => e.name == ("_law_refused" : Str)) = true)
    (a14 : PySem.W.nsIn K mainGlobals "law" = some (some (.ref f14)))
    (l14 : K.lookup f14 = some ⟨oc14, od14, .func (PySem.W.fnOf "law" "law" (defArgs sLaw) (defBody sLaw) (defScope sLaw) .none kV14 dc14 pm14 an14 (.ref cc14) ct14), sl14⟩)
    (c14 : PySem.W.codeIn K ((.ref cc14)) "law" = true)
    (k14 : PySem.W.keepIn K (.ref f14) = true)
    (lc14 : K.lookup cc14 = some ⟨ec14, dd14c, .fields vs14, slc14⟩)
    (h14 : vs14[11]? = some (.ref pt14))
    (np14 : K.lookup pt14 = none)
    (mr14 : ((recsOf q).any fun e => e.name == ("law" : Str)) = true)
    (a15 : PySem.W.nsIn K mainGlobals "is_integer" = some (some (.ref f15)))
    (l15 : K.lookup f15 = some ⟨oc15, od15, .func (PySem.W.fnOf "is_integer" "is_integer" (defArgs sIsInt) (defBody sIsInt) (defScope sIsInt) .none kV15 dc15 pm15 an15 cd15 ct15), sl15⟩)
    (c15 : PySem.W.codeIn K (cd15) "is_integer" = true)
    (k15 : PySem.W.keepIn K (.ref f15) = true)
    (a16 : PySem.W.nsIn K mainGlobals "is_word" = some (some (.ref f16)))
    (l16 : K.lookup f16 = some ⟨oc16, od16, .func (PySem.W.fnOf "is_word" "is_word" (defArgs sIsWord) (defBody sIsWord) (defScope sIsWord) .none kV16 dc16 pm16 an16 cd16 ct16), sl16⟩)
    (c16 : PySem.W.codeIn K (cd16) "is_word" = true)
    (k16 : PySem.W.keepIn K (.ref f16) = true)
    (a17 : PySem.W.nsIn K mainGlobals "check_different" = some (some (.ref f17)))
    (l17 : K.lookup f17 = some ⟨oc17, od17, .func (PySem.W.fnOf "check_different" "check_different" (defArgs sCheckDiff) (defBody sCheckDiff) (defScope sCheckDiff) .none kV17 dc17 pm17 an17 cd17 ct17), sl17⟩)
    (c17 : PySem.W.codeIn K (cd17) "check_different" = true)
    (k17 : PySem.W.keepIn K (.ref f17) = true)
    (aC : PySem.W.nsIn K mainGlobals "Timing" = some (some (.ref C)))
    (pgC : PySem.W.plainGet K C Str.empty = true)
    (hdC : PySem.W.hasDictIn K C = true)
    (poC : PySem.W.plainOver K C = true)
    (saC : PySem.W.findIn K (.ref C) "__setattr__" = some (some (.builtin "object.__setattr__")))
    (mkC : PySem.W.makesIn K C = true)
    (kcC : PySem.W.keepIn K (.ref C) = true)
    (nC_most : PySem.W.findIn K (.ref C) "most" = some none)
    (nC_owed : PySem.W.findIn K (.ref C) "owed" = some none)
    (ca_C : PySem.W.findIn K (.ref C) "__class__" = some (some (.builtin "object.__class__")))
    (cs_C : PySem.W.specialIn K (.builtin "object.__class__") "__get__" = some (some (.builtin "getset_descriptor.__get__")))
    (ct_C : PySem.W.takesIn K (.builtin "object.__class__") = some true)
    (cm_C : PySem.W.mroIn K C (.type "object") = some true)
    (ci_C : PySem.W.isClsIn K C = true)
    (ty_C : PySem.W.typeIn K (.ref C) = some (.type "type"))
    (mt : PySem.W.mroIn K C (.type "tuple") = some false)
    (a18 : PySem.W.findIn K (.ref C) "__init__" = some (some (.ref f18)))
    (i18 : PySem.W.isFn K (.ref f18) = true)
    (l18 : K.lookup f18 = some ⟨oc18, od18, .func (PySem.W.fnOf "__init__" "Timing.__init__" (defArgs sTInit) (defBody sTInit) (defScope sTInit) (.ref T18) kV18 dc18 pm18 an18 cd18 ct18), sl18⟩)
    (c18 : PySem.W.codeIn K (cd18) "Timing.__init__" = true)
    (k18 : PySem.W.keepIn K (.ref f18) = true)
    (lT18 : K.lookup T18 = some ⟨ocT18, odT18, .seq #[.none, .ref o0] nT18, slT18⟩)
    (lqo0 : K.lookup o0 = some ⟨.type "tuple", odqo0, .seq #[] nqo0, slqo0⟩)
    (a19 : PySem.W.findIn K (.ref C) "__eq__" = some (some (.ref f19)))
    (i19 : PySem.W.isFn K (.ref f19) = true)
    (l19 : K.lookup f19 = some ⟨oc19, od19, .func (PySem.W.fnOf "__eq__" "Timing.__eq__" (defArgs sTEq) (defBody sTEq) (defScope sTEq) .none kV19 dc19 pm19 an19 cd19 ct19), sl19⟩)
    (c19 : PySem.W.codeIn K (cd19) "Timing.__eq__" = true)
    (k19 : PySem.W.keepIn K (.ref f19) = true)
    (ne0 : PySem.W.findIn K (.ref C) "__ne__" = some (some (.builtin "object.__ne__")))
    (a20 : PySem.W.findIn K (.ref C) "allows" = some (some (.ref f20)))
    (i20 : PySem.W.isFn K (.ref f20) = true)
    (l20 : K.lookup f20 = some ⟨oc20, od20, .func (PySem.W.fnOf "allows" "Timing.allows" (defArgs sTAll) (defBody sTAll) (defScope sTAll) .none kV20 dc20 pm20 an20 cd20 ct20), sl20⟩)
    (c20 : PySem.W.codeIn K (cd20) "Timing.allows" = true)
    (k20 : PySem.W.keepIn K (.ref f20) = true)
    (a21 : PySem.W.findIn K (.ref C) "kept" = some (some (.ref f21)))
    (i21 : PySem.W.isFn K (.ref f21) = true)
    (l21 : K.lookup f21 = some ⟨oc21, od21, .func (PySem.W.fnOf "kept" "Timing.kept" (defArgs sTKept) (defBody sTKept) (defScope sTKept) .none kV21 dc21 pm21 an21 cd21 ct21), sl21⟩)
    (c21 : PySem.W.codeIn K (cd21) "Timing.kept" = true)
    (k21 : PySem.W.keepIn K (.ref f21) = true)
    (aC2 : PySem.W.nsIn K mainGlobals "History" = some (some (.ref C2)))
    (pgC2 : PySem.W.plainGet K C2 Str.empty = true)
    (hdC2 : PySem.W.hasDictIn K C2 = true)
    (poC2 : PySem.W.plainOver K C2 = true)
    (saC2 : PySem.W.findIn K (.ref C2) "__setattr__" = some (some (.builtin "object.__setattr__")))
    (mkC2 : PySem.W.makesIn K C2 = true)
    (kcC2 : PySem.W.keepIn K (.ref C2) = true)
    (nC2_stretches : PySem.W.findIn K (.ref C2) "stretches" = some none)
    (a22 : PySem.W.findIn K (.ref C2) "__init__" = some (some (.ref f22)))
    (i22 : PySem.W.isFn K (.ref f22) = true)
    (l22 : K.lookup f22 = some ⟨oc22, od22, .func (PySem.W.fnOf "__init__" "History.__init__" (defArgs sHInit) (defBody sHInit) (defScope sHInit) (.ref T22) kV22 dc22 pm22 an22 cd22 ct22), sl22⟩)
    (c22 : PySem.W.codeIn K (cd22) "History.__init__" = true)
    (k22 : PySem.W.keepIn K (.ref f22) = true)
    (lT22 : K.lookup T22 = some ⟨ocT22, odT22, .seq #[.ref o1] nT22, slT22⟩)
    (a00 : PySem.W.nsIn K mainGlobals "LooksError" = some (some (.ref E0)))
    (aN : PySem.W.nsIn K mainGlobals "BadNumber" = some (some (.ref EN)))
    (xN : K.lookup EN = some (excClassObj nmN qnN EN NN bsN [.ref E0, .type "ValueError", .type "Exception", .type "BaseException", .type "object"] true snN subN abN colN ddN m0N m1N m2N m3N m5N "ValueError.__new__"))
    (saN : PySem.W.findIn K (.ref EN) "__setattr__" = some (some (.builtin "object.__setattr__")))
    (gaN : PySem.W.findIn K (.ref EN) "__getattribute__" = some (some (.builtin "BaseException.__getattribute__")))
    (ggN : PySem.W.findIn K (.ref EN) "__getattr__" = some none)
    (eN : PySem.W.subIn K (.ref EN) (.type "BaseException") = some true)
    (tN : PySem.W.typeIn K (.ref EN) = some (.type "type"))
    (kkN : PySem.W.keepIn K (.ref EN) = true)
    (hN : PySem.W.hasDictIn K EN = true)
    (iN : PySem.W.isClsIn K EN = true)
    (noN_number : PySem.W.findIn K (.ref EN) "number" = some none)
    (a23 : PySem.W.findIn K (.ref EN) "__init__" = some (some (.ref f23)))
    (t23 : PySem.W.typeIn K (.ref f23) = some (.type "function"))
    (l23 : K.lookup f23 = some ⟨oc23, od23, .func (PySem.W.fnOf "__init__" "BadNumber.__init__" (defArgs sBadNumber) (defBody sBadNumber) (defScope sBadNumber) .none kV23 dc23 pm23 an23 cd23 ct23), sl23⟩)
    (c23 : PySem.W.codeIn K (cd23) "BadNumber.__init__" = true)
    (k23 : PySem.W.keepIn K (.ref f23) = true)
    (aD : PySem.W.nsIn K mainGlobals "BadDeeds" = some (some (.ref ED)))
    (xD : K.lookup ED = some (excClassObj nmD qnD ED ND bsD [.ref E0, .type "ValueError", .type "Exception", .type "BaseException", .type "object"] true snD subD abD colD ddD m0D m1D m2D m3D m5D "ValueError.__new__"))
    (saD : PySem.W.findIn K (.ref ED) "__setattr__" = some (some (.builtin "object.__setattr__")))
    (gaD : PySem.W.findIn K (.ref ED) "__getattribute__" = some (some (.builtin "BaseException.__getattribute__")))
    (ggD : PySem.W.findIn K (.ref ED) "__getattr__" = some none)
    (eD : PySem.W.subIn K (.ref ED) (.type "BaseException") = some true)
    (tD : PySem.W.typeIn K (.ref ED) = some (.type "type"))
    (kkD : PySem.W.keepIn K (.ref ED) = true)
    (hD : PySem.W.hasDictIn K ED = true)
    (iD : PySem.W.isClsIn K ED = true)
    (noD_index : PySem.W.findIn K (.ref ED) "index" = some none)
    (a24 : PySem.W.findIn K (.ref ED) "__init__" = some (some (.ref f24)))
    (t24 : PySem.W.typeIn K (.ref f24) = some (.type "function"))
    (l24 : K.lookup f24 = some ⟨oc24, od24, .func (PySem.W.fnOf "__init__" "BadDeeds.__init__" (defArgs sBadDeeds) (defBody sBadDeeds) (defScope sBadDeeds) .none kV24 dc24 pm24 an24 cd24 ct24), sl24⟩)
    (c24 : PySem.W.codeIn K (cd24) "BadDeeds.__init__" = true)
    (k24 : PySem.W.keepIn K (.ref f24) = true)
    (aK : PySem.W.nsIn K mainGlobals "BadKind" = some (some (.ref EK)))
    (xK : K.lookup EK = some (excClassObj nmK qnK EK NK bsK [.ref E0, .type "ValueError", .type "Exception", .type "BaseException", .type "object"] true snK subK abK colK ddK m0K m1K m2K m3K m5K "ValueError.__new__"))
    (saK : PySem.W.findIn K (.ref EK) "__setattr__" = some (some (.builtin "object.__setattr__")))
    (gaK : PySem.W.findIn K (.ref EK) "__getattribute__" = some (some (.builtin "BaseException.__getattribute__")))
    (ggK : PySem.W.findIn K (.ref EK) "__getattr__" = some none)
    (eK : PySem.W.subIn K (.ref EK) (.type "BaseException") = some true)
    (tK : PySem.W.typeIn K (.ref EK) = some (.type "type"))
    (kkK : PySem.W.keepIn K (.ref EK) = true)
    (hK : PySem.W.hasDictIn K EK = true)
    (iK : PySem.W.isClsIn K EK = true)
    (noK_kind : PySem.W.findIn K (.ref EK) "kind" = some none)
    (a25 : PySem.W.findIn K (.ref EK) "__init__" = some (some (.ref f25)))
    (t25 : PySem.W.typeIn K (.ref f25) = some (.type "function"))
    (l25 : K.lookup f25 = some ⟨oc25, od25, .func (PySem.W.fnOf "__init__" "BadKind.__init__" (defArgs sBadKind) (defBody sBadKind) (defScope sBadKind) .none kV25 dc25 pm25 an25 cd25 ct25), sl25⟩)
    (c25 : PySem.W.codeIn K (cd25) "BadKind.__init__" = true)
    (k25 : PySem.W.keepIn K (.ref f25) = true)
    (sNN : PySem.W.subIn K (.ref EN) (.ref EN) = some true)
    (sDN : PySem.W.subIn K (.ref ED) (.ref EN) = some false)
    (sDD : PySem.W.subIn K (.ref ED) (.ref ED) = some true)
    (sKN : PySem.W.subIn K (.ref EK) (.ref EN) = some false)
    (sKD : PySem.W.subIn K (.ref EK) (.ref ED) = some false)
    (sKK : PySem.W.subIn K (.ref EK) (.ref EK) = some true)
    (co_LETTERS : PySem.W.nsIn K mainGlobals "LETTERS" = some (some (.str zLE tc0)))
    (co_DIGITS : PySem.W.nsIn K mainGlobals "DIGITS" = some (some (.str zDG tc1)))
    (co_LONGEST_WORD : PySem.W.nsIn K mainGlobals "LONGEST_WORD" = some (some (.int 12 tc2)))
    (z_int : PySem.W.nsIn K mainGlobals "int" = some none)
    (z_len : PySem.W.nsIn K mainGlobals "len" = some none)
    (z_list : PySem.W.nsIn K mainGlobals "list" = some none)
    (z_range : PySem.W.nsIn K mainGlobals "range" = some none)
    (z_tuple : PySem.W.nsIn K mainGlobals "tuple" = some none)
    (z_isinstance : PySem.W.nsIn K mainGlobals "isinstance" = some none)
    (z_bool : PySem.W.nsIn K mainGlobals "bool" = some none)
    (z_str : PySem.W.nsIn K mainGlobals "str" = some none)
    (z_all : PySem.W.nsIn K mainGlobals "all" = some none)
    (z_enumerate : PySem.W.nsIn K mainGlobals "enumerate" = some none)
    (z_min : PySem.W.nsIn K mainGlobals "min" = some none)
    (co_GREATEST_MOST : PySem.W.nsIn K mainGlobals "GREATEST_MOST" = some (some (.int gm tc3)))
    (egm : gm = (10 : Int) ^ 30)
    (aKS : PySem.W.nsIn K mainGlobals "KINDS" = some (some (.ref pK)))
    (lqpK : K.lookup pK = some oqpK)
    (cqpK : oqpK.cls = .type "tuple")
    (dqpK : oqpK.data = .seq iqpK nqpK)
    (zqpK : iqpK.size ≤ sizeLine)
    (vqpK : Vals [.str "carried", .str "stretch", .str "joined", .str "taken"] iqpK.toList)
    (aLK : PySem.W.nsIn K mainGlobals "LATE_KINDS" = some (some (.ref pL)))
    (lqpL : K.lookup pL = some oqpL)
    (cqpL : oqpL.cls = .type "tuple")
    (dqpL : oqpL.data = .seq iqpL nqpL)
    (zqpL : iqpL.size ≤ sizeLine)
    (vqpL : Vals [.str "joined", .str "taken"] iqpL.toList)
    (z_any : PySem.W.nsIn K mainGlobals "any" = some none)
    (z_NotImplemented : PySem.W.nsIn K mainGlobals "NotImplemented" = some none)
    (npp : pt14 ≠ pt13) :
    LawAtS l w K L2.CX0 9 63 "_law_script" mg fa h := by
  have e := (PySem.W.mg_of X G a14).symm.trans hfa
  cases e
  have D1 : Df K mg "_law_pen" sPen ["_law_script"] f1 _ := ⟨fun_mk (st := sPen) l1 c1 k1, PySem.W.mg_of X G a1, (fun_mk (st := sPen) l1 c1 k1).binds (ps := ["_law_script"]) fun _ _ _ _ _ _ us hl => match us, hl with | [_], _ => rfl⟩
  have D2 : Df K mg "_law_draw" sDraw ["_law_pen_here", "_law_many"] f2 _ := ⟨fun_mk (st := sDraw) l2 c2 k2, PySem.W.mg_of X G a2, (fun_mk (st := sDraw) l2 c2 k2).binds (ps := ["_law_pen_here", "_law_many"]) fun _ _ _ _ _ _ us hl => match us, hl with | [_, _], _ => rfl⟩
  have D3 : Df K mg "_law_pick" sPick ["_law_pen_here", "_law_some"] f3 _ := ⟨fun_mk (st := sPick) l3 c3 k3, PySem.W.mg_of X G a3, (fun_mk (st := sPick) l3 c3 k3).binds (ps := ["_law_pen_here", "_law_some"]) fun _ _ _ _ _ _ us hl => match us, hl with | [_, _], _ => rfl⟩
  have D4 : Df K mg "_law_shuffled" sShuf ["_law_pen_here", "_law_some"] f4 _ := ⟨fun_mk (st := sShuf) l4 c4 k4, PySem.W.mg_of X G a4, (fun_mk (st := sShuf) l4 c4 k4).binds (ps := ["_law_pen_here", "_law_some"]) fun _ _ _ _ _ _ us hl => match us, hl with | [_, _], _ => rfl⟩
  have D5 : Df K mg "_law_words" sWords ["_law_pen_here", "_law_many"] f5 _ := ⟨fun_mk (st := sWords) l5 c5 k5, PySem.W.mg_of X G a5, (fun_mk (st := sWords) l5 c5 k5).binds (ps := ["_law_pen_here", "_law_many"]) fun _ _ _ _ _ _ us hl => match us, hl with | [_, _], _ => rfl⟩
  have D6 : Df K mg "_law_named" sNamed ["_law_deeds", "_law_row"] f6 _ := ⟨fun_mk (st := sNamed) l6 c6 k6, PySem.W.mg_of X G a6, (fun_mk (st := sNamed) l6 c6 k6).binds (ps := ["_law_deeds", "_law_row"]) fun _ _ _ _ _ _ us hl => match us, hl with | [_, _], _ => rfl⟩
  have D7 : Df K mg "_law_history" sHist ["_law_pen_here", "_law_width", "_law_looks", "_law_most"] f7 _ := ⟨fun_mk (st := sHist) l7 c7 k7, PySem.W.mg_of X G a7, (fun_mk (st := sHist) l7 c7 k7).binds (ps := ["_law_pen_here", "_law_width", "_law_looks", "_law_most"]) fun _ _ _ _ _ _ us hl => match us, hl with | [_, _, _, _], _ => rfl⟩
  have D8 : Df K mg "_law_timing" sTim ["_law_pen_here", "_law_width"] f8 _ := ⟨fun_mk (st := sTim) l8 c8 k8, PySem.W.mg_of X G a8, (fun_mk (st := sTim) l8 c8 k8).binds (ps := ["_law_pen_here", "_law_width"]) fun _ _ _ _ _ _ us hl => match us, hl with | [_, _], _ => rfl⟩
  have D9 : Df K mg "_law_timing_made" sTMade ["_law_deeds", "_law_rhythm"] f9 _ := ⟨fun_mk (st := sTMade) l9 c9 k9, PySem.W.mg_of X G a9, (fun_mk (st := sTMade) l9 c9 k9).binds (ps := ["_law_deeds", "_law_rhythm"]) fun _ _ _ _ _ _ us hl => match us, hl with | [_, _], _ => rfl⟩
  have D10 : Df K mg "_law_keeps" sKeeps ["_law_rhythm", "_law_kind", "_law_stretches"] f10 _ := ⟨fun_mk (st := sKeeps) l10 c10 k10, PySem.W.mg_of X G a10, (fun_mk (st := sKeeps) l10 c10 k10).binds (ps := ["_law_rhythm", "_law_kind", "_law_stretches"]) fun _ _ _ _ _ _ us hl => match us, hl with | [_, _, _], _ => rfl⟩
  have D11 : Df K mg "_law_history_made" sHMade ["_law_deeds", "_law_stretches"] f11 _ := ⟨fun_mk (st := sHMade) l11 c11 k11, PySem.W.mg_of X G a11, (fun_mk (st := sHMade) l11 c11 k11).binds (ps := ["_law_deeds", "_law_stretches"]) fun _ _ _ _ _ _ us hl => match us, hl with | [_, _], _ => rfl⟩
  have D12 : Df K mg "_law_fault" sFault ["_law_ask"] f12 _ := ⟨fun_mk (st := sFault) l12 c12 k12, PySem.W.mg_of X G a12, (fun_mk (st := sFault) l12 c12 k12).binds (ps := ["_law_ask"]) fun _ _ _ _ _ _ us hl => match us, hl with | [_], _ => rfl⟩
  have FC13 : FunC K "_law_refused" "_law_refused" sRef f13 _ cc13 := ⟨⟨_, _, _, _, _, _, _, _, rfl, l13, c13⟩, k13⟩
  have TA13 := tab_at (q := q) X O mr13 (PySem.W.mg_of X G a13) l13 rfl lc13 h13
  have D13 : Df K mg "_law_refused" sRef ["_law_pen_here", "_law_deeds", "_law_most"] f13 _ := ⟨FC13.toFun, PySem.W.mg_of X G a13, FC13.toFun.binds (ps := ["_law_pen_here", "_law_deeds", "_law_most"]) fun _ _ _ _ _ _ us hl => match us, hl with | [_, _, _], _ => rfl⟩
  have FC14 : FunC K "law" "law" sLaw f14 _ cc14 := ⟨⟨_, _, _, _, _, _, _, _, rfl, l14, c14⟩, k14⟩
  have TA14 := tab_at (q := q) X O mr14 (PySem.W.mg_of X G a14) l14 rfl lc14 h14
  have D14 : Df K mg "law" sLaw ["_law_script"] f14 _ := ⟨FC14.toFun, PySem.W.mg_of X G a14, FC14.toFun.binds (ps := ["_law_script"]) fun _ _ _ _ _ _ us hl => match us, hl with | [_], _ => rfl⟩
  have D15 : Df K mg "is_integer" sIsInt ["value"] f15 _ := ⟨fun_mk (st := sIsInt) l15 c15 k15, PySem.W.mg_of X G a15, (fun_mk (st := sIsInt) l15 c15 k15).binds (ps := ["value"]) fun _ _ _ _ _ _ us hl => match us, hl with | [_], _ => rfl⟩
  have D16 : Df K mg "is_word" sIsWord ["value"] f16 _ := ⟨fun_mk (st := sIsWord) l16 c16 k16, PySem.W.mg_of X G a16, (fun_mk (st := sIsWord) l16 c16 k16).binds (ps := ["value"]) fun _ _ _ _ _ _ us hl => match us, hl with | [_], _ => rfl⟩
  have D17 : Df K mg "check_different" sCheckDiff ["deeds"] f17 _ := ⟨fun_mk (st := sCheckDiff) l17 c17 k17, PySem.W.mg_of X G a17, (fun_mk (st := sCheckDiff) l17 c17 k17).binds (ps := ["deeds"]) fun _ _ _ _ _ _ us hl => match us, hl with | [_], _ => rfl⟩
  have F18 : FunD K "__init__" "Timing.__init__" (defArgs sTInit) (defBody sTInit) (defScope sTInit) [.non, .ref o0] [] f18 _ := ⟨⟨_, _, _, _, _, _, _, _, _, _, rfl, l18, c18, .inr ⟨by simp, T18, _, [.none, .ref o0], nT18, rfl, lT18, rfl, (.cons rfl (.cons rfl .nil))⟩, .inl rfl⟩, k18⟩
  have b18 : Binds K (PySem.W.fnOf "__init__" "Timing.__init__" (defArgs sTInit) (defBody sTInit) (defScope sTInit) (.ref T18) kV18 dc18 pm18 an18 cd18 ct18) ["self", "most", "owed"] [] := by
    obtain ⟨ds, v, b⟩ := F18.binds1 (ps := ["self", "most", "owed"]) 3 2 (by simp) rfl fun T kV doc pm an cdv ct us its hu hi => match us, hu, its, hi with | [_, _, _], _, [_, _], _ => ⟨_, rfl, rfl⟩
    cases v
    exact b
  obtain ⟨ds18, vd18, b018⟩ := F18.binds1 (ps := ["self", "most", "owed"]) 1 0 (by simp) rfl fun T kV doc pm an cdv ct us its hu hi => match us, hu, its, hi with | [_], _, [_, _], _ => ⟨_, rfl, rfl⟩
  have Mk18 : Mk K C f18 := ⟨mkC, a18, i18, kcC⟩
  have F19 := fun_mk (st := sTEq) l19 c19 k19
  have b19 : Binds K _ ["self", "other"] [] := F19.binds (ps := ["self", "other"]) fun _ _ _ _ _ _ us hl => match us, hl with | [_, _], _ => rfl
  have F20 := fun_mk (st := sTAll) l20 c20 k20
  have b20 : Binds K _ ["self", "row"] [] := F20.binds (ps := ["self", "row"]) fun _ _ _ _ _ _ us hl => match us, hl with | [_, _], _ => rfl
  have MT20 : Meth K C "allows" f20 := ⟨a20, i20, k20⟩
  have F21 := fun_mk (st := sTKept) l21 c21 k21
  have b21 : Binds K _ ["self", "history", "kind"] [] := F21.binds (ps := ["self", "history", "kind"]) fun _ _ _ _ _ _ us hl => match us, hl with | [_, _, _], _ => rfl
  have MT21 : Meth K C "kept" f21 := ⟨a21, i21, k21⟩
  have F22 : FunD K "__init__" "History.__init__" (defArgs sHInit) (defBody sHInit) (defScope sHInit) [.ref o1] [] f22 _ := ⟨⟨_, _, _, _, _, _, _, _, _, _, rfl, l22, c22, .inr ⟨by simp, T22, _, [.ref o1], nT22, rfl, lT22, rfl, (.cons rfl .nil)⟩, .inl rfl⟩, k22⟩
  have b22 : Binds K (PySem.W.fnOf "__init__" "History.__init__" (defArgs sHInit) (defBody sHInit) (defScope sHInit) (.ref T22) kV22 dc22 pm22 an22 cd22 ct22) ["self", "stretches"] [] := by
    obtain ⟨ds, v, b⟩ := F22.binds1 (ps := ["self", "stretches"]) 2 1 (by simp) rfl fun T kV doc pm an cdv ct us its hu hi => match us, hu, its, hi with | [_, _], _, [_], _ => ⟨_, rfl, rfl⟩
    cases v
    exact b
  obtain ⟨ds22, vd22, b022⟩ := F22.binds1 (ps := ["self", "stretches"]) 1 0 (by simp) rfl fun T kV doc pm an cdv ct us its hu hi => match us, hu, its, hi with | [_], _, [_], _ => ⟨_, rfl, rfl⟩
  have Mk22 : Mk K C2 f22 := ⟨mkC2, a22, i22, kcC2⟩
  have FEN := fun_mk (st := sBadNumber) l23 c23 k23
  have ON : OBadNumber K mg EN f23 _ := ⟨⟨⟨nmN, qnN, NN, bsN, _, snN, subN, abN, colN, ddN, m0N, m1N, m2N, m3N, m5N, xN, rfl⟩, saN, eN, tN, kkN⟩, ⟨gaN, ggN, eN, hN⟩, PySem.W.mg_of X G aN, a23, t23, (fun f hf => by
      simp only [List.mem_cons, List.not_mem_nil, or_false] at hf
      rcases hf with rfl
      · exact noN_number), FEN, FEN.binds (ps := ["self", "number"]) fun _ _ _ _ _ _ us hl => match us, hl with | [_, _], _ => rfl⟩
  have FED := fun_mk (st := sBadDeeds) l24 c24 k24
  have OD : OBadDeeds K mg ED f24 _ := ⟨⟨⟨nmD, qnD, ND, bsD, _, snD, subD, abD, colD, ddD, m0D, m1D, m2D, m3D, m5D, xD, rfl⟩, saD, eD, tD, kkD⟩, ⟨gaD, ggD, eD, hD⟩, PySem.W.mg_of X G aD, a24, t24, (fun f hf => by
      simp only [List.mem_cons, List.not_mem_nil, or_false] at hf
      rcases hf with rfl
      · exact noD_index), FED, FED.binds (ps := ["self", "index"]) fun _ _ _ _ _ _ us hl => match us, hl with | [_, _], _ => rfl⟩
  have FEK := fun_mk (st := sBadKind) l25 c25 k25
  have OK : OBadKind K mg EK f25 _ := ⟨⟨⟨nmK, qnK, NK, bsK, _, snK, subK, abK, colK, ddK, m0K, m1K, m2K, m3K, m5K, xK, rfl⟩, saK, eK, tK, kkK⟩, ⟨gaK, ggK, eK, hK⟩, PySem.W.mg_of X G aK, a25, t25, (fun f hf => by
      simp only [List.mem_cons, List.not_mem_nil, or_false] at hf
      rcases hf with rfl
      · exact noK_kind), FEK, FEK.binds (ps := ["self", "kind"]) fun _ _ _ _ _ _ us hl => match us, hl with | [_, _], _ => rfl⟩
  refine ⟨PySem.W.fnOf "law" "law" (defArgs sLaw) (defBody sLaw) (defScope sLaw) .none kV14 dc14 pm14 an14 (.ref cc14) ct14, [(cc14, pt14), (cc13, pt13)], spLaw K [(pt14, qLaw), (pt13, qRef)], ?_, ?_, ?_, fun s v => .of_eq rfl, ?_, fun base _ _ TB => ?_⟩
  · intro p hp
    simp only [List.mem_cons, List.not_mem_nil, or_false] at hp
    rcases hp with rfl | rfl
    · exact TA14.2
    · exact TA13.2
  · intro p hp
    simp only [List.mem_cons, List.not_mem_nil, or_false] at hp
    rcases hp with rfl | rfl
    · exact np14
    · exact np13
  · intro p hp
    simp only [List.mem_cons, List.not_mem_nil, or_false] at hp
    rcases hp with rfl | rfl
    · exact TA14.1
    · exact TA13.1
  · intro H a ns hns _ hT hS
    refine ⟨a, ns, rfl, hS, hns, fun p hp => ?_, fun _ => rfl⟩
    simp only [List.mem_cons, List.not_mem_nil, or_false] at hp
    rcases hp with rfl | rfl
    · exact TabS.nil (hT (cc14, pt14) (by simp))
    · exact TabS.nil (hT (cc13, pt13) (by simp))
  · have BT : Bt2 mg := ⟨⟨PySem.W.mg_none_of X G z_int, PySem.W.mg_none_of X G z_len, PySem.W.mg_none_of X G z_list, PySem.W.mg_none_of X G z_range, PySem.W.mg_none_of X G z_tuple⟩, PySem.W.mg_none_of X G z_isinstance, PySem.W.mg_none_of X G z_bool, PySem.W.mg_none_of X G z_str, PySem.W.mg_none_of X G z_all, PySem.W.mg_none_of X G z_enumerate, PySem.W.mg_none_of X G z_min, ⟨_, PySem.W.mg_of X G co_LETTERS⟩, ⟨_, PySem.W.mg_of X G co_DIGITS⟩, ⟨_, PySem.W.mg_of X G co_LONGEST_WORD⟩⟩
    have BK : Bk K mg := ⟨PySem.W.mg_none_of X G z_any, ⟨_, by rw [← egm]; exact PySem.W.mg_of X G co_GREATEST_MOST⟩,
      ⟨pK, PySem.W.mg_of X G aKS, (fun H => .inr ⟨_, _, _, lqpK, cqpK, dqpK, zqpK, vqpK⟩)⟩,
      ⟨pL, PySem.W.mg_of X G aLK, (fun H => .inr ⟨_, _, _, lqpL, cqpL, dqpL, zqpL, vqpL⟩)⟩⟩
    have MT : Tt K mg C := ⟨⟨pgC, hdC, poC, saC⟩, nC_most, nC_owed, PySem.W.mg_of X G aC⟩
    have MH : Th2 K mg C2 := ⟨⟨pgC2, hdC2, poC2, saC2⟩, nC2_stretches, PySem.W.mg_of X G aC2⟩
    have II : Ti K C := ⟨ca_C, cs_C, ct_C, cm_C, ci_C, ty_C⟩
    have EE : Ee K EN ED EK := ⟨exm_of eN iN tN sNN, exm_of eN iN tN sDN, exm_of eD iD tD sDD, exm_of eN iN tN sKN, exm_of eD iD tD sKD, exm_of eK iK tK sKK⟩
    have GD3 : FnOk l.prog w K mg base (L2.CX l.prog w) 3 _ _ ["deeds"] (spDiffT K ED) := g_diff D17 D16 OD BT
    have GI : FnOk l.prog w K mg base (L2.CX l.prog w) 4 f18 _ pTI (spTI K C EN ED) := g_tinit F18 MT BT BK D15 D17.g D17.F.kp D17.b GD3 ON
    have GH : FnOk l.prog w K mg base L2.CX0 2 f22 _ pHI (spHI K C2) := ok_hinit F22 MH BT D16
    have GA : FnOk l.prog w K mg base L2.CX0 1 f20 _ ["self", "row"] (spAll K C) := ok_all F20 MT BT BK
    have B1 : Bt mg := BT.toBt
    have tbL := TB (cc14, pt14) (by simp)
    have tbR := TB (cc13, pt13) (by simp)
    have FF : Fs l.prog w K mg base C C2 EN ED EK [(pt14, qLaw), (pt13, qRef)] := ⟨BT, BK, MT, MH, mt,
      ⟨_, _, D1.g, D1.F.kp, D1.b, ok_pen D1 B1⟩,
      ⟨_, _, D2.g, D2.F.kp, D2.b, ok_draw D2.F B1⟩,
      ⟨_, _, D3.g, D3.F.kp, D3.b, ok_pickL D3 D2 B1⟩,
      ⟨_, _, D5.g, D5.F.kp, D5.b, ok_words D5 D2 D3 B1⟩,
      ⟨_, _, D8.g, D8.F.kp, D8.b, ok_tim D8 D2 D3 D4 B1⟩,
      ⟨_, _, D9.g, D9.F.kp, D9.b, ok_tmade D9 MT B1 Mk18 GI b18⟩,
      ⟨_, _, D6.g, D6.F.kp, D6.b, ok_named D6 B1⟩,
      ⟨_, _, D10.g, D10.F.kp, D10.b, ok_keeps D10 BT BK⟩,
      ⟨_, _, D7.g, D7.F.kp, D7.b, ok_hist D7 D2 B1⟩,
      ⟨_, _, D11.g, D11.F.kp, D11.b, ok_hmade D11 D6 MH B1 Mk22 GH b22⟩,
      ⟨_, _, D13.g, D13.F.kp, D13.b, ok_ref FC13 D2 D3 D12 MT BT Mk18 GI b18 ON OD OK EE tbR (by simp) (by intro p hp e; simp only [List.mem_cons, List.not_mem_nil, or_false] at hp; rcases hp with rfl | rfl; exact absurd e npp; rfl)⟩,
      ⟨_, _, D12⟩,
      ⟨_, _, MT20, b20, GA⟩,
      ⟨_, _, MT21, b21, g_kept F21 MT MH BT BK MT20 GA b20 OK⟩,
      ⟨_, _, Mk18, b18, ⟨o0, ds18, vd18, b018, fun H => .inr ⟨_, _, _, lqo0, rfl, rfl, Nat.le_of_ble_eq_true rfl, .nil⟩⟩, GI⟩,
      ⟨_, _, ⟨a19, i19, ne0, cm_C⟩, b19, ok_teq F19 MT II BT, ok_tni F19 MT II BT (PySem.W.mg_none_of X G z_NotImplemented)⟩,
      ⟨_, _, ON⟩, ⟨_, _, OD⟩, ⟨_, _, OK⟩, EE⟩
    exact ok_law FF FC14 II tbL (by simp) (by intro p hp e; simp only [List.mem_cons, List.not_mem_nil, or_false] at hp; rcases hp with rfl | rfl; rfl; exact absurd e.symm npp)

theorem walk {l : PySem.W.OpenLaw} {q : Program} {loose : List Str} {XP : (Str → Option Value) → Heap → Prop} {YP : World → Heap → Prop} {d : DefRec} {K : Params → PySem.W.Frag} (hn : l.most = some 63) (hdf : d.params.defaults = [])
    (hY : ∀ (w : World) (h : Heap), YP w h → (K w.params).In h)
    (F : ∀ (w : World) (mg : Str → Option Value) (fa : Addr) (h : Heap), (K w.params).In h → h.Ns mainGlobals mg → mg d.name = some (.ref fa) → OwnTabs q mg h → LawAtS l w (K w.params) L2.CX0 9 63 "_law_script" mg fa h) :
    PySem.W.WalkO q loose XP YP l.row.toRowW d [] (fun f vs => PySem.call f vs) :=
  walk_tabs (n := 63) (k := 9) (x := "_law_script") (CX := fun _ => L2.CX0) hn (by decide) hdf ⟨rfl, by decide, by decide⟩ hY (fun w mg fa h _ => F w mg fa h) fun _ _ _ _ _ z => z
end K1
open PySem PySem.W PyProof.Rows in
set_option maxRecDepth 100000 in
set_option maxHeartbeats 0 in
theorem PySem.Challenge.cw_betweenlooks_k32_timings_made_and_kept_holds : PySem.Challenge.rw_betweenlooks_k32_timings_made_and_kept.Holds := by
  w_on; o_law; k_head; (case hw => w_witness2)
  k_fill
  refine K1.walk (l := PySem.Challenge.rw_betweenlooks_k32_timings_made_and_kept) rfl rfl (fun w h Y => PySem.W.km_in_of Y) ?F
  case F =>
    intro w mg fa h KX G hmg OT
    refine' K1.all_mk KX G hmg OT ?a1 ?l1 ?c1 ?k1 ?a2 ?l2 ?c2 ?k2 ?a3 ?l3 ?c3 ?k3 ?a4 ?l4 ?c4 ?k4 ?a5 ?l5 ?c5 ?k5 ?a6 ?l6 ?c6 ?k6 ?a7 ?l7 ?c7 ?k7 ?a8 ?l8 ?c8 ?k8 ?a9 ?l9 ?c9 ?k9 ?a10 ?l10 ?c10 ?k10 ?a11 ?l11 ?c11 ?k11 ?a12 ?l12 ?c12 ?k12 ?a13 ?l13 ?c13 ?k13 ?lc13 ?h13 ?np13 ?mr13 ?a14 ?l14 ?c14 ?k14 ?lc14 ?h14 ?np14 ?mr14 ?a15 ?l15 ?c15 ?k15 ?a16 ?l16 ?c16 ?k16 ?a17 ?l17 ?c17 ?k17 ?aC ?pgC ?hdC ?poC ?saC ?mkC ?kcC ?nC_most ?nC_owed ?ca_C ?cs_C ?ct_C ?cm_C ?ci_C ?ty_C ?mt ?a18 ?i18 ?l18 ?c18 ?k18 ?lT18 ?lqo0 ?a19 ?i19 ?l19 ?c19 ?k19 ?ne0 ?a20 ?i20 ?l20 ?c20 ?k20 ?a21 ?i21 ?l21 ?c21 ?k21 ?aC2 ?pgC2 ?hdC2 ?poC2 ?saC2 ?mkC2 ?kcC2 ?nC2_stretches ?a22 ?i22 ?l22 ?c22 ?k22 ?lT22 ?a00 ?aN ?xN ?saN ?gaN ?ggN ?eN ?tN ?kkN ?hN ?iN ?noN_number ?a23 ?t23 ?l23 ?c23 ?k23 ?aD ?xD ?saD ?gaD ?ggD ?eD ?tD ?kkD ?hD ?iD ?noD_index ?a24 ?t24 ?l24 ?c24 ?k24 ?aK ?xK ?saK ?gaK ?ggK ?eK ?tK ?kkK ?hK ?iK ?noK_kind ?a25 ?t25 ?l25 ?c25 ?k25 ?sNN ?sDN ?sDD ?sKN ?sKD ?sKK ?co_LETTERS ?co_DIGITS ?co_LONGEST_WORD ?z_int ?z_len ?z_list ?z_range ?z_tuple ?z_isinstance ?z_bool ?z_str ?z_all ?z_enumerate ?z_min ?co_GREATEST_MOST ?egm ?aKS ?lqpK ?cqpK ?dqpK ?zqpK ?vqpK ?aLK ?lqpL ?cqpL ?dqpL ?zqpL ?vqpL ?z_any ?z_NotImplemented ?npp
    (case a1 => k_is)
    (case l1 => k_is)
    (case c1 => k_is)
    (case k1 => k_is)
    (case a2 => k_is)
    (case l2 => k_is)
    (case c2 => k_is)
    (case k2 => k_is)
    (case a3 => k_is)
    (case l3 => k_is)
    (case c3 => k_is)
    (case k3 => k_is)
    (case a4 => k_is)
    (case l4 => k_is)
    (case c4 => k_is)
    (case k4 => k_is)
    (case a5 => k_is)
    (case l5 => k_is)
    (case c5 => k_is)
    (case k5 => k_is)
    (case a6 => k_is)
    (case l6 => k_is)
    (case c6 => k_is)
    (case k6 => k_is)
    (case a7 => k_is)
    (case l7 => k_is)
    (case c7 => k_is)
    (case k7 => k_is)
    (case a8 => k_is)
    (case l8 => k_is)
    (case c8 => k_is)
    (case k8 => k_is)
    (case a9 => k_is)
    (case l9 => k_is)
    (case c9 => k_is)
    (case k9 => k_is)
    (case a10 => k_is)
    (case l10 => k_is)
    (case c10 => k_is)
    (case k10 => k_is)
    (case a11 => k_is)
    (case l11 => k_is)
    (case c11 => k_is)
    (case k11 => k_is)
    (case a12 => k_is)
    (case l12 => k_is)
    (case c12 => k_is)
    (case k12 => k_is)
    (case a13 => k_is)
    (case l13 => k_is)
    (case c13 => k_is)
    (case k13 => k_is)
    (case lc13 => k_is)
    (case h13 => rfl)
    (case np13 => first | rfl | decide +kernel)
    (case mr13 => first | rfl | decide +kernel)
    (case a14 => k_is)
    (case l14 => k_is)
    (case c14 => k_is)
    (case k14 => k_is)
    (case lc14 => k_is)
    (case h14 => rfl)
    (case np14 => first | rfl | decide +kernel)
    (case mr14 => first | rfl | decide +kernel)
    (case a15 => k_is)
    (case l15 => k_is)
    (case c15 => k_is)
    (case k15 => k_is)
    (case a16 => k_is)
    (case l16 => k_is)
    (case c16 => k_is)
    (case k16 => k_is)
    (case a17 => k_is)
    (case l17 => k_is)
    (case c17 => k_is)
    (case k17 => k_is)
    (case aC => k_is)
    (case pgC => k_is)
    (case hdC => k_is)
    (case poC => k_is)
    (case saC => k_is)
    (case mkC => k_is)
    (case kcC => k_is)
    (case nC_most => k_is)
    (case nC_owed => k_is)
    (case ca_C => k_is)
    (case cs_C => k_is)
    (case ct_C => k_is)
    (case cm_C => k_is)
    (case ci_C => k_is)
    (case ty_C => k_is)
    (case mt => k_is)
    (case a18 => k_is)
    (case i18 => k_is)
    (case l18 => k_is)
    (case c18 => k_is)
    (case k18 => k_is)
    (case lT18 => k_is)
    (case lqo0 => k_is)
    (case a19 => k_is)
    (case i19 => k_is)
    (case l19 => k_is)
    (case c19 => k_is)
    (case k19 => k_is)
    (case ne0 => k_is)
    (case a20 => k_is)
    (case i20 => k_is)
    (case l20 => k_is)
    (case c20 => k_is)
    (case k20 => k_is)
    (case a21 => k_is)
    (case i21 => k_is)
    (case l21 => k_is)
    (case c21 => k_is)
    (case k21 => k_is)
    (case aC2 => k_is)
    (case pgC2 => k_is)
    (case hdC2 => k_is)
    (case poC2 => k_is)
    (case saC2 => k_is)
    (case mkC2 => k_is)
    (case kcC2 => k_is)
    (case nC2_stretches => k_is)
    (case a22 => k_is)
    (case i22 => k_is)
    (case l22 => k_is)
    (case c22 => k_is)
    (case k22 => k_is)
    (case lT22 => k_is)
    (case a00 => k_is)
    (case aN => k_is)
    (case xN => k_is)
    (case saN => k_is)
    (case gaN => k_is)
    (case ggN => k_is)
    (case eN => k_is)
    (case tN => k_is)
    (case kkN => k_is)
    (case hN => k_is)
    (case iN => k_is)
    (case noN_number => k_is)
    (case a23 => k_is)
    (case t23 => k_is)
    (case l23 => k_is)
    (case c23 => k_is)
    (case k23 => k_is)
    (case aD => k_is)
    (case xD => k_is)
    (case saD => k_is)
    (case gaD => k_is)
    (case ggD => k_is)
    (case eD => k_is)
    (case tD => k_is)
    (case kkD => k_is)
    (case hD => k_is)
    (case iD => k_is)
    (case noD_index => k_is)
    (case a24 => k_is)
    (case t24 => k_is)
    (case l24 => k_is)
    (case c24 => k_is)
    (case k24 => k_is)
    (case aK => k_is)
    (case xK => k_is)
    (case saK => k_is)
    (case gaK => k_is)
    (case ggK => k_is)
    (case eK => k_is)
    (case tK => k_is)
    (case kkK => k_is)
    (case hK => k_is)
    (case iK => k_is)
    (case noK_kind => k_is)
    (case a25 => k_is)
    (case t25 => k_is)
    (case l25 => k_is)
    (case c25 => k_is)
    (case k25 => k_is)
    (case sNN => k_is)
    (case sDN => k_is)
    (case sDD => k_is)
    (case sKN => k_is)
    (case sKD => k_is)
    (case sKK => k_is)
    (case co_LETTERS => k_is)
    (case co_DIGITS => k_is)
    (case co_LONGEST_WORD => k_is)
    (case z_int => k_is)
    (case z_len => k_is)
    (case z_list => k_is)
    (case z_range => k_is)
    (case z_tuple => k_is)
    (case z_isinstance => k_is)
    (case z_bool => k_is)
    (case z_str => k_is)
    (case z_all => k_is)
    (case z_enumerate => k_is)
    (case z_min => k_is)
    (case co_GREATEST_MOST => k_is)
    (case egm => first | rfl | decide +kernel)
    (case aKS => k_is)
    (case lqpK => k_is)
    (case cqpK => rfl)
    (case dqpK => rfl)
    (case zqpK => exact Nat.le_of_ble_eq_true rfl)
    (case vqpK => exact (.cons ⟨_, rfl⟩ (.cons ⟨_, rfl⟩ (.cons ⟨_, rfl⟩ (.cons ⟨_, rfl⟩ .nil)))))
    (case aLK => k_is)
    (case lqpL => k_is)
    (case cqpL => rfl)
    (case dqpL => rfl)
    (case zqpL => exact Nat.le_of_ble_eq_true rfl)
    (case vqpL => exact (.cons ⟨_, rfl⟩ (.cons ⟨_, rfl⟩ .nil)))
    (case z_any => k_is)
    (case z_NotImplemented => k_is)
    (case npp => decide)
