import PyProof.Rows.All
import Wide.All
import OpenK.AllK
import Wide.FinOn
import HandS.ForMost
import HandS.Flow
import HandS.Wide
import HandS.Walk
import KE.GoesMore
import HandS.OwnEq
import PyProof.InstNe
import PyProof.NeKinds
import PyProof.IsRules
import HandS.Strs
import HandS.IsInst
import HandS.TupAny
import HandS.Defaults
import HandS.MakeKw
import HandS.ExcInit
import HandS.ExcField
import HandS.WordsExc
import HandS.Exc
import HandS.TryMany
import HandS.RaiseMore
import HandS.Lambda
import HandS.EndTab
import HandS.ExcOwn
import PyProof.P3In
import HandS.Deep
import HandS.TupLen
import HandS.DictTup
import HandS.Conv
import HandS.Style
import KE.KDictDisplayH
import HandS.Zip
import PyProof.StrOps2
import OpenK.KMeth
import KE.KItemsList
import HandS.NoneIn
import PySem.Challenge.RW_betweenlooks_k08_products_and_other_tell
set_option Elab.async false
set_option maxRecDepth 100000
namespace K1
open PySem L2
def top (i : Nat) : Stmt := PySem.Challenge.pw_betweenlooks_k08_products_and_other_tell.main.body.getD i (.Pass ⟨0, 0, 0, 0⟩)
abbrev sPen : Stmt := top 41
abbrev sDraw : Stmt := top 42
abbrev sPick : Stmt := top 43
abbrev sWords : Stmt := top 45
/-! the pen: a dict of three -/
abbrev kCells : Key := Sum.inr "cells"
abbrev kAt : Key := Sum.inr "at"
abbrev kLeft : Key := Sum.inr "left"
theorem n_ca : ¬ (kCells = kAt) := by decide +kernel
theorem n_cl : ¬ (kCells = kLeft) := by decide +kernel
theorem n_al : ¬ (kAt = kLeft) := by decide +kernel
theorem n_la : ¬ (kLeft = kAt) := by decide +kernel
theorem n_ac : ¬ (kAt = kCells) := by decide +kernel
theorem n_lc : ¬ (kLeft = kCells) := by decide +kernel
def penK (c : Addr) (a l : Int) : List (Key × V) := [(kCells, .ref c), (kAt, .int a), (kLeft, .int l)]
theorem penK_cells (c : Addr) (a l : Int) : valV (penK c a l) kCells = some (.ref c) := valV_pos rfl
theorem penK_at (c : Addr) (a l : Int) : valV (penK c a l) kAt = some (.int a) := by
  unfold penK; rw [valV_neg n_ca]; exact valV_pos rfl
theorem penK_left (c : Addr) (a l : Int) : valV (penK c a l) kLeft = some (.int l) := by
  unfold penK; rw [valV_neg n_cl, valV_neg n_al]; exact valV_pos rfl
theorem penK_put_at (c : Addr) (a l b : Int) : putK (penK c a l) kAt (.int b) = penK c b l := by
  have h1 : ¬ (("cells" : Str) = "at") := by decide +kernel
  have h2 : ¬ (("left" : Str) = "at") := by decide +kernel
  unfold penK putK; simp [h1, h2]
theorem penK_put_left (c : Addr) (a l b : Int) : putK (penK c a l) kLeft (.int b) = penK c a b := by
  have h1 : ¬ (("cells" : Str) = "left") := by decide +kernel
  have h2 : ¬ (("at" : Str) = "left") := by decide +kernel
  unfold penK putK; simp [h1, h2]
/-- at d stands a pen that was drawn from at most n times -/
def PenAt (H : Hp) (d c : Addr) (n : Nat) : Prop := ∃ (ns : List Int) (a l : Int), H d = some (.dK (penK c a l)) ∧ H c = some (.lst (ns.map V.int)) ∧ ns.length ≤ 63 ∧ 0 ≤ a ∧ a ≤ n
/-- all but d is kept -/
def Kept (d : Addr) (H H' : Hp) : Prop := ∀ b o, H b = some o → b ≠ d → H' b = some o
theorem Kept.refl (d : Addr) (H : Hp) : Kept d H H := fun _ _ e _ => e
theorem Kept.trans {d : Addr} {H H1 H2 : Hp} (a : Kept d H H1) (b : Kept d H1 H2) : Kept d H H2 := fun c o e n => b c o (a c o e n) n
theorem Kept.same {d : Addr} {H H1 : Hp} (a : Same H H1) : Kept d H H1 := fun c o e _ => a c o e
theorem same_upd {H : Hp} {p : Addr} {o : HO} (h : H p = none) : Same H (upd H p o) := fun b u e => by rw [upd_ne (ne_of_none e h)]; exact e
theorem PenAt.mono {H : Hp} {d c : Addr} {n m : Nat} (h : PenAt H d c n) (l : n ≤ m) : PenAt H d c m := by
  obtain ⟨ns, a, x, h1, h2, h3, h4, h5⟩ := h
  exact ⟨ns, a, x, h1, h2, h3, h4, by omega⟩
theorem PenAt.same {H H' : Hp} {d c : Addr} {n : Nat} (h : PenAt H d c n) (s : Same H H') : PenAt H' d c n := by
  obtain ⟨ns, a, x, h1, h2, h3⟩ := h
  exact ⟨ns, a, x, s _ _ h1, s _ _ h2, h3⟩
theorem PenAt.ne {H : Hp} {d c D : Addr} {n : Nat} (h : PenAt H d c n) (z : H D = none) : D ≠ d ∧ D ≠ c := by
  obtain ⟨ns, a, x, h1, h2, h3⟩ := h
  exact ⟨(ne_of_none h1 z).symm, (ne_of_none h2 z).symm⟩
theorem PenAt.upd {H : Hp} {d c D : Addr} {n : Nat} {o : HO} (h : PenAt H d c n) (n1 : D ≠ d) (n2 : D ≠ c) : PenAt (upd H D o) d c n := by
  obtain ⟨ns, a, x, h1, h2, h3⟩ := h
  exact ⟨ns, a, x, by rw [upd_ne n1.symm]; exact h1, by rw [upd_ne n2.symm]; exact h2, h3⟩
theorem Kept.upd {d D : Addr} {H0 H : Hp} {o : HO} (k : Kept d H0 H) (h : H0 D = none) : Kept d H0 (upd H D o) := fun b u e nb => by
  rw [upd_ne (ne_of_none e h)]; exact k b u e nb
theorem Kept.free {d c : Addr} {H H' : Hp} {n : Nat} (k : Kept d H H') (p : PenAt H' d c n) {l : Addr} (h : H' l = none) : H l = none := by
  cases q : H l with
  | none => rfl
  | some o =>
    by_cases e : l = d
    · obtain ⟨ns, a, x, h1, _⟩ := p
      subst e; rw [h] at h1; cases h1
    · have := k l o q e; rw [h] at this; cases this
theorem penK_len (c : Addr) (a l : Int) : (penK c a l).length < sizeLine := by show 3 < sizeLine; decide
theorem dp_ints {K : PySem.W.Frag} {H : Hp} : ∀ ns : List Int, DpAll K H (ns.map V.int) (ns.map PyData.int)
  | [] => .nil
  | n :: r => .cons (.int n) (dp_ints r)
theorem canLay_ints : ∀ ns : List Int, PyData.canLayAll0 (ns.map PyData.int) = true
  | [] => rfl
  | n :: r => by simp [PyData.canLayAll0, PyData.canLay0, canLay_ints r]
theorem eqv_ints_nil (ns : List Int) : PyData.eqv (.list (ns.map PyData.int)) (.list []) = ns.isEmpty := by
  cases ns <;> simp [PyData.eqv, PyData.eqvAll]
theorem shaped_ints (ns : List Int) : SeqAt.shaped (.list (ns.map PyData.int)) = true := by
  have h : ∀ ns : List Int, PyData.depthAll (ns.map PyData.int) ≤ 1 := by
    intro ns
    induction ns with
    | nil => decide
    | cons n r ih => simp only [List.map_cons, PyData.depthAll, PyData.depth]; omega
  have h1 := h ns
  unfold SeqAt.shaped
  rw [PyData.canLay0, canLay_ints, PyData.depth]
  simp only [Bool.true_and, decide_eq_true_eq]
  omega
theorem map_get {ns : List Int} {j : Nat} (h : j < ns.length) : (ns.map V.int)[j]? = some (V.int (ns.getD j 0)) := by
  simp [List.getElem?_eq_getElem h, h]
theorem fmod_nat {a m : Int} (hm : 0 < m) : ∃ j : Nat, a.fmod m = (j : Int) ∧ (j : Int) < m := by
  have h1 := Int.fmod_nonneg_of_pos a hm
  have h2 := Int.fmod_lt_of_pos a hm
  exact ⟨(a.fmod m).toNat, by omega, by omega⟩
theorem fmod_bd {a m : Int} (hm : 0 < m) (hM : m ≤ 2147483648) : -(2 ^ 64) < a.fmod m ∧ a.fmod m < 2 ^ 64 := by
  have h1 := Int.fmod_nonneg_of_pos a hm
  have h2 := Int.fmod_lt_of_pos a hm
  exact ⟨by omega, by omega⟩
structure Bt (mg : Str → Option Value) : Prop where
  int : mg "int" = none
  len : mg "len" = none
  list : mg "list" = none
  range : mg "range" = none
  tuple : mg "tuple" = none
/-- draw: r below many; the pen has been drawn from once more; all else is kept -/
def spDraw : Sp := fun vs H Q _ => ∃ (d c : Addr) (n : Nat) (many : Int), vs = [.ref d, .int many] ∧ PenAt H d c n ∧ n ≤ 1000000 ∧ 0 < many ∧ many < 1073741824 ∧
  ∀ (r : Int) (H' : Hp), 0 ≤ r → r < many → PenAt H' d c (n + 1) → Kept d H H' → Q (.int r) H'
section
variable {P : Program} {w : World} {K : PySem.W.Frag} {mg : Str → Option Value} {base : Heap}
theorem scDraw : FnScope ["_law_pen_here", "_law_many", "_law_digit", "_law_at", "_law_cell", "_law_mixed"] ["_law_pen_here", "_law_many"] (defScope sDraw) := ⟨rfl, rfl, rfl, by decide +kernel, rfl, by decide +kernel, by decide +kernel⟩
theorem ok_draw {f : Addr} {fd : FuncData} (F : Fun K "_law_draw" "_law_draw" sDraw f fd) (T : Bt mg) : FnOk P w K mg base CX0 1 f fd ["_law_pen_here", "_law_many"] spDraw := by
  refine F.ok scDraw (fun vs H Q E h => ?_) (fun cdv A outer s H vs Q E hr h => ?_)
  · obtain ⟨d, c, n, many, rfl, _⟩ := h
    rfl
  · obtain ⟨d, c, n, many, rfl, ⟨ns, a, l, hd, hc, hns, ha0, ha1⟩, hn, hm0, hm1, k⟩ := h
    have hu := hu_of hr
    have ncd : c ≠ d := ne_of hc hd (by intro z; cases z)
    have gL : DGet H d (.str "left") (some (.int l)) := by have := DGet.k (k := kLeft) hd; rw [penK_left] at this; exact this
    refine ⟨_, pss_cons (ps_if (pt_cmpR op_ge (pe_dget hu (pv 0) pe_str (fun _ _ => rfl)) (pv 1) (nomark _))
        (pss_cons (ps_set (i := 2) scDraw.nd rfl (Or.inl rfl) (pe_op op_modN (pe_callTy call_int1 (by rfl) T.int (by decide +kernel) (pa_cons (pe_dget hu (pv 0) pe_str (fun _ _ => rfl)) pa_nil)) (pv 1)))
        (pss_cons (ps_dput hu (pv 0) pe_str (pe_op op_fdivN (pe_dget hu (pv 0) pe_str (fun _ _ => rfl)) (pv 1)) rfl)
        (pss_one (ps_ret (pv 2))))) pss_nil)
      (pss_cons (ps_set (i := 3) scDraw.nd rfl (Or.inl rfl) (pe_dget hu (pv 0) pe_str (fun _ _ => rfl)))
      (pss_cons (ps_dput hu (pv 0) pe_str (pe_op op_add (pv 3) pe_int) rfl)
      (pss_cons (ps_set (i := 4) scDraw.nd rfl (Or.inl rfl) (pe_op op_add (pe_op op_mul pe_int (pv 3)) pe_int))
      (pss_cons (ps_if (pt_cmpR (op_neD hr.units) (pe_dget hu (pv 0) pe_str (fun _ _ => rfl)) (pe_lst pa_nil) (nomark _))
          (pss_one (ps_set (i := 4) scDraw.nd rfl (Or.inl rfl) (pe_ix ix_list (pe_dget hu (pv 0) pe_str (fun _ _ => rfl)) (pe_op op_modN (pe_callTy call_int1 (by rfl) T.int (by decide +kernel) (pa_cons (pv 3) pa_nil)) (pe_callB call_len (by rfl) T.len PySem.boot_len (pa_cons (pe_dget hu (pv 0) pe_str (fun _ _ => rfl)) pa_nil))) (fun _ _ => rfl)))) pss_nil)
      (pss_cons (ps_if (PW.pt (pw_and (pt_cmpR op_lt (pv 3) (pe_callB call_len (by rfl) T.len PySem.boot_len (pa_cons (pe_dget hu (pv 0) pe_str (fun _ _ => rfl)) pa_nil)) (nomark _)) (pw_and1 (pt_cmpR op_ge (pv 4) (pe_op op_pow pe_int pe_int) (nomark _)))))
          (pss_cons (ps_dput hu (pv 0) pe_str (pe_op op_fdivN (pe_op op_sub (pv 4) (pe_op op_pow pe_int pe_int)) (pv 1)) rfl)
          (pss_one (ps_ret (pe_op op_modN (pe_callTy call_int1 (by rfl) T.int (by decide +kernel) (pa_cons (pe_op op_sub (pv 4) (pe_op op_pow pe_int pe_int)) pa_nil)) (pv 1))))) pss_nil)
      (pss_cons (ps_set (i := 5) scDraw.nd rfl (Or.inl rfl) (pe_op op_add (pe_op op_add (pe_op op_add (pe_op op_mul (pe_op op_modN (pe_callTy call_int1 (by rfl) T.int (by decide +kernel) (pa_cons (pv 4) pa_nil)) pe_int) pe_int) (pe_op op_mul (pe_op op_mul pe_int (pv 3)) (pv 3))) (pe_op op_mul pe_int (pv 3))) pe_int))
      (pss_cons (ps_set (i := 5) scDraw.nd rfl (Or.inl rfl) (pe_op op_modN (pe_callTy call_int1 (by rfl) T.int (by decide +kernel) (pa_cons (pv 5) pa_nil)) pe_int))
      (pss_cons (ps_set (i := 5) scDraw.nd rfl (Or.inl rfl) (pe_op op_modN (pe_callTy call_int1 (by rfl) T.int (by decide +kernel) (pa_cons (pe_op op_mul (pv 5) (pe_op op_add (pv 5) pe_int)) pa_nil)) pe_int))
      (pss_one (ps_ret (pe_op op_modN (pe_callTy call_int1 (by rfl) T.int (by decide +kernel) (pa_cons (pe_op op_fdivN (pe_op op_modN (pe_callTy call_int1 (by rfl) T.int (by decide +kernel) (pa_cons (pe_op op_mul (pv 5) (pv 5)) pa_nil)) pe_int) pe_int) pa_nil)) (pv 1)))))))))))), ?_⟩
    -- pen['left'] >= many
    refine ⟨_, rfl, d, _, rfl, gL, _, rfl, _, _, rfl, rfl, _, rfl, ?_⟩
    refine ite2 (fun _ => ?_) (fun _ => ?_)
    · refine ⟨_, rfl, d, _, rfl, gL, .inl ⟨_, rfl, ?_⟩⟩
      refine ⟨_, rfl, _, _, rfl, rfl, (by omega), ?_⟩
      refine ⟨_, rfl, d, _, rfl, gL, _, rfl, _, _, rfl, rfl, ⟨by omega, by omega⟩, ?_⟩
      refine ⟨_, rfl, d, _, rfl, DPut.k (k := kLeft) hd (penK_len _ _ _), ?_⟩
      refine ⟨_, rfl, ?_⟩
      refine k _ _ (Int.fmod_nonneg_of_pos _ hm0) (Int.fmod_lt_of_pos _ hm0) ⟨ns, a, l.fdiv many, ?_, ?_, hns, ha0, by omega⟩ ?_
      · rw [upd_same, penK_put_left]
      · rw [upd_ne ncd]; exact hc
      · intro b o e nb; rw [upd_ne nb]; exact e
    · have gA : DGet H d (.str "at") (some (.int a)) := by have := DGet.k (k := kAt) hd; rw [penK_at] at this; exact this
      refine ⟨_, rfl, d, _, rfl, gA, ?_⟩
      refine ⟨_, rfl, _, _, rfl, rfl, _, rfl, d, _, rfl, DPut.k (k := kAt) hd (penK_len _ _ _), ?_⟩
      rw [penK_put_at]
      have hd1 : upd H d (.dK (penK c (a + 1) l)) d = some (.dK (penK c (a + 1) l)) := upd_same
      have hc1 : upd H d (.dK (penK c (a + 1) l)) c = some (.lst (ns.map V.int)) := by rw [upd_ne ncd]; exact hc
      have kp1 : Kept d H (upd H d (.dK (penK c (a + 1) l))) := fun b o e nb => by rw [upd_ne nb]; exact e
      generalize upd H d (.dK (penK c (a + 1) l)) = H1 at hd1 hc1 kp1 ⊢
      refine ⟨_, rfl, _, _, rfl, rfl, .inl ⟨by decide, by decide⟩, _, _, rfl, rfl, ?_⟩
      have gC1 : DGet H1 d (.str "cells") (some (.ref c)) := by have := DGet.k (k := kCells) hd1; rw [penK_cells] at this; exact this
      refine ⟨_, rfl, d, _, rfl, gC1, Nat.zero_le _, fun q hq => ?_⟩
      have sm : Same H1 (upd H1 q (.lst [])) := same_upd hq
      have hq1 : upd H1 q (.lst []) q = some (.lst []) := upd_same
      have hd2 := sm _ _ hd1
      have hc2 := sm _ _ hc1
      have kp2 : Kept d H (upd H1 q (.lst [])) := kp1.trans (.same sm)
      generalize upd H1 q (.lst []) = H2 at hq1 hd2 hc2 kp2 ⊢
      have gC2 : DGet H2 d (.str "cells") (some (.ref c)) := by have := DGet.k (k := kCells) hd2; rw [penK_cells] at this; exact this
      refine ⟨_, _, .lst (SqL.of hc2) (dp_ints ns), .lst (SqL.of hq1) .nil, shaped_ints ns, by decide +kernel, _, rfl, ?_⟩
      rw [eqv_ints_nil]
      have len2 : LenV K (.ref c) H2 ns.length := .inl ⟨_, SqL.of hc2, (List.length_map _).symm⟩
      have hpos : (!ns.isEmpty) = true → 0 < ns.length := fun hne => by
        cases ns with
        | nil => cases hne
        | cons _ _ => exact Nat.succ_pos _
      have hix : (!ns.isEmpty) = true → atI (ns.map V.int) (a.fmod (ns.length : Int)) = some (V.int (ns.getD (a.fmod (ns.length : Int)).toNat 0)) := fun hne => by
        have hp := hpos hne
        obtain ⟨j, ej, hj⟩ := fmod_nat (a := a) (m := (ns.length : Int)) (by omega)
        rw [ej]
        exact atI_nat (map_get (by omega))
      refine ite2 (fun hne => ⟨_, rfl, d, _, rfl, gC2, _, rfl, .inl ⟨_, rfl, ⟨_, rfl, d, _, rfl, gC2, _, _, rfl, len2, _, _, rfl, rfl, (by have := hpos hne; omega), c, _, _, _, rfl, rfl, SqL.of hc2, hix hne, ?_⟩⟩⟩) (fun _ => ?_)
      all_goals
        refine ⟨_, rfl, _, rfl, d, _, rfl, gC2, _, _, rfl, len2, _, _, rfl, rfl, _, rfl, ?_⟩
        have fin : ∀ (H3 : Hp) (l' : Int) (r : Int), H3 d = some (.dK (penK c (a + 1) l')) → H3 c = some (.lst (ns.map V.int)) → Kept d H H3 → Q (.int (r.fmod many)) H3 := fun H3 l' r e1 e2 e3 =>
          k _ _ (Int.fmod_nonneg_of_pos _ hm0) (Int.fmod_lt_of_pos _ hm0) ⟨ns, a + 1, l', e1, e2, hns, by omega, by omega⟩ e3
        refine ite2 (fun _ => ⟨_, rfl, _, _, rfl, rfl, ⟨by decide, by decide, by decide⟩, _, _, rfl, rfl, _, rfl, ite2 (fun _ => ?_) (fun _ => ?_)⟩) (fun _ => ?_)
        ·
          refine ⟨_, rfl, _, _, rfl, rfl, ⟨by decide, by decide, by decide⟩, _, _, rfl, rfl, _, rfl, _, _, rfl, rfl, ⟨by omega, by omega⟩, _, rfl, d, _, rfl, DPut.k (k := kLeft) hd2 (penK_len _ _ _), ?_⟩
          rw [penK_put_left]
          refine ⟨_, rfl, _, _, rfl, rfl, ⟨by decide, by decide, by decide⟩, _, _, rfl, rfl, .inl ⟨_, rfl, ?_⟩⟩
          refine ⟨_, rfl, _, _, rfl, rfl, (by omega), ?_⟩
          refine fin _ _ _ upd_same (by rw [upd_ne ncd]; exact hc2) (fun b o e nb => by rw [upd_ne nb]; exact kp2 b o e nb)
        all_goals
          refine ⟨_, rfl, .inl ⟨_, rfl, ?_⟩⟩
          refine ⟨_, _, rfl, rfl, (by omega), ?_⟩
          refine ⟨_, _, rfl, rfl, .inr ⟨by decide, by decide⟩, ?_⟩
          refine ⟨_, rfl, _, _, rfl, rfl, .inl ⟨by decide, by decide⟩, _, rfl, _, _, rfl, rfl, .inr ⟨by omega, by omega⟩, ?_⟩
          refine ⟨_, _, rfl, rfl, _, rfl, _, _, rfl, rfl, .inl ⟨by decide, by decide⟩, ?_⟩
          refine ⟨_, _, rfl, rfl, _, _, rfl, rfl, ?_⟩
          -- mixed = int(mixed) % 2147483647
          refine ⟨_, rfl, .inl ⟨_, rfl, ?_⟩⟩
          refine ⟨_, _, rfl, rfl, (by omega), ?_⟩
          refine ⟨_, rfl, _, rfl, _, _, rfl, rfl, _, _, rfl, rfl, .inl (fmod_bd (by decide) (by decide)), .inl ⟨_, rfl, ?_⟩⟩
          refine ⟨_, _, rfl, rfl, (by omega), ?_⟩
          refine ⟨_, rfl, _, rfl, _, _, rfl, rfl, .inl (fmod_bd (by decide) (by decide)), .inl ⟨_, rfl, ?_⟩⟩
          refine ⟨_, _, rfl, rfl, (by omega), _, _, rfl, rfl, ⟨by decide, by decide⟩, .inl ⟨_, rfl, ?_⟩⟩
          refine ⟨_, rfl, _, _, rfl, rfl, (by omega), ?_⟩
          exact fin _ _ _ hd2 hc2 kp2
end
end K1
set_option Elab.async false
set_option linter.all false
set_option maxRecDepth 100000
namespace EO
open PySem
open AutoSeq1 (wpAny_loadPart')
set_option maxHeartbeats 1000000 in
theorem meets_enumerate_newT (l : Addr) (items : Array Value) (n : Nat) (dct : Option Addr) (sl : Array (Option Value)) :
    Meets (Builtin.«enumerate.__new__» ⟨[.type "enumerate", .ref l], []⟩) (fun _ R s => s.heap.get? l = some { cls := .type "tuple", dict := dct, data := .seq items n, slots := sl } ∧
      R (.ok (.ret (.ref (s.heap.push { cls := .type "tuple_iterator", data := .fields #[.ref l, .int 0 0] }).objs.size)))
        { s with heap := (s.heap.push { cls := .type "tuple_iterator", data := .fields #[.ref l, .int 0 0] }).push { cls := .type "enumerate", data := .fields #[.none, .bool false, .ref s.heap.objs.size, rawInt 0, .none, .none] } }) :=
  .of_wp fun prog w A R s h => by
    obtain ⟨hp, g, d, tk, os⟩ := s; obtain ⟨hl, h⟩ := h
    have hsub := sub_enumerate
    have hL : Heap.IsTuple (Shared.heap ⟨hp, g, d, tk, os⟩) l items := ⟨_, hl, rfl, n, rfl⟩
    wp_walk using wpAny_loadPart' hl
    refine wpAny_stack_any fun st => wpAny_pure ?_
    split
    · rename_i c _ _ _ _ _
      cases (c == Value.type "enumerate")
      · wp_walk using wpAny_loadPart' hl, wpAny_pyIter_tuple hL
        exact ⟨_, rfl, h⟩
      · wp_walk using wpAny_loadPart' hl, wpAny_pyIter_tuple hL
        exact ⟨_, rfl, h⟩
    · wp_walk using wpAny_loadPart' hl, wpAny_pyIter_tuple hL
      exact ⟨_, rfl, h⟩
section
variable {prog : Program} {w : World} {A : Around} {E : Value → Shared → Prop} {s : Shared}
theorem call_enumerate_tuple {l : Addr} {items : Array Value} {Q : Value → Shared → Prop} (hL : s.heap.IsTuple l items)
    (h : ∀ h', IsEnum h' (s.heap.objs.size + 1) s.heap.objs.size 0 .none → h'.IsTupleIter s.heap.objs.size l 0 → h'.objs.size = s.heap.objs.size + 2 →
      (∀ b o, s.heap.get? b = some o → h'.get? b = some o) → Q (.ref (s.heap.objs.size + 1)) { s with heap := h' }) :
    wpAny (model prog w) A (call (.type "enumerate") [.ref l]) Q E s := by
  obtain ⟨⟨c, dct, dt, sl⟩, hl, hc, n, hd⟩ := hL
  replace hc : c = .type "tuple" := hc
  replace hd : dt = .seq items n := hd
  subst hc hd
  refine callType_new F.called_enumerate (by decide) (F.typeCall_enumerate_1 _) (F.newCall_enumerate_1 _) (fun obj => F.args_object_init_2 obj _) F.entry_enumerate_new
    (meets_enumerate_newT l items n dct sl) ⟨hl, ?_⟩
  have hz : (s.heap.push { cls := .type "tuple_iterator", data := .fields #[.ref l, .int 0 0] }).objs.size = s.heap.objs.size + 1 := Heap.size_push ..
  show _ ∧ _
  rw [hz]
  have he : IsEnum ((s.heap.push { cls := .type "tuple_iterator", data := .fields #[.ref l, .int 0 0] }).push
      { cls := .type "enumerate", data := .fields #[.none, .bool false, .ref s.heap.objs.size, rawInt 0, .none, .none] }) (s.heap.objs.size + 1) s.heap.objs.size 0 .none := by
    have := Heap.get?_push_size (s.heap.push { cls := .type "tuple_iterator", data := .fields #[.ref l, .int 0 0] })
      (o := { cls := .type "enumerate", data := .fields #[.none, .bool false, .ref s.heap.objs.size, rawInt 0, .none, .none] }) rfl
    rw [hz] at this; exact this
  refine ⟨⟨_, he, rfl⟩, h _ he ⟨_, Heap.get?_push_of_some _ (Heap.get?_push_size _ rfl), rfl, rfl⟩ (by rw [Heap.size_push, hz]) fun b o x => Heap.get?_push_of_some _ (Heap.get?_push_of_some _ x)⟩
theorem enumT_end {e it t : Addr} {i : Nat} {k : Int} {items : Array Value} {old : Value} {Q : Option Value → Shared → Prop} (hh : A.handled = none)
    (he : IsEnum s.heap e it k old) (hit : s.heap.IsTupleIter it t i) (ht : s.heap.IsTuple t items) (hx : items[i]? = none)
    (hQ : ∀ h', Heap.ExtBut it s.heap h' → Q none { s with heap := h' }) : wpAny (model prog w) A (pyNext (.ref e)) Q E s := by
  have hT : s.TypeIs (.ref e) "enumerate" := ⟨_, he, rfl⟩
  unfold pyNext
  refine wpAny_bind (wpAny_attempt (wpAny_callSpecial?_slot (name := Str.ofString "__next__") hT F.slot_enumerate_next
    (wpAny_call_entry F.slot_enumerate_next hT F.entry_enumerate_next ?_ (F.args_enumerate_next_1 _))))
  show wpAny _ _ (field (.ref e) 2 >>= _) _ _ _
  refine wpAny_bind (wpAny_field he rfl (x := .ref it) rfl ?_)
  refine wpAny_bind (wpAny_nextOf_tuple_end hh hit ht hx fun h' x he' hx' => ?_)
  obtain ⟨o, ho, hc⟩ := hx'
  refine wpAny_bind (wpAny_isInstance (T := "StopIteration") (b := true) ⟨o, ho, hc⟩ isSubtype_stop ?_)
  exact wpAny_pure (hQ _ he')
end
end EO
namespace L2
open PySem PySem.Spec PyProof.Rows
/-! ### enumerate(tuple) -/
def IteT (K : PySem.W.Frag) (a : Addr) : It :=
  ⟨fun i H => ∃ (xs : List V) (x : V), SqT K H a xs ∧ xs[i]? = some x, fun i H v H' => ∃ T x, v = .ref T ∧ H T = none ∧ H' = upd H T (.tup [.int (i : Nat), x]) ∧ ∀ xs, SqT K H a xs → xs[i]? = some x, fun i H => ∃ xs : List V, SqT K H a xs ∧ xs.length ≤ i⟩
theorem turn_enumT {P : Program} {w : World} {K : PySem.W.Frag} {elts : List Expr} {kk : Nat} {tpos : Pos} (a e it : Addr) :
    Turn P w K (.Tuple elts kk tpos) (IteT K a) [e, it] e (fun i h => (∃ old, IsEnum h e it ((i : Nat) : Int) old) ∧ h.IsTupleIter it a i ∧ e ≠ it) where
  mem := by simp
  obj := fun i h st b hb => by
    obtain ⟨⟨old, he⟩, ⟨o, ho, hc, hd⟩, _⟩ := st
    have e' : b = e ∨ b = it := by simpa using hb
    rcases e' with z | z
    · rw [z]; exact ⟨_, he, fun v q => nomatch q⟩
    · rw [z]; exact ⟨o, ho, fun v q => by rw [hd] at q; cases q⟩
  keep := fun i h h' st k => let ⟨⟨old, he⟩, hi, hne⟩ := st; ⟨⟨old, k e (by simp) _ he⟩, hi.at fun o q => k it (by simp) o q, hne⟩
  item := by
    intro X hP hw hK hc i pins s σ H E I hf st hg
    subst hP hw hK
    obtain ⟨⟨old, he⟩, hit, hne⟩ := st
    obtain ⟨xs, x, hq, hx⟩ := hg
    obtain ⟨its, rv, p, hz⟩ := I.tuple hq
    obtain ⟨u, hu, ru⟩ := rv.get hx
    have hil' : i < its.length := (List.getElem?_eq_some_iff.mp hu).1
    have hel : e < s.heap.objs.size := Heap.lt_size he
    have hil : it < s.heap.objs.size := by obtain ⟨_, q, _⟩ := hit; exact Heap.lt_size q
    have hai : a ≠ it := by
      intro z
      obtain ⟨o1, q1, c1, _⟩ := p
      obtain ⟨o2, q2, c2, _⟩ := hit
      rw [z, q2] at q1; cases q1; rw [c2] at c1; exact absurd c1 (by simp)
    have hea : e ≠ a := by
      intro z
      obtain ⟨o1, q1, c1, _⟩ := p
      rw [← z] at q1
      have q2 := he
      unfold IsEnum at q2
      rw [q1] at q2; cases q2; exact absurd c1 (by simp)
    refine wpAny_pyNext_enum_itemD (Draws.tuple (A := X.A.in1) (I.ok.hd hc) it a hai its.toArray) he ⟨hit, p⟩ (by simpa using hil') hne (by simp [hne, hea]) fun y h' tk hy ho hit' hT hsz hk => ?_
    have hyu : y = u := by
      have : its.toArray[i]? = some u := by simpa using hu
      rw [this] at hy; exact (Option.some.inj hy).symm
    subst hyu
    refine ⟨_, rfl, wpAny_letOwnedTupleGo_enum (s := { s with heap := h', toks := tk + 1 }) ho fun h'' he' sb => ?_⟩
    have hT2 : h''.get? s.heap.objs.size = some { cls := .type "tuple", data := .seq #[.int i tk, y] } := (sb.2 _ (Nat.ne_of_gt hel)).trans hT
    have new : ObjOk X.prog X.w (upd H s.heap.objs.size (.tup [.int (i : Nat), x])) h'' s.heap.objs.size (.tup [.int (i : Nat), x]) :=
      ⟨by show 2 ≤ sizeLine; decide, [.int i tk, y], .cons ⟨_, rfl⟩ (.cons ru .nil), ⟨_, hT2, rfl, _, rfl⟩⟩
    have I1 : Inv X pins σ (upd H s.heap.objs.size (.tup [.int (i : Nat), x])) { s with heap := h'', toks := tk + 1 } :=
      I.turnedNew (ch := [e, it]) (fun b ob hb q => (sb.2 b (fun z => hb (by simp [z]))).trans (hk b ob (fun z => hb (by simp [z])) (fun z => hb (by simp [z])) q)) hf (Nat.le_refl _) new
    refine ⟨.ref s.heap.objs.size, _, I1, rfl, ⟨_, x, rfl, I.hok.fresh (Nat.le_refl _), rfl, fun ys hy => by rw [I.tuple_inj hy hq]; exact hx⟩, ⟨⟨y, ?_⟩, hit'.1.at fun o q => (sb.2 it (Ne.symm hne)).trans q, hne⟩, fun b hb => ?_⟩
    · have e1 : ((i + 1 : Nat) : Int) = (i : Int) + 1 := by omega
      rw [e1]; exact he'
    · have hb' : b < s.heap.objs.size := by
        have e' : b = e ∨ b = it := by simpa using hb
        rcases e' with z | z
        · rw [z]; exact hel
        · rw [z]; exact hil
      rw [upd_ne (Nat.ne_of_lt hb')]
      exact (hf b hb).1
  done := by
    intro X hP hw hK hc i pins s σ H E I hf st hg
    subst hP hw hK
    obtain ⟨⟨old, he⟩, hit, hne⟩ := st
    obtain ⟨xs, hq, hx⟩ := hg
    obtain ⟨its, rv, p, hz⟩ := I.tuple hq
    obtain ⟨f0, f1, f2, f3, f4, f5⟩ := hf it (by simp)
    have hl := rv.length
    exact EO.enumT_end (I.ok.hd hc) he hit p (by simp; omega) fun h' eb => ⟨rfl, I.turned (t' := s.toks) (fun b o hb q => eb b o hb q) f0 f1 f3 f4 f5⟩
  self := fun A i s Q E st h => let ⟨⟨_, he⟩, _⟩ := st; wpAny_pyIter_enum he h
def iEnumT (K : PySem.W.Frag) (ta : TA) : TI := fun σ H R => ta σ H fun vs H1 => ∃ a xs, vs = [.ref a] ∧ SqT K H1 a xs ∧ R (IteT K a) H1
theorem pi_enumT {X : Cx} {e : Expr} {ta : TA} {p pos tpos : Pos} {elts : List Expr} {kk : Nat} (hg : Gl X "enumerate") (hm : X.mg "enumerate" = none) (ha : PA X [e] ta) (hs : starEach [e] X.env = [(false, eval e X.env)] := by rfl) :
    PI X (.Tuple elts kk tpos) (.Call (.Name "enumerate" p) [e] [] pos) (iEnumT X.K ta) := by
  refine ⟨fun pins s σ H R I h => ?_⟩
  refine Call_ (ld_blt I hg hm boot_enumerate (PyProof.Rows.callWith_type1 (thn (ha.run pos pins s σ H _ I h) fun us s1 ⟨vs, H1, I1, r1, q1⟩ => ?_) hs rfl))
  obtain ⟨a, xs, ex, hq, q⟩ := q1
  subst ex
  cases r1 with
  | cons r rr =>
    cases rr
    cases r
    obtain ⟨its, rv, p', hz⟩ := I1.tuple hq
    refine EO.call_enumerate_tuple (by exact p') fun h' he hit hsz hk => wpAny_pyIter_enum he ?_
    have I2 : Inv X pins σ H1 { s1 with heap := h' } := I1.kept (t' := s1.toks) hk
    refine ⟨s1.heap.objs.size + 1, [s1.heap.objs.size + 1, s1.heap.objs.size], _, _, H1, rfl, I2, turn_enumT a (s1.heap.objs.size + 1) s1.heap.objs.size, ⟨⟨.none, he⟩, hit, Nat.succ_ne_self _⟩, fun b hb => ?_, q⟩
    have e' : b = s1.heap.objs.size + 1 ∨ b = s1.heap.objs.size := by simpa using hb
    have hle : s1.heap.objs.size ≤ b := by
      rcases e' with z | z
      · rw [z]; exact Nat.le_add_right _ _
      · rw [z]; exact Nat.le_refl _
    exact I1.fpOk hle (I1.hok.fresh hle)
theorem walk_enumT {K : PySem.W.Frag} {a : Addr} {xs : List V} : Walk (IteT K a) xs.length (fun H => SqT K H a xs) (YPair (fun i => some (.int (i : Nat))) (fun i => xs[i]?)) := by
  refine ⟨fun i _ hi q => ⟨xs, xs[i], q, by simp [hi]⟩, fun _ q => ⟨xs, q, Nat.le_refl _⟩, fun i H v H' _ q y => ?_⟩
  obtain ⟨T, x, h1, h2, h3, h4⟩ := y
  exact ⟨T, .int (i : Nat), x, h1, h2, h3, rfl, h4 xs q⟩
end L2
set_option Elab.async false
set_option maxRecDepth 100000
namespace EO
open PySem PySem.W PySem.Spec PyProof.Rows L2
section
variable {prog : Program} {w : World} {A : Around} {E : Value → Shared → Prop} {s : Shared} {K : Frag} {x C L f : Addr} {h₀ : Heap} {m : Str → Option Value} {ox : Obj} {od : Option Obj} {name : Str} {b tb : Value}
theorem cmp_dec_K {Q : Value → Shared → Prop} (hu : A.units < cLine) (X : K.In s.heap) (I : InstAt s.heap x ox C od) (hb : Looks (model prog w) s.heap (typeOf b) tb) (hn : notFirst K C tb = true)
    (hs : findIn K (.ref C) "__eq__" = some (some (.ref f))) (hf : isFn K (.ref f) = true)
    (h : wpAny (model prog w) A (call (.ref f) [.ref x, b]) (fun v s' => v = .notImplemented ∧ wpAny (model prog w) A (tryCompare b "__eq__" (.ref x)) (fun r s2 => r = none ∧ wpAny (model prog w) A (isSame (.ref x) b) (fun k s3 => Q (.bool k) s3) E s2) E s') E s) :
    wpAny (model prog w) A (richCompare .Eq (.ref x) b) Q E s := by
  have one : wpAny (model prog w) A (tryCompare (.ref x) "__eq__" b) (fun r s' => r = none ∧ wpAny (model prog w) A (tryCompare b "__eq__" (.ref x)) (fun r s2 => r = none ∧ wpAny (model prog w) A (isSame (.ref x) b) (fun k s3 => Q (.bool k) s3) E s2) E s') E s := by
    unfold tryCompare
    refine wpAny_bind (ifBound_K X I hs hf (wpAny_mono h (fun v s' hv => ?_) fun _ _ e => e))
    obtain ⟨rfl, hv⟩ := hv
    exact wpAny_pure ⟨rfl, hv⟩
  unfold richCompare
  simp only [oneThing_ref]
  refine wpAny_holding (wpAny_bind (wpAny_cRoomFor hu ?_))
  refine wpAny_bind (I.type.here (wpAny_bind (hb.here ?_)))
  split
  · rename_i q
    have e : subIn K tb (.ref C) = some false := by
      rcases Bool.or_eq_true_iff.mp hn with e | e
      · rw [beq_iff_eq.mp e] at q; simp at q
      · exact beq_iff_eq.mp e
    refine wpAny_bind ((looks_subIn X e).here ?_)
    simp only [Bool.false_eq_true, if_false]
    refine wpAny_bind (wpAny_mono one (fun r s' z => ?_) fun _ _ e => e)
    obtain ⟨rfl, z⟩ := z
    simp only [Bool.not_false, if_true]
    refine wpAny_bind (wpAny_mono z (fun r s' z => ?_) fun _ _ e => e)
    obtain ⟨rfl, z⟩ := z
    refine wpAny_bind (wpAny_rule ?_)
    exact wpAny_bind (wpAny_mono z (fun k s3 q => wpAny_pure q) fun _ _ e => e)
  · refine wpAny_bind (wpAny_pure ?_)
    simp only [Bool.false_eq_true, if_false]
    refine wpAny_bind (wpAny_mono one (fun r s' z => ?_) fun _ _ e => e)
    obtain ⟨rfl, z⟩ := z
    simp only [Bool.not_false, if_true]
    refine wpAny_bind (wpAny_mono z (fun r s' z => ?_) fun _ _ e => e)
    obtain ⟨rfl, z⟩ := z
    refine wpAny_bind (wpAny_rule ?_)
    exact wpAny_bind (wpAny_mono z (fun k s3 q => wpAny_pure q) fun _ _ e => e)
/-- a special method that is a built-in slot -/
theorem ifBound_B {M : Model} {id : String} {args : List Value} {Q : Option Value → Shared → Prop} (X : K.In s.heap) (I : InstAt s.heap x ox C od) (hs : findIn K (.ref C) name = some (some (.builtin id))) (hb : bindSpecial (.builtin id) (.ref x) = pure (.builtin id, [.ref x]))
    (h : wpAny M A (call (.builtin id) (.ref x :: args)) (fun v => Q (some v)) E s) : wpAny M A (callSpecialIfBound? (.ref x) name args) Q E s := by
  simp only [callSpecialIfBound?, bindSpecialIfBound?, hb]
  refine wpAny_holding (wpAny_bind (wpAny_bind (wpAny_bind (I.type.here ((looks_findIn X hs).here ?_)))))
  refine wpAny_bind (wpAny_askSetting (wpAny_ite ?_))
  have fin : wpAny M A (call (.builtin id) ([.ref x] ++ args) >>= fun v => pure (some v)) Q E s := wpAny_bind (wpAny_mono h (fun v s' h' => wpAny_pure h') fun _ _ h' => h')
  simp only [hb, pure_bind]
  split
  · exact wpAny_pure (by exact fin)
  · exact wpAny_tryCatch (wpAny_pure (by exact fin))
/-- the check of a slot of object's, called of an instance -/
theorem check_obj {M : Model} {id n : String} {rest : List Value} {Q : Unit → Shared → Prop} (hk : builtinKind id = some .slot) (hs : splitId id = some ("object", n)) (ha : argsOk id ⟨.ref x :: rest, []⟩)
    (X : K.In s.heap) (I : InstAt s.heap x ox C od) (hm : mroIn K C (.type "object") = some true) (hq : Q () s) : wpAny M A (checkBuiltinCall id ⟨.ref x :: rest, []⟩) Q E s := by
  simp only [checkBuiltinCall, hk, hs]
  refine wpAny_bind ?_
  unfold isInstance
  refine wpAny_bind (I.type.here ((looks_mroIn X hm).here ?_))
  simp only [Bool.not_true, Bool.false_eq_true, if_false]
  cases hsig : Manifest.signature? id with
  | none => exact wpAny_pure hq
  | some sig =>
    simp only [argsOk, hsig] at ha
    have h2 : Bind.checkArgs id sig ⟨.ref x :: rest, []⟩ = pure () := ha
    show wpAny M A (Bind.checkArgs id sig ⟨.ref x :: rest, []⟩) Q E _
    rw [h2]; exact wpAny_pure hq
/-- a != b by object's own, over an own == that answers True or False -/
theorem ne_K {Q : Value → Shared → Prop} (hu : A.units + 1 < cLine) (X : K.In s.heap) (I : InstAt s.heap x ox C od) (hb : Looks (model prog w) s.heap (typeOf b) tb) (hn : notFirst K C tb = true)
    (hs : findIn K (.ref C) "__eq__" = some (some (.ref f))) (hf : isFn K (.ref f) = true) (hne : findIn K (.ref C) "__ne__" = some (some (.builtin "object.__ne__"))) (hm : mroIn K C (.type "object") = some true)
    (h : wpAny (model prog w) A.in1 (call (.ref f) [.ref x, b]) (fun v s' => ∃ c, v = .bool c ∧ Q (.bool (!c)) s') E s) :
    wpAny (model prog w) A (richCompare .NotEq (.ref x) b) Q E s := by
  have body : wpAny (model prog w) A (call (.builtin "object.__ne__") [.ref x, b]) (fun v s' => ∃ c, v = .bool c ∧ Q (.bool c) s') E s := by
    refine wpAny_call ?_
    refine codeAny_call_builtin F.cmp_object.ne.plain F.cmpEntry_ne ?_
    refine check_obj (id := "object.__ne__") (n := "__ne__") (rest := [b]) (x := x) F.cmpKind_ne F.cmpSplit_ne (F.cmpArgs_ne _ _) X I hm ?_
    have h' : wpAny (model prog w) A.in1 (callSpecialIfBound? (.ref x) (Str.ofString "__eq__") [b]) (fun r s' => ∃ c, r = some (.bool c) ∧ Q (.bool (!c)) s') E s :=
      ifBound_K X I hs hf (wpAny_mono h (fun r s' hr => by obtain ⟨c, rfl, hq⟩ := hr; exact ⟨c, rfl, hq⟩) fun _ _ e => e)
    unfold Builtin.«object.__ne__»
    repeat (first
      | with_reducible refine wpAny_cRoomFor (A := A.in1) hu ?_
      | (refine wpAny_bind (m := callSpecialIfBound? (.ref x) (Str.ofString "__eq__") [b]) (wpAny_mono h' (fun r s' hr => ?_) fun _ _ e => e)
         obtain ⟨c, rfl, hq⟩ := hr)
      | wp_step)
    exact ⟨_, rfl, hq⟩
  have one : wpAny (model prog w) A (tryCompare (.ref x) "__ne__" b) (fun r s' => ∃ v, r = some v ∧ Q v s') E s := by
    unfold tryCompare
    refine wpAny_bind (ifBound_B X I hne (F.cmp_object.ne.bind _) (wpAny_mono body (fun v s' hv => ?_) fun _ _ e => e))
    obtain ⟨c, rfl, hq⟩ := hv
    exact wpAny_pure ⟨_, rfl, hq⟩
  unfold richCompare
  simp only [oneThing_ref]
  refine wpAny_holding (wpAny_bind (wpAny_cRoomFor (Nat.lt_of_succ_lt hu) ?_))
  refine wpAny_bind (I.type.here (wpAny_bind (hb.here ?_)))
  split
  · rename_i q
    have e : subIn K tb (.ref C) = some false := by
      rcases Bool.or_eq_true_iff.mp hn with e | e
      · rw [beq_iff_eq.mp e] at q; simp at q
      · exact beq_iff_eq.mp e
    refine wpAny_bind ((looks_subIn X e).here ?_)
    simp only [Bool.false_eq_true, if_false]
    refine wpAny_bind (wpAny_mono one (fun r s' z => ?_) fun _ _ e => e)
    obtain ⟨v, rfl, hq⟩ := z
    exact wpAny_pure hq
  · refine wpAny_bind (wpAny_pure ?_)
    simp only [Bool.false_eq_true, if_false]
    refine wpAny_bind (wpAny_mono one (fun r s' z => ?_) fun _ _ e => e)
    obtain ⟨v, rfl, hq⟩ := z
    exact wpAny_pure hq
end
end EO

namespace L2
open PySem PySem.Spec PyProof.Rows
/-- two instances of the class at C, compared by the text's own ==, that answers True or False -/
structure OwnE (K : PySem.W.Frag) (C f : Addr) : Prop where
  eq : PySem.W.findIn K (.ref C) "__eq__" = some (some (.ref f))
  fn : PySem.W.isFn K (.ref f) = true
  ne : PySem.W.findIn K (.ref C) "__ne__" = some (some (.builtin "object.__ne__"))
  mo : PySem.W.mroIn K C (.type "object") = some true
def rOwn (C : Addr) (sp : Sp) (g : Bool → Bool) (E : XK) : R2 := fun x y H Q => ∃ a b dx dy fs gs, x = .ref a ∧ y = .ref b ∧ H a = some (.ins C dx fs) ∧ H b = some (.ins C dy gs) ∧
  sp [x, y] H (fun v H' => ∃ c, v = .bl c ∧ Q (.bl (g c)) H') E
section
variable {X : Cx} {n : Nat} {CX : CXT} {C f : Addr} {fd : FuncData} {ps : List Str} {sp : Sp} {E : XK}
theorem own_call {A : Around} {pins : List (Addr × Obj)} {s : Shared} {σ : St} {H : Hp} {vs : List V} {us : List Value} {Q : VK} (F : FnOk X.prog X.w X.K X.mg X.base CX n f fd ps sp) (hb : Binds X.K fd ps []) (hx : Passes CX X E) (hr : Room n A) (hfr : A.frames = X.A.frames)
    (I : Inv X pins σ H s) (r : Vals vs us) (h : sp vs H Q E) : wpAny (model X.prog X.w) A (call (.ref f) us) (fun u s' => ∃ v H', Inv X pins σ H' s' ∧ RelV v u ∧ Q v H') X.xe s := by
  have e0 : Env0 X.prog X.w X.K X.mg X.base A X.stack s H := by
    have e := I.env0
    exact ⟨by rw [hfr]; exact e.frames, e.mod, e.bs, e.bsz, e.funs, e.frf, e.hok, e.bare⟩
  have hl := F.len _ _ _ _ h
  refine wpAny_call (codeAny_mono (F.run A X.stack s H ⟨us, []⟩ us vs _ E hr e0 (by
    have := hb s us I.kIn (by have := r.length; rw [List.append_nil, ← this, hl])
    simpa using this) r h) fun r s' hq => ?_)
  cases r with
  | error e => exact hx pins σ H s e s' I hq
  | ok fl =>
    cases fl with
    | ret w =>
      obtain ⟨z, H', I', rz, q⟩ := I.after hq
      exact ⟨z, H', I', rz, q⟩
    | next => exact False.elim hq
    | brk => exact False.elim hq
    | cont => exact False.elim hq
theorem op_eqOwn (O : OwnE X.K C f) (F : FnOk X.prog X.w X.K X.mg X.base CX n f fd ps sp) (hr : Room n X.A) (hb : Binds X.K fd ps []) (hx : Passes CX X E) : OpR X (compareOp .Eq) (rOwn C sp (fun c => c) E) := by
  intro pins s σ H x y u v Q I rx ry h
  obtain ⟨a, b, dx, dy, fs, gs, rfl, rfl, ha, hb', hs⟩ := h
  cases rx
  cases ry
  obtain ⟨mA, J, _⟩ := ins_get I.hok ha
  obtain ⟨mB, J', _⟩ := ins_get I.hok hb'
  obtain ⟨od, J, _⟩ := J.look
  obtain ⟨od', J', _⟩ := J'.look
  obtain ⟨m, hF⟩ := I.fr
  show wpAny (model X.prog X.w) X.A (richCompare .Eq (.ref a) (.ref b)) (EP X pins σ Q) X.xe s
  refine PySem.W.cmp_K (op := .Eq) (tb := .ref C) hr.units0 hF I.ok.mod.kin J J'.type (by simp [PySem.W.notFirst]) O.eq O.fn ?_
  refine wpAny_mono (own_call (vs := [V.ref a, V.ref b]) F hb hx hr rfl I (.cons rfl (.cons rfl .nil)) hs) (fun u s' q => ?_) fun _ _ e => e
  obtain ⟨z, H', I', rz, c, rfl, q⟩ := q
  cases rz
  exact ⟨.bl c, H', I', rfl, q⟩
theorem op_neOwn (O : OwnE X.K C f) (F : FnOk X.prog X.w X.K X.mg X.base CX n f fd ps sp) (hr : Room (n + 1) X.A) (hb : Binds X.K fd ps []) (hx : Passes CX X E) : OpR X (compareOp .NotEq) (rOwn C sp (fun c => !c) E) := by
  intro pins s σ H x y u v Q I rx ry h
  obtain ⟨a, b, dx, dy, fs, gs, rfl, rfl, ha, hb', hs⟩ := h
  cases rx
  cases ry
  obtain ⟨mA, J, _⟩ := ins_get I.hok ha
  obtain ⟨mB, J', _⟩ := ins_get I.hok hb'
  obtain ⟨od, J, _⟩ := J.look
  obtain ⟨od', J', _⟩ := J'.look
  show wpAny (model X.prog X.w) X.A (richCompare .NotEq (.ref a) (.ref b)) (EP X pins σ Q) X.xe s
  refine EO.ne_K (tb := .ref C) (by have := hr.units; omega) I.kIn J J'.type (by simp [PySem.W.notFirst]) O.eq O.fn O.ne O.mo ?_
  refine wpAny_mono (own_call (vs := [V.ref a, V.ref b]) F hb hx hr.in1 rfl I (.cons rfl (.cons rfl .nil)) hs) (fun u s' q => ?_) fun _ _ e => e
  obtain ⟨z, H', I', rz, c, rfl, q⟩ := q
  cases rz
  exact ⟨c, rfl, ⟨.bl (!c), H', I', rfl, q⟩⟩
/-! a def that begins with «if TEST: return NotImplemented», called where TEST holds -/
structure FnNI (P : Program) (w : World) (K : PySem.W.Frag) (mg : Str → Option Value) (base : Heap) (k : Nat) (f : Addr) (fd : FuncData) (ps : List Str) (pre : List V → Hp → Prop) : Prop where
  len : ∀ vs H, pre vs H → vs.length = ps.length
  run : ∀ (A : Around) (outer : List Env) (s : Shared) (H : Hp) (args : Args) (us : List Value) (vs : List V), Room k A → Env0 P w K mg base A outer s H → BindsTo s fd args (ps.zip us) → Vals vs us → pre vs H →
    codeAny (model P w) A (.call (.ref f) args) (fun r s' => r = .ok (.ret .notImplemented) ∧ CE outer P w H s (fun v H' => v = .non ∧ Same H H') .none s') s
theorem fn_NI {P : Program} {w : World} {K : PySem.W.Frag} {mg : Str → Option Value} {base : Heap} {k : Nat} {f : Addr} {name qual : Str} {params : Arguments} {body rest : List Stmt} {tst : Expr} {p1 p2 p3 : Pos} {scope : Scope} {dV kV doc pm cdv ct oc : Value} {an od : Option Addr}
    {osl : Array (Option Value)} {N ps : List Str} {pre : List V → Hp → Prop} (lk : K.lookup f = some ⟨oc, od, .func (PySem.W.fnOf name qual params body scope dV kV doc pm an cdv ct), osl⟩) (hcd : PySem.W.codeIn K cdv qual = true) (S : FnScope N ps scope)
    (len : ∀ vs H, pre vs H → vs.length = ps.length) (hbd : body = .If tst [.Return (some (.Name "NotImplemented" p1)) p2] [] p3 :: rest)
    (hg : scope.names.lookup ("NotImplemented" : Str) = some .globalImplicit) (hm : mg "NotImplemented" = none) (hv : bootBuiltins "NotImplemented" = some .notImplemented)
    (htest : ∀ (A : Around) (outer : List Env) (s : Shared) (H : Hp) (vs : List V), Room k (A.deeper (envOfC qual scope s.heap.objs.size f cdv)) → pre vs H →
      ∃ t, PT (cxOf CX0 P w K mg base N qual scope f cdv A outer s H E0).nox tst t ∧ t (start N vs) H (fun b H1 => b = true ∧ Same H H1)) :
    FnNI P w K mg base (k + 1) f (PySem.W.fnOf name qual params body scope dV kV doc pm an cdv ct) ps pre := by
  refine ⟨len, fun A outer s H args us vs hr e0 hb r hsp => ?_⟩
  have hl := len _ _ hsp
  have KX : K.In s.heap := e0.mod.kin.keeps fun b o e => (e0.bs b o e).1
  have lim : s.heap.NoLimit := e0.mod.nolimit.keeps fun b o e => (e0.bs b o e).1
  have hkind : ∀ y ∈ ps.zip us, scope.names.lookup y.1 = some .local ∨ (scope.names.lookup y.1 = some .cell ∧ ((cellsFrom (s.heap.objs.size + 1) scope.names []).lookup y.1).isSome = true) := fun ⟨n, v⟩ hy => by
    rcases S.par n (List.of_mem_zip hy).1 with q | q
    · exact .inl q
    · exact .inr ⟨q, PySem.W.cellsFrom_some _ _ _ (.inl q)⟩
  refine codeAny_call_function hr.depth (KX _ _ lk) rfl S.co S.gen rfl (PySem.W.codeRec_of KX hcd) (hb _ _ _ _ ?_)
  refine wpAny_newFunctionEnv_cells S.kind hkind fun env he s1 x => ?_
  subst he
  refine ⟨lim.keeps x.toInCall.keep, codeAny_func ?_⟩
  obtain ⟨t, ht, hq⟩ := htest A outer s H vs (hr.deeper _) hsp
  have I : Inv (cxOf CX0 P w K mg base N qual scope f cdv A outer s H E0) [] (start N vs) H s1 := inv_start S hr.hd e0 hl r x
  subst hbd
  have run : wpAny (model P w) (cxOf CX0 P w K mg base N qual scope f cdv A outer s H E0).A (execs (.If tst [.Return (some (.Name "NotImplemented" p1)) p2] [] p3 :: rest) (cxOf CX0 P w K mg base N qual scope f cdv A outer s H E0).env)
      (fun fl s' => fl = .ret .notImplemented ∧ CE outer P w H s (fun v H' => v = .non ∧ Same H H') .none s') (fun _ _ => False) s1 := by
    refine wpAny_execs_cons (wpAny_mono (wpAny_If (wpAny_mono (ht.run [] s1 (start N vs) H (fun b H1 => b = true ∧ Same H H1) (I.wish _) hq) (fun d s2 q2 => ?_) fun _ _ z => z))
      (fun fl s' (z : fl = .ret .notImplemented ∧ CE outer P w H s (fun v H' => v = .non ∧ Same H H') .none s') => ?_) fun _ _ z => z)
    · obtain ⟨H2, I2, rfl, sm⟩ := q2
      refine wpAny_execs_cons (wpAny_mono (wpAny_Return_some (Q := fun fl s' => fl = .ret .notImplemented ∧ CE outer P w H s (fun v H' => v = .non ∧ Same H H') .none s') (ld_blt I2.unwish hg hm hv ?_)) (fun fl s' z => ?_) fun _ _ z => z)
      · exact ⟨rfl, ⟨.non, H2, I2.os, I2.bare, I2.base, I2.hok, rfl, rfl, sm⟩⟩
      · obtain ⟨rfl, z⟩ := z
        exact ⟨rfl, z⟩
    · obtain ⟨rfl, z⟩ := z
      exact ⟨rfl, z⟩
  exact wpAny_mono run (fun fl s' z => by obtain ⟨rfl, z⟩ := z; exact ⟨rfl, z⟩) fun _ _ z => z.elim
end
end L2
namespace EO
open PySem PySem.W PySem.Spec PyProof.Rows L2
open SeqAt
open AutoSeq1 (wpAny_loadPart')
section
variable {prog : Program} {w : World} {A : Around} {E : Value → Shared → Prop} {s : Shared} {K : Frag} {x C : Addr} {ox : Obj} {od : Option Obj}
theorem int_declines_ins (b : Int) (u : Tok) (l dx : Addr) : Meets (Builtin.«int.__eq__» ⟨[.int b u, .ref l], []⟩) (fun _ R s => s.heap.get? l = some (instObj C dx) ∧ R (.ok (.ret .notImplemented)) s) :=
  .of_wp fun prog w A R s h => by
    obtain ⟨hp, g, d, tk, os⟩ := s; obtain ⟨hl, h⟩ := h
    wp_walk using wpAny_loadPart' hl, wpAny_load hl
    exact ⟨_, rfl, h⟩
theorem list_declines_ins {l : Addr} {items : Array Value} {R : Result → Shared → Prop} (hl : s.heap.IsList l items) (X : K.In s.heap) (I : InstAt s.heap x ox C od) (hm : mroIn K C (.type "list") = some false) (h : R (.ok (.ret .notImplemented)) s) :
    wpAny (model prog w) A.in1 (Builtin.«list.__eq__» ⟨[.ref l, .ref x], []⟩) (fun fin s' => match fin with | .done f => R (.ok f) s' | .again c' => c'.quiet = true ∧ codeAny (model prog w) A c' R s') (fun e s' => R (.error e) s') s := by
  have hx := I.at_
  have hcl := I.cls
  obtain ⟨⟨cls, dd, data, sl⟩, ho, hc, n, hd⟩ := id hl
  simp only at hc hd
  subst hc hd
  obtain ⟨cls2, dd2, data2, sl2⟩ := ox
  simp only at hcl
  subst hcl
  obtain ⟨hp, g, d, tk, os⟩ := s
  wp_walk using wpAny_loadPart' ho, wpAny_loadPart' hx
  refine (looks_mroIn X hm).here ?_
  simp only [Bool.not_false, if_true]
  wp_walk
  exact h
theorem nf {K : Frag} {C : Addr} {T : String} {l : List Value} (h : fastBuiltinMro T = some l) (hc : l.contains (.ref C) = false) : notFirst K C (.type T) = true := by
  unfold notFirst subIn
  simp only [h, Option.map_some, hc]
  simp
theorem mro_None : fastBuiltinMro "NoneType" = some [.type "NoneType", .type "object"] := by decide +kernel
theorem mro_int : fastBuiltinMro "int" = some [.type "int", .type "object"] := by decide +kernel
theorem mro_list : fastBuiltinMro "list" = some [.type "list", .type "object"] := by decide +kernel
end
end EO
namespace L2
open PySem PySem.Spec PyProof.Rows
/-- an instance compared with None, an int, a list: its own == says NotImplemented, the other's too; so False -/
def rNI (C : Addr) (pre : List V → Hp → Prop) : R2 := fun x y H Q => ∃ a dx fs, x = .ref a ∧ H a = some (.ins C dx fs) ∧ pre [x, y] H ∧ (y = .non ∨ (∃ i, y = .int i) ∨ ∃ l xs, y = .ref l ∧ H l = some (.lst xs)) ∧ ∀ H', Same H H' → Q (.bl false) H'
theorem op_eqNI {X : Cx} {n : Nat} {C f : Addr} {fd : FuncData} {ps : List Str} {pre : List V → Hp → Prop} (O : OwnE X.K C f) (ml : PySem.W.mroIn X.K C (.type "list") = some false)
    (G : FnNI X.prog X.w X.K X.mg X.base n f fd ps pre) (hr : Room n X.A) (hb : Binds X.K fd ps []) : OpR X (compareOp .Eq) (rNI C pre) := by
  intro pins s σ H x y u v Q I rx ry h
  obtain ⟨a, dx, fs, rfl, ha, hp, hy, hQ⟩ := h
  cases rx
  obtain ⟨mA, J, _⟩ := ins_get I.hok ha
  obtain ⟨od, J, _⟩ := J.look
  show wpAny (model X.prog X.w) X.A (richCompare .Eq (.ref a) v) (EP X pins σ Q) X.xe s
  have hl := G.len _ _ hp
  have call : ∀ (T : String), PySem.W.Looks (model X.prog X.w) s.heap (typeOf v) (.type T) → PySem.W.notFirst X.K C (.type T) = true →
      (∀ s' H', Inv X pins σ H' s' → Same H H' → wpAny (model X.prog X.w) X.A (tryCompare v "__eq__" (.ref a)) (fun r s2 => r = none ∧ wpAny (model X.prog X.w) X.A (isSame (.ref a) v) (fun k s3 => k = false ∧ Inv X pins σ H' s3) X.xe s2) X.xe s') →
      wpAny (model X.prog X.w) X.A (richCompare .Eq (.ref a) v) (EP X pins σ Q) X.xe s := fun T lk nf tr => by
    refine EO.cmp_dec_K (tb := .type T) hr.units0 I.kIn J lk nf O.eq O.fn ?_
    refine wpAny_call (codeAny_mono (G.run X.A X.stack s H ⟨[.ref a, v], []⟩ [.ref a, v] [.ref a, y] hr I.env0 (by
      have := hb s [.ref a, v] I.kIn (by rw [List.append_nil, ← hl]; rfl)
      simpa using this) (.cons rfl (.cons ry .nil)) hp) fun r s' hq => ?_)
    obtain ⟨rfl, hq⟩ := hq
    obtain ⟨z, H', I', rz, ez, sm⟩ := I.after hq
    refine ⟨rfl, wpAny_mono (tr s' H' I' sm) (fun r s2 q => ⟨q.1, wpAny_mono q.2 (fun k s3 q => ?_) fun _ _ e => e⟩) fun _ _ e => e⟩
    obtain ⟨rfl, I3⟩ := q
    exact ⟨.bl false, H', I3, rfl, hQ H' sm⟩
  have at' : ∀ s' H', Inv X pins σ H' s' → Same H H' → ∃ od, PySem.W.InstAt s'.heap a (PySem.W.instObj C dx) C (some od) := fun s' H' I' sm => by
    obtain ⟨mA, J, _⟩ := ins_get I'.hok (sm _ _ ha)
    obtain ⟨od, J, _⟩ := J.look
    exact ⟨od, J⟩
  rcases hy with rfl | ⟨i, rfl⟩ | ⟨l, xs, rfl, hl'⟩
  · cases ry
    refine call "NoneType" (PySem.W.Looks.of_pure rfl) (EO.nf EO.mro_None (by simp)) fun s' H' I' sm => ?_
    exact wpAny_tryCompare_declines rfl F.slot_NoneType_eq (call_gives F.slot_NoneType_eq rfl F.entry_NoneType_eq (F.args_NoneType_eq_2 _ _) (SeqAt.NoneType___eq___none_ref_0 a)
      ⟨rfl, rfl, wpAny_of_eq (rfl : isSame (.ref a) .none = pure false) ⟨rfl, I'⟩⟩)
  · obtain ⟨t, rfl⟩ := ry
    refine call "int" (PySem.W.Looks.of_pure rfl) (EO.nf EO.mro_int (by simp)) fun s' H' I' sm => ?_
    obtain ⟨od', J'⟩ := at' s' H' I' sm
    exact wpAny_tryCompare_declines (typeIs_int s' i t) F.slot_int_eq (call_meets F.slot_int_eq (typeIs_int s' i t) F.entry_int_eq (F.args_int_eq_2 _ _) (EO.int_declines_ins (C := C) i t a dx)
      ⟨J'.at_, rfl, rfl, wpAny_of_eq (rfl : isSame (.ref a) (.int i t) = pure false) ⟨rfl, I'⟩⟩)
  · cases ry
    obtain ⟨_, its, k, r, e⟩ := I.hok l _ hl'
    refine call "list" ((PySem.W.Looks.ld (part := none) e).andThen .now) (EO.nf EO.mro_list (by simp)) fun s' H' I' sm => ?_
    obtain ⟨od', J'⟩ := at' s' H' I' sm
    obtain ⟨_, its', k', r', e'⟩ := I'.hok l _ (sm _ _ hl')
    have nal : a ≠ l := ne_of ha hl' (by intro z; cases z)
    refine wpAny_tryCompare_declines ⟨_, e', rfl⟩ F.slot_list_eq (GQ.call_here F.slot_list_eq ⟨_, e', rfl⟩ F.entry_list_eq (F.args_list_eq_2 _ _) ?_)
    exact EO.list_declines_ins (R := wants _ _) ⟨_, e', rfl, _, rfl⟩ I'.kIn J' ml ⟨rfl, rfl, SeqAt.wpAny_isSame_ref_other' nal J'.at_ e' (by show Value.type "list" ≠ Value.type "tuple"; decide) ⟨rfl, I'⟩⟩
end L2
set_option Elab.async false
set_option linter.all false
set_option maxRecDepth 100000
namespace K1
open PySem L2
/-- a def of the text, by its name -/
structure Df (K : PySem.W.Frag) (mg : Str → Option Value) (x : Str) (st : Stmt) (ps : List Str) (f : Addr) (fd : FuncData) : Prop where
  F : Fun K x x st f fd
  g : mg x = some (.ref f)
  b : Binds K fd ps []
theorem Kept.seq {K : PySem.W.Frag} {d : Addr} {H H' : Hp} {a : Addr} {xs : List V} (e : Kept d H H') (n : a ≠ d) (h : SqL K H a xs) : SqL K H' a xs := by
  rcases h with (h | ⟨o, h⟩) | h
  · exact .inl (.inl (e _ _ h n))
  · exact .inl (.inr ⟨o, e _ _ h n⟩)
  · exact .inr h
theorem Kept.seqT {K : PySem.W.Frag} {d : Addr} {H H' : Hp} {a : Addr} {xs : List V} (e : Kept d H H') (n : a ≠ d) (h : SqT K H a xs) : SqT K H' a xs := by
  rcases h with (h | ⟨o, h⟩) | h
  · exact .inl (.inl (e _ _ h n))
  · exact .inl (.inr ⟨o, e _ _ h n⟩)
  · exact .inr h
def spPickL (K : PySem.W.Frag) : Sp := fun vs H Q _ => ∃ (d c p : Addr) (n : Nat) (xs : List V), vs = [.ref d, .ref p] ∧ PenAt H d c n ∧ n ≤ 1000000 ∧ p ≠ d ∧ SqL K H p xs ∧ 0 < xs.length ∧ xs.length < 1073741824 ∧
  ∀ (x : V) (H' : Hp), x ∈ xs → PenAt H' d c (n + 1) → Kept d H H' → Q x H'
def spPickS : Sp := fun vs H Q _ => ∃ (d q : Addr) (n : Nat) (z : Str), vs = [.ref d, .str z] ∧ PenAt H d q n ∧ n ≤ 1000000 ∧ 0 < z.length ∧ z.length < 10000 ∧
  ∀ (c : Nat) (H' : Hp), c ∈ z.cps.toList → PenAt H' d q (n + 1) → Kept d H H' → Q (.str ⟨#[c]⟩) H'
section
variable {P : Program} {w : World} {K : PySem.W.Frag} {mg : Str → Option Value} {base : Heap}
theorem scPick : FnScope ["_law_pen_here", "_law_some"] ["_law_pen_here", "_law_some"] (defScope sPick) := ⟨rfl, rfl, rfl, by decide +kernel, rfl, by decide +kernel, by decide +kernel⟩
abbrev pDraw : List Str := ["_law_pen_here", "_law_many"]
abbrev pPick : List Str := ["_law_pen_here", "_law_some"]
theorem ok_pickL {f fD : Addr} {fd fdD : FuncData} (D : Df K mg "_law_pick" sPick pPick f fd) (DD : Df K mg "_law_draw" sDraw pDraw fD fdD) (T : Bt mg) : FnOk P w K mg base CX0 2 f fd pPick (spPickL K) := by
  have GD : FnOk P w K mg base CX0 1 fD fdD pDraw spDraw := ok_draw DD.F T
  refine D.F.ok scPick (fun vs H Q E h => ?_) (fun cdv A outer s H vs Q E hr h => ?_)
  · obtain ⟨d, c, p, n, xs, rfl, _⟩ := h
    rfl
  · obtain ⟨d, c, p, n, xs, rfl, hp, hn, npd, hx, h0, h1, k⟩ := h
    refine ⟨_, pss_one (ps_ret (pe_ix ix_list (pv 1) (pe_call GD hr rfl DD.g DD.F.kp DD.b .nil pass0 (pa_cons (pv 0) (pa_cons (pe_callB call_len (by rfl) T.len PySem.boot_len (pa_cons (pv 1) pa_nil)) pa_nil))) (fun _ _ => rfl))), ?_⟩
    refine ⟨_, rfl, _, rfl, _, rfl, _, xs.length, rfl, .inl ⟨_, hx, rfl⟩, d, c, n, xs.length, rfl, hp, hn, by omega, by omega, fun r H' r0 r1 hp' kp => ?_⟩
    obtain ⟨j, rfl⟩ : ∃ j : Nat, r = (j : Int) := ⟨r.toNat, by omega⟩
    have hj : j < xs.length := by omega
    exact ⟨p, xs, _, xs[j], rfl, rfl, kp.seq npd hx, atI_nat (by simp [hj]), k _ _ (List.getElem_mem _) hp' kp⟩
theorem ok_pickS {f fD : Addr} {fd fdD : FuncData} (D : Df K mg "_law_pick" sPick pPick f fd) (DD : Df K mg "_law_draw" sDraw pDraw fD fdD) (T : Bt mg) : FnOk P w K mg base CX0 2 f fd pPick spPickS := by
  have GD : FnOk P w K mg base CX0 1 fD fdD pDraw spDraw := ok_draw DD.F T
  refine D.F.ok scPick (fun vs H Q E h => ?_) (fun cdv A outer s H vs Q E hr h => ?_)
  · obtain ⟨d, q, n, z, rfl, _⟩ := h
    rfl
  · obtain ⟨d, q, n, z, rfl, hp, hn, h0, h1, k⟩ := h
    have hz : z.length ≤ sizeLine := Nat.le_trans (Nat.le_of_lt h1) (by decide)
    refine ⟨_, pss_one (ps_ret (pe_ix ix_str (pv 1) (pe_call GD hr rfl DD.g DD.F.kp DD.b .nil pass0 (pa_cons (pv 0) (pa_cons (pe_callB call_len (by rfl) T.len PySem.boot_len (pa_cons (pv 1) pa_nil)) pa_nil))) (fun _ _ => rfl))), ?_⟩
    refine ⟨_, rfl, _, rfl, _, rfl, _, z.length, rfl, ⟨hz, rfl⟩, d, q, n, z.length, rfl, hp, hn, by omega, by omega, fun r H' r0 r1 hp' kp => ?_⟩
    obtain ⟨j, rfl⟩ : ∃ j : Nat, r = (j : Int) := ⟨r.toNat, by omega⟩
    have hj : j < z.cps.toList.length := by
      have : z.length = z.cps.toList.length := by simp [Str.length]
      omega
    exact ⟨z, _, z.cps.toList[j], rfl, rfl, hz, atI_nat (by simp [hj]), k _ _ (List.getElem_mem _) hp' kp⟩
end
end K1
set_option Elab.async false
set_option linter.all false
set_option maxRecDepth 100000
namespace K1
open PySem L2
/-! the words -/
abbrev zLE : Str := "abcdefghijklmnopqrstuvwxyz"
abbrev zDG : Str := "0123456789"
def LE : List Nat := zLE.cps.toList
def AL : List Nat := LE ++ zDG.cps.toList
theorem LE_eq : LE = (List.range 26).map (· + 97) := by decide +kernel
def one (c : Nat) : Str := ⟨#[c]⟩
theorem joinL_nil : ∀ l : List (List Nat), TL.joinL [] l = l.flatten
  | [] => rfl
  | [p] => by simp [TL.joinL]
  | p :: q :: r => by rw [TL.joinL, joinL_nil (q :: r)]; simp
theorem join_ones (cs : List Nat) : (Txt.join ("" : Str) (cs.map one)).cps.toList = cs := by
  have e1 : ((cs.map one).map TL.tl).flatten = cs := by
    induction cs with
    | nil => rfl
    | cons c r ih => simp [one, TL.tl] at ih ⊢; exact ih
  have e := TL.tl_join ("" : Str) (cs.map one)
  rw [TL.join_eq]
  have e0 : TL.tl ("" : Str) = [] := by decide +kernel
  rw [e0, joinL_nil, e1] at e
  exact e
theorem sum_ones : ∀ cs : List Nat, ((cs.map one).map (·.length)).sum = cs.length
  | [] => rfl
  | c :: r => by
    have := sum_ones r
    simp only [List.map_cons, List.sum_cons, List.length_cons, this]
    show 1 + r.length = _
    omega
/-- a word as the pen makes it -/
def Wd (z : Str) : Prop := ∃ c r, z.cps.toList = c :: r ∧ c ∈ LE ∧ (∀ x ∈ r, x ∈ AL) ∧ r.length ≤ 6
theorem AL_eq : AL = (zLE ++ zDG).cps.toList := by decide +kernel
def wordAt (zF zB : Str) (a b k : Nat) : Str := zF ++ one (LE.getD ((a + b * k) % 26) 0) ++ zB
theorem tl_wordAt (zF zB : Str) (a b k : Nat) : (wordAt zF zB a b k).cps.toList = zF.cps.toList ++ (LE.getD ((a + b * k) % 26) 0 :: zB.cps.toList) := by
  unfold wordAt
  have e1 := TL.tl_append (zF ++ one (LE.getD ((a + b * k) % 26) 0)) zB
  have e2 := TL.tl_append zF (one (LE.getD ((a + b * k) % 26) 0))
  unfold TL.tl at e1 e2
  rw [e1, e2]
  simp [one]
theorem LE_len : LE.length = 26 := by decide +kernel
theorem LE_getD {i : Nat} (h : i < 26) : LE.getD i 0 = i + 97 := by
  rw [LE_eq]
  simp [h]
theorem LE_mem {i : Nat} (h : i < 26) : LE.getD i 0 ∈ LE := by
  have : i < LE.length := by rw [LE_len]; exact h
  rw [List.getD_eq_getElem?_getD, List.getElem?_eq_getElem this]
  exact List.getElem_mem _
theorem LE_AL {c : Nat} (h : c ∈ LE) : c ∈ AL := List.mem_append_left _ h
theorem wordAt_wd {zF zB : Str} {a b k : Nat} (hF : ∀ c ∈ zF.cps.toList, c ∈ LE) (lF : zF.cps.toList.length ≤ 3) (hB : ∀ c ∈ zB.cps.toList, c ∈ AL) (lB : zB.cps.toList.length ≤ 3) : Wd (wordAt zF zB a b k) := by
  unfold Wd
  rw [tl_wordAt]
  have hm := LE_mem (i := (a + b * k) % 26) (Nat.mod_lt _ (by decide))
  generalize LE.getD ((a + b * k) % 26) 0 = c at hm
  generalize zF.cps.toList = F at hF lF
  generalize zB.cps.toList = B at hB lB
  cases F with
  | nil => exact ⟨c, B, rfl, hm, hB, by omega⟩
  | cons x r =>
    simp only [List.length_cons] at lF
    refine ⟨x, r ++ c :: B, rfl, hF x (List.mem_cons_self ..), fun y hy => ?_, by simp; omega⟩
    rcases List.mem_append.mp hy with h | h
    · exact LE_AL (hF y (List.mem_cons_of_mem _ h))
    · rcases List.mem_cons.mp h with rfl | h
      · exact LE_AL hm
      · exact hB y h
theorem step_inj {a b i j : Nat} (hb : b = 1 ∨ b = 3 ∨ b = 5 ∨ b = 7 ∨ b = 9 ∨ b = 11) (hi : i < 26) (hj : j < 26) (h : (a + b * i) % 26 = (a + b * j) % 26) : i = j := by
  rcases hb with rfl | rfl | rfl | rfl | rfl | rfl <;> omega
theorem wordAt_inj {zF zB : Str} {a b i j : Nat} (hb : b = 1 ∨ b = 3 ∨ b = 5 ∨ b = 7 ∨ b = 9 ∨ b = 11) (hi : i < 26) (hj : j < 26) (h : wordAt zF zB a b i = wordAt zF zB a b j) : i = j := by
  have e := congrArg (fun z : Str => z.cps.toList) h
  simp only [tl_wordAt] at e
  have e2 := List.append_cancel_left e
  injection e2 with e3 _
  rw [LE_getD (Nat.mod_lt _ (by decide)), LE_getD (Nat.mod_lt _ (by decide))] at e3
  exact step_inj (a := a) hb hi hj (by omega)
theorem words_nodup {zF zB : Str} {a b : Nat} (hb : b = 1 ∨ b = 3 ∨ b = 5 ∨ b = 7 ∨ b = 9 ∨ b = 11) : ∀ m, m ≤ 26 → ((List.range m).map (wordAt zF zB a b)).Nodup := fun m hm => by
  rw [List.nodup_iff_pairwise_ne, List.pairwise_map]
  refine List.Pairwise.imp_of_mem ?_ (List.nodup_iff_pairwise_ne.mp List.nodup_range)
  intro i j hi hj hne h
  exact hne (wordAt_inj hb (Nat.lt_of_lt_of_le (List.mem_range.mp hi) hm) (Nat.lt_of_lt_of_le (List.mem_range.mp hj) hm) h)
theorem one_len (c : Nat) : (one c).length = 1 := rfl
theorem len_tl (z : Str) : z.length = z.cps.toList.length := by simp [Str.length]
/-- words: many new words, no two equal -/
def spWords (K : PySem.W.Frag) : Sp := fun vs H Q _ => ∃ (d c : Addr) (n m : Nat), vs = [.ref d, .int (m : Int)] ∧ PenAt H d c n ∧ n ≤ 900000 ∧ m ≤ 26 ∧
  ∀ (p : Addr) (ws : List Str) (H' : Hp), H p = none → H' p = some (.lst (ws.map V.str)) → ws.length = m → ws.Nodup → (∀ z ∈ ws, Wd z) → (∃ k, ∀ z ∈ ws, z.cps.toList.length = k) → PenAt H' d c (n + 20) → Kept d H H' → Q (.ref p) H'
section
variable {P : Program} {w : World} {K : PySem.W.Frag} {mg : Str → Option Value} {base : Heap}
abbrev nWords : List Str := ["_law_pen_here", "_law_many", "_law_letters", "_law_front", "_law_back", "_law_first", "_law_step", "_law_k"]
theorem scWords : FnScope nWords ["_law_pen_here", "_law_many"] (defScope sWords) := ⟨rfl, rfl, rfl, by decide +kernel, rfl, by decide +kernel, by decide +kernel⟩
theorem ok_words {f fD fP : Addr} {fd fdD fdP : FuncData} (D : Df K mg "_law_words" sWords pDraw f fd) (DD : Df K mg "_law_draw" sDraw pDraw fD fdD) (DP : Df K mg "_law_pick" sPick pPick fP fdP) (T : Bt mg) : FnOk P w K mg base CX0 3 f fd pDraw (spWords K) := by
  have GD : FnOk P w K mg base CX0 1 fD fdD pDraw spDraw := ok_draw DD.F T
  have GS : FnOk P w K mg base CX0 2 fP fdP pPick spPickS := ok_pickS DP DD T
  refine D.F.ok scWords (fun vs H Q E h => ?_) (fun cdv A outer s H vs Q E hr h => ?_)
  · obtain ⟨d, c, n, m, rfl, _⟩ := h
    rfl
  · obtain ⟨d, q, n, m, rfl, hp, hn, hm, k⟩ := h
    have hr1 : Room 1 _ := hr.mono (by decide)
    refine ⟨_, pss_cons (ps_set (i := 2) scWords.nd rfl (Or.inr rfl) pe_str)
      (pss_cons (ps_set (i := 3) scWords.nd rfl (Or.inr rfl) (pe_join pe_str (pe_lc (own := [("_law_k", 7)]) (g := gName 7) (by rfl) scWords.nd
        (pi_range1 rfl T.range (pa_cons (pe_call GD hr1 rfl DD.g DD.F.kp DD.b .nil pass0 (pa_cons (pv 0) (pa_cons pe_int pa_nil))) pa_nil))
        (blkOk_by (own := [("_law_k", 7)]) (N := nWords) (sc := defScope sWords) (by decide +kernel)) (fun _ _ _ _ _ => pg_name (i := 7) scWords.nd rfl (Or.inl rfl)) (fun _ _ _ _ _ => pts_nil)
        (fun _ _ _ _ _ => pe_call GS hr rfl DP.g DP.F.kp DP.b .nil pass0 (pa_cons (pv 0) (pa_cons (pv 2) pa_nil))))))
      (pss_cons (ps_set (i := 4) scWords.nd rfl (Or.inr rfl) (pe_join pe_str (pe_lc (own := [("_law_k", 7)]) (g := gName 7) (by rfl) scWords.nd
        (pi_range1 rfl T.range (pa_cons (pe_call GD hr1 rfl DD.g DD.F.kp DD.b .nil pass0 (pa_cons (pv 0) (pa_cons pe_int pa_nil))) pa_nil))
        (blkOk_by (own := [("_law_k", 7)]) (N := nWords) (sc := defScope sWords) (by decide +kernel)) (fun _ _ _ _ _ => pg_name (i := 7) scWords.nd rfl (Or.inl rfl)) (fun _ _ _ _ _ => pts_nil)
        (fun _ _ _ _ _ => pe_call GS hr rfl DP.g DP.F.kp DP.b .nil pass0 (pa_cons (pv 0) (pa_cons (pe_op op_add_str (pv 2) pe_str) pa_nil))))))
      (pss_cons (ps_asg (pe_tup (pa_cons (pe_call GD hr1 rfl DD.g DD.F.kp DD.b .nil pass0 (pa_cons (pv 0) (pa_cons pe_int pa_nil)))
          (pa_cons (pe_ix ix_list (pe_lst (pa_cons pe_int (pa_cons pe_int (pa_cons pe_int (pa_cons pe_int (pa_cons pe_int (pa_cons pe_int pa_nil))))))) (pe_call GD hr1 rfl DD.g DD.F.kp DD.b .nil pass0 (pa_cons (pv 0) (pa_cons pe_int pa_nil))) (fun _ _ => rfl)) pa_nil)))
          (pg_tup (by rfl) (pgs_cons (pg_name (i := 5) scWords.nd rfl (Or.inr rfl)) (pgs_cons (pg_name (i := 6) scWords.nd rfl (Or.inr rfl)) pgs_nil))))
      (pss_one (ps_ret (pe_lc (own := [("_law_k", 7)]) (g := gName 7) (by rfl) scWords.nd
        (pi_range1 rfl T.range (pa_cons (pv 1) pa_nil))
        (blkOk_by (own := [("_law_k", 7)]) (N := nWords) (sc := defScope sWords) (by decide +kernel)) (fun _ _ _ _ _ => pg_name (i := 7) scWords.nd rfl (Or.inl rfl)) (fun _ _ _ _ _ => pts_nil)
        (fun _ _ _ _ _ => pe_op op_add_str (pe_op op_add_str (pv 3) (pe_ix ix_str (pv 2) (pe_op op_modN (pe_callTy call_int1 (by rfl) T.int (by decide +kernel) (pa_cons (pe_op op_add (pv 5) (pe_op op_mul (pv 6) (pv 7))) pa_nil)) pe_int) (fun _ _ => rfl))) (pv 4)))))))), ?_⟩
    -- front
    refine ⟨⟨_, rfl⟩, _, rfl, d, q, n, 4, rfl, hp, by omega, by decide, by decide, fun r H1 r0 r1 hp1 kp1 => ⟨r, rfl, by omega, by omega, fun D1 hD1 => ?_⟩⟩
    obtain ⟨j, rfl⟩ : ∃ j : Nat, r = (j : Int) := ⟨r.toNat, by omega⟩
    rw [Int.toNat_natCast]
    have zD1 : H D1 = none := kp1.free hp1 hD1
    obtain ⟨nDd, nDq⟩ := hp.ne zD1
    refine lc_range (lo := 0) (n := j) (fun i H' => ∃ cs : List Nat, cs.length = i ∧ (∀ c ∈ cs, c ∈ LE) ∧ H' D1 = some (.lst ((cs.map one).map V.str)) ∧ PenAt H' d q (n + 1 + i) ∧ Kept d H H') ?_ ?_ ?_
    · exact ⟨[], rfl, by simp, upd_same, hp1.upd nDd nDq, kp1.upd zD1⟩
    · rintro i H2 hi ⟨cs, hcs, hc, hD, hp2, kp2⟩
      refine ⟨rfl, _, rfl, _, rfl, d, q, _, zLE, rfl, hp2, by omega, by decide +kernel, by decide +kernel, fun c H3 hcm hp3 kp3 => ?_⟩
      have hD3 := kp3 _ _ hD nDd
      refine ⟨_, hD3, ?_, cs ++ [c], by simp [hcs], ?_, ?_, ?_, ?_⟩
      · simp; exact small1000 (by omega)
      · intro x hx
        rcases List.mem_append.mp hx with h | h
        · exact hc x h
        · rw [List.mem_singleton.mp h]; exact hcm
      · rw [upd_same]; simp [one]
      · exact (hp3.upd nDd nDq).mono (by omega)
      · exact (kp2.trans kp3).upd zD1
    · rintro H2 ⟨F, hF, hFm, hD, hp2, kp2⟩
      clear hp1 kp1 hD1
      refine ⟨_, D1, F.map one, rfl, rfl, .inl (SqL.of hD), ?_, ?_⟩
      · rw [sum_ones, List.length_map]
        show F.length + F.length * 0 ≤ 16777216
        omega
      have eF := join_ones F
      generalize Txt.join ("" : Str) (F.map one) = zF at eF ⊢
      -- back
      refine ⟨⟨_, rfl⟩, _, rfl, d, q, _, 4, rfl, hp2, by omega, by decide, by decide, fun r H3 s0 s1 hp3 kp3 => ⟨r, rfl, by omega, by omega, fun D2 hD2 => ?_⟩⟩
      obtain ⟨j', rfl⟩ : ∃ j' : Nat, r = (j' : Int) := ⟨r.toNat, by omega⟩
      rw [Int.toNat_natCast]
      have zD2 : H D2 = none := (kp2.trans kp3).free hp3 hD2
      obtain ⟨mDd, mDq⟩ := hp.ne zD2
      refine lc_range (lo := 0) (n := j') (fun i H' => ∃ cs : List Nat, cs.length = i ∧ (∀ c ∈ cs, c ∈ AL) ∧ H' D2 = some (.lst ((cs.map one).map V.str)) ∧ PenAt H' d q (n + 5 + i) ∧ Kept d H H') ?_ ?_ ?_
      · exact ⟨[], rfl, by simp, upd_same, (hp3.upd mDd mDq).mono (by omega), (kp2.trans kp3).upd zD2⟩
      · rintro i H4 hi ⟨cs, hcs, hc, hD', hp4, kp4⟩
        refine ⟨rfl, _, rfl, _, rfl, _, _, rfl, rfl, by decide +kernel, d, q, _, zLE ++ zDG, rfl, hp4, by omega, by decide +kernel, by decide +kernel, fun c H5 hcm hp5 kp5 => ?_⟩
        have hD5 := kp5 _ _ hD' mDd
        refine ⟨_, hD5, ?_, cs ++ [c], by simp [hcs], ?_, ?_, ?_, ?_⟩
        · simp; exact small1000 (by omega)
        · intro x hx
          rcases List.mem_append.mp hx with h | h
          · exact hc x h
          · rw [List.mem_singleton.mp h, AL_eq]; exact hcm
        · rw [upd_same]; simp [one]
        · exact (hp5.upd mDd mDq).mono (by omega)
        · exact (kp4.trans kp5).upd zD2
      · rintro H4 ⟨B, hB, hBm, hD', hp4, kp4⟩
        clear hp3 kp3 hD2
        refine ⟨_, D2, B.map one, rfl, rfl, .inl (SqL.of hD'), ?_, ?_⟩
        · rw [sum_ones, List.length_map]
          show B.length + B.length * 0 ≤ 16777216
          omega
        have eB := join_ones B
        generalize Txt.join ("" : Str) (B.map one) = zB at eB ⊢
        -- first, step
        refine ⟨_, rfl, d, q, _, 26, rfl, hp4, by omega, by decide, by decide, fun a H5 a0 a1 hp5 kp5 => ?_⟩
        refine ⟨by decide, fun l hl => ?_⟩
        have zl : H l = none := (kp4.trans kp5).free hp5 hl
        obtain ⟨nld, nlq⟩ := hp.ne zl
        refine ⟨_, rfl, d, q, _, 6, rfl, hp5.upd nld nlq, by omega, by decide, by decide, fun b H6 b0 b1 hp6 kp6 => ?_⟩
        obtain ⟨a, rfl⟩ : ∃ j : Nat, a = (j : Int) := ⟨a.toNat, by omega⟩
        obtain ⟨b, rfl⟩ : ∃ j : Nat, b = (j : Int) := ⟨b.toNat, by omega⟩
        have hl6 := kp6 l _ upd_same nld
        obtain ⟨st, hst, hst2⟩ : ∃ st : Nat, ([V.int 1, V.int 3, V.int 5, V.int 7, V.int 9, V.int 11] : List V)[b]? = some (.int (st : Int)) ∧ (st = 1 ∨ st = 3 ∨ st = 5 ∨ st = 7 ∨ st = 9 ∨ st = 11) := by
          have : b < 6 := by omega
          rcases b with _ | _ | _ | _ | _ | _ | b
          · exact ⟨1, rfl, by simp⟩
          · exact ⟨3, rfl, by simp⟩
          · exact ⟨5, rfl, by simp⟩
          · exact ⟨7, rfl, by simp⟩
          · exact ⟨9, rfl, by simp⟩
          · exact ⟨11, rfl, by simp⟩
          · omega
        refine ⟨l, _, _, _, rfl, rfl, SqL.of hl6, atI_nat hst, ?_⟩
        refine ⟨by show 2 ≤ sizeLine; decide, fun t ht => ?_⟩
        refine ⟨t, _, rfl, SqT.of upd_same, rfl, ?_⟩
        have hp7 : PenAt (upd H6 t (.tup [V.int (a : Int), V.int (st : Int)])) d q (n + 20) := (hp6.same (same_upd ht)).mono (by omega)
        have kp7 : Kept d H (upd H6 t (.tup [V.int (a : Int), V.int (st : Int)])) := (((kp4.trans kp5).upd zl).trans kp6).trans (.same (same_upd ht))
        generalize upd H6 t (.tup [V.int (a : Int), V.int (st : Int)]) = H7 at hp7 kp7 ⊢
        refine ⟨_, _, rfl, _, _, rfl, rfl, ?_⟩
        -- the words
        refine ⟨_, rfl, (m : Int), rfl, by omega, by omega, fun D3 hD3 => ?_⟩
        rw [Int.toNat_natCast]
        have zD3 : H D3 = none := kp7.free hp7 hD3
        obtain ⟨oDd, oDq⟩ := hp.ne zD3
        have lzF : zF.length ≤ 3 := by rw [len_tl, eF, hF]; omega
        have lzB : zB.length ≤ 3 := by rw [len_tl, eB, hB]; omega
        refine lc_range (lo := 0) (n := m) (fun i H' => H' D3 = some (.lst (((List.range i).map (wordAt zF zB a st)).map V.str)) ∧ PenAt H' d q (n + 20) ∧ Kept d H H') ?_ ?_ ?_
        · exact ⟨upd_same, hp7.upd oDd oDq, kp7.upd zD3⟩
        · rintro i H8 hi ⟨hD8, hp8, kp8⟩
          have hi26 : i < 26 := by omega
          refine ⟨rfl, _, rfl, _, rfl, _, rfl, _, rfl, _, rfl, _, _, rfl, rfl, .inl ⟨by omega, by omega⟩, _, _, rfl, rfl, .inl ⟨_, rfl, ?_⟩⟩
          refine ⟨_, _, rfl, rfl, by show (26 : Int) ≠ 0; decide, ?_⟩
          have ei : ((a : Int) + (st : Int) * (0 + (i : Int))).fmod 26 = (((a + st * i) % 26 : Nat) : Int) := by
            rw [Int.fmod_eq_emod_of_nonneg _ (by decide)]
            simp
          have hlt : (a + st * i) % 26 < 26 := Nat.mod_lt _ (by decide)
          refine ⟨zLE, _, LE.getD ((a + st * i) % 26) 0, rfl, rfl, by decide +kernel, ?_, _, _, rfl, rfl, ?_, _, rfl, _, _, rfl, rfl, ?_, _, hD8, ?_, ?_, ?_, ?_⟩
          · show atI LE (((a : Int) + (st : Int) * (0 + (i : Int))).fmod 26) = _
            rw [ei]
            refine atI_nat ?_
            show LE[(a + st * i) % 26]? = _
            have : (a + st * i) % 26 < LE.length := by rw [LE_len]; exact hlt
            rw [List.getD_eq_getElem?_getD, List.getElem?_eq_getElem this]
            rfl
          · show zF.length + 1 ≤ sizeLine
            exact Nat.le_trans (by omega : zF.length + 1 ≤ 100) (by decide)
          · have e1 : (zF ++ (⟨#[LE.getD ((a + st * i) % 26) 0]⟩ : Str)).length = zF.length + 1 := by
              rw [len_tl, len_tl]
              have := TL.tl_append zF (⟨#[LE.getD ((a + st * i) % 26) 0]⟩ : Str)
              unfold TL.tl at this
              rw [this]
              simp
            rw [e1]
            exact Nat.le_trans (by omega : zF.length + 1 + zB.length ≤ 100) (by decide)
          · simp; exact small1000 (by omega)
          · rw [upd_same, List.range_succ]
            simp [wordAt, one]
          · exact hp8.upd oDd oDq
          · exact kp8.upd zD3
        · rintro H8 ⟨hD8, hp8, kp8⟩
          refine k D3 _ H8 zD3 hD8 (by simp) (words_nodup hst2 m hm) (fun z hz => ?_) ⟨zF.cps.toList.length + 1 + zB.cps.toList.length, fun z hz => by
            obtain ⟨i, _, rfl⟩ := List.mem_map.mp hz
            rw [tl_wordAt]; simp; omega⟩ hp8 kp8
          obtain ⟨i, _, rfl⟩ := List.mem_map.mp hz
          refine wordAt_wd (fun c hc => hFm c (eF ▸ hc)) (by rw [eF, hF]; omega) (fun c hc => hBm c (eB ▸ hc)) (by rw [eB, hB]; omega)
end
end K1
set_option Elab.async false
set_option linter.all false
set_option maxRecDepth 100000
/-! tuples whose object is known to have no dict: their methods can be called -/
namespace L2
open PySem PySem.Spec PyProof.Rows
def SqF (H : Hp) (a : Addr) (xs : List V) : Prop := ∃ o, H a = some (.frz o (.tup xs)) ∧ o.dict = none
theorem SqF.sq {K : PySem.W.Frag} {H : Hp} {a : Addr} {xs : List V} (h : SqF H a xs) : SqT K H a xs := by
  obtain ⟨o, h, _⟩ := h
  exact .inl (.inr ⟨o, h⟩)
section
variable {X : Cx}
/-- tuple(xs): a new tuple, known to be one that was made -/
def rTuF (K : PySem.W.Frag) : List V → Hp → VK → Prop := fun xs H Q => ∃ p ys, xs = [.ref p] ∧ ((SqL K H p ys ∧ ∀ l o, H l = none → o.dict = none → Q (.ref l) (upd H l (.frz o (.tup ys)))) ∨ (SqT K H p ys ∧ Q (.ref p) H))
theorem call_tuple_F : CallR X (.type "tuple") (rTuF X.K) := by
  intro pins s σ H xs us Q I r h
  obtain ⟨p, ys, rfl, h⟩ := h
  obtain ⟨u, rfl, rx⟩ := vals1 r
  cases rx
  rcases h with ⟨hq, q⟩ | ⟨hq, q⟩
  · obtain ⟨its, r', pl, hz⟩ := I.list hq
    have hlen := r'.length
    refine call_tuple_list pl.isList (fun h' kp => ?_) (by simp only [List.size_toArray] <;> omega)
    have I1 : Inv X pins σ H { s with heap := h' } := I.kept (t' := s.toks) kp
    have I2 : Inv X pins σ (upd H h'.objs.size (.frz { cls := .type "tuple", data := .seq its.toArray } (.tup ys))) { s with heap := h'.push { cls := .type "tuple", data := .seq its.toArray } } :=
      I1.laid (t' := s.toks) (fun b o e => Heap.get?_push_of_some _ e) (Nat.le_refl _) (show ObjOk X.prog X.w _ _ _ (.frz _ (.tup ys)) from ⟨Heap.get?_push_size _ rfl, hz, its, r', IsTup.new _ _⟩)
    exact ⟨.ref h'.objs.size, _, I2, rfl, q _ _ (I1.hok.fresh (Nat.le_refl _)) rfl⟩
  · obtain ⟨its, r', pl, hz⟩ := I.tuple hq
    exact call_tuple_same pl ⟨.ref p, H, I, rfl, q⟩
def tBMF (r : V → List V → Hp → VK → Prop) (to : TE) (t : TA) : TE := fun σ H Q => to σ H fun x H1 => (∃ p xs, x = .ref p ∧ SqF H1 p xs) ∧ t σ H1 fun xs H2 => r x xs H2 Q
theorem pe_bmF {o e : Expr} {es : List Expr} {to : TE} {t : TA} {name : Str} {apos cpos : Pos} {id : String} {r : V → List V → Hp → VK → Prop}
    (slot : Slot "tuple" name id) (hty : typeOf (.builtin id) = pure (.type "method_descriptor")) (hm : MtR X id r) (ho : PE X o to) (ha : PA X (e :: es) t)
    (hbase : attributeBase o name X.env (eval o X.env) = eval o X.env := by rfl)
    (hfew : ((backTo cpos (starEach (e :: es) X.env)).all (fun x => !x.1) && (backToKw cpos (keywordEach [] X.env)).all (fun x => x.1.isSome)
      && decide ((e :: es).length + ([] : List Keyword).length + (if ([] : List Keyword).isEmpty then 0 else 1) < 30)) = true := by rfl)
    (hline : (apos.endLine == cpos.line) = true := by rfl) (hs : starEach (e :: es) X.env = (false, eval e X.env) :: starEach es X.env := by rfl) (hplain : (backTo cpos (starEach es X.env)).any (·.1) = false := by rfl) :
    PE X (.Call (.Attribute o name apos) (e :: es) [] cpos) (tBMF r to t) := by
  refine ⟨fun pins s σ H Q I h => ?_⟩
  refine wpAny_Call_method_late hbase hfew hline rfl (thn (ho.run pins s σ H _ I h) fun v s1 ⟨x, H1, I1, r1, ⟨p, ys, ex, fz⟩, q1⟩ => ?_)
  subst ex
  cases (show v = Value.ref p from r1)
  obtain ⟨ob, hF, hd⟩ := fz
  obtain ⟨hg, _, its, _, o2, ho2, hc2, _⟩ := I1.hok p _ hF
  rw [hg] at ho2
  cases ho2
  refine ⟨"tuple", id, PySem.F.plainAttrs_tuple, slot, hty, ⟨ob, hg, hc2⟩, fun a ea => by cases ea; exact ⟨ob, hg, hd⟩, ?_⟩
  have hA := ha.run cpos pins s1 σ H1 _ I1 q1
  rw [hs] at hA ⊢
  refine Calls.callWith_builtin (by show (false || (backTo cpos (starEach es X.env)).any (·.1)) = false; rw [hplain] <;> rfl) (Calls.evalArgs_plain ?_)
  exact thn hA fun us s2 ⟨vs, H2, I2, r2, q2⟩ => hm pins s2 σ H2 (.ref p) vs (.ref p) us Q I2 r1 r2 q2
end
theorem SqF.same {H H' : Hp} {a : Addr} {xs : List V} (h : SqF H a xs) (s : Same H H') : SqF H' a xs := by
  obtain ⟨o, h, e⟩ := h
  exact ⟨o, s _ _ h, e⟩
theorem SqF.upd {H : Hp} {a D : Addr} {o : HO} {xs : List V} (h : SqF H a xs) (n : a ≠ D) : SqF (upd H D o) a xs := by
  obtain ⟨o, h, e⟩ := h
  exact ⟨o, by rw [upd_ne n]; exact h, e⟩
end L2
namespace K1
open PySem L2
theorem Kept.seqF {d : Addr} {H H' : Hp} {a : Addr} {xs : List V} (k : Kept d H H') {u : HO} (hd : H d = some u) (n : ∀ o ys, u ≠ .frz o (.tup ys)) (h : SqF H a xs) : SqF H' a xs := by
  obtain ⟨o, h, e⟩ := h
  exact ⟨o, k _ _ h (fun z => by rw [z, hd] at h; cases h; exact n _ _ rfl), e⟩
end K1
set_option Elab.async false
set_option linter.all false
set_option maxRecDepth 100000
namespace K1
open PySem L2
abbrev sPlain : Stmt := top 46
def valOf : Stmt → Expr
  | .Assign _ v _ => v
  | .Return (some v) _ => v
  | _ => .Constant .none 0 ⟨0, 0, 0, 0⟩
def compScope : Expr → Scope
  | .ListComp _ _ sc _ => sc
  | _ => { kind := .function, names := [], isGenerator := false, isCoroutine := false }
def eltOf : Expr → Expr
  | .ListComp e _ _ _ => e
  | e => e
def stOf (s : Stmt) (i : Nat) : Stmt := (defBody s).getD i (.Pass ⟨0, 0, 0, 0⟩)
def spPen (K : PySem.W.Frag) : Sp := fun vs H Q _ => ∃ (a : Addr) (ns : List Int), vs = [.ref a] ∧ SqL K H a (ns.map V.int) ∧ ns.length ≤ 63 ∧
  ∀ (d c : Addr) (H' : Hp), H d = none → H c = none → PenAt H' d c 0 → Same H H' → Q (.ref d) H'
abbrev kDeeds : Key := Sum.inr "deeds"
abbrev kRows : Key := Sum.inr "rows"
abbrev kTells : Key := Sum.inr "tells"
abbrev kStart : Key := Sum.inr "start"
def plainK (t r l : Addr) (s : Int) : List (Key × V) := [(kDeeds, .ref t), (kRows, .ref r), (kTells, .ref l), (kStart, .int s)]
/-- lists of ints at the addresses as, row by row -/
def RowsAt (H : Hp) (as : List Addr) (rs : List (List Int)) : Prop := as.length = rs.length ∧ ∀ (i : Nat) (a : Addr) (r : List Int), as[i]? = some a → rs[i]? = some r → H a = some (.lst (r.map V.int))
structure PlainAt (H : Hp) (p : Addr) (ws : List Str) (rs : List (List Int)) (ss : List Str) (st : Int) : Prop where
  ex : ∃ (t r l : Addr) (as : List Addr), H p = some (.dK (plainK t r l st)) ∧ SqF H t (ws.map V.str) ∧ H r = some (.lst (as.map V.ref)) ∧ H l = some (.lst (ss.map V.str)) ∧ RowsAt H as rs
/-- a machine's parts as they must be -/
structure GoodP (ws : List Str) (rs : List (List Int)) (ss : List Str) (st : Int) (tells : List Str) : Prop where
  many : 1 ≤ rs.length ∧ rs.length ≤ 12
  row : ∀ r ∈ rs, r.length = ws.length ∧ ∀ x ∈ r, 0 ≤ x ∧ x < rs.length
  tl : ss.length = rs.length ∧ ∀ z ∈ ss, z ∈ tells
  st : 0 ≤ st ∧ st < rs.length
def spPlain (K : PySem.W.Frag) : Sp := fun vs H Q _ => ∃ (d c dl tl : Addr) (n : Nat) (m : Int) (ws ts : List Str), vs = [.ref d, .ref dl, .int m, .ref tl] ∧ PenAt H d c n ∧ n ≤ 800000 ∧ SqL K H dl (ws.map V.str) ∧ dl ≠ d ∧ ws.length ≤ 26 ∧
  SqL K H tl (ts.map V.str) ∧ tl ≠ d ∧ 0 < ts.length ∧ ts.length ≤ 10 ∧ 1 ≤ m ∧ m ≤ 12 ∧
  ∀ (p : Addr) (rs : List (List Int)) (ss : List Str) (st : Int) (H' : Hp), H p = none → PlainAt H' p ws rs ss st → GoodP ws rs ss st ts → (rs.length : Int) ≤ m → PenAt H' d c (n + 400) → Kept d H H' → Q (.ref p) H'
theorem plainK_merge (t r l : Addr) (s : Int) : mergeK [] (plainK t r l s) = plainK t r l s := by
  have h1 : ¬ (("deeds" : Str) = "rows") := by decide +kernel
  have h2 : ¬ (("deeds" : Str) = "tells") := by decide +kernel
  have h3 : ¬ (("deeds" : Str) = "start") := by decide +kernel
  have h4 : ¬ (("rows" : Str) = "tells") := by decide +kernel
  have h5 : ¬ (("rows" : Str) = "start") := by decide +kernel
  have h6 : ¬ (("tells" : Str) = "start") := by decide +kernel
  unfold mergeK plainK putK
  simp [h1, h2, h3, h4, h5, h6]
theorem RowsAt.kept {d : Addr} {H H' : Hp} {as : List Addr} {rs : List (List Int)} (h : RowsAt H as rs) (k : Kept d H H') (nd : ∀ a ∈ as, a ≠ d) : RowsAt H' as rs :=
  ⟨h.1, fun i a r e1 e2 => k _ _ (h.2 i a r e1 e2) (nd a (List.mem_of_getElem? e1))⟩
theorem RowsAt.snoc {H : Hp} {as : List Addr} {rs : List (List Int)} {a : Addr} {r : List Int} (h : RowsAt H as rs) (e : H a = some (.lst (r.map V.int))) : RowsAt H (as ++ [a]) (rs ++ [r]) := by
  refine ⟨by simp [h.1], fun i b q e1 e2 => ?_⟩
  by_cases hi : i < as.length
  · rw [List.getElem?_append_left hi] at e1
    rw [List.getElem?_append_left (by rw [← h.1]; exact hi)] at e2
    exact h.2 i b q e1 e2
  · rw [List.getElem?_append_right (by omega)] at e1
    rw [List.getElem?_append_right (by rw [← h.1]; omega), ← h.1] at e2
    cases hj : i - as.length with
    | zero =>
      rw [hj] at e1 e2
      simp at e1 e2
      rw [← e1, ← e2]; exact e
    | succ j => rw [hj] at e1; simp at e1
section
variable {P : Program} {w : World} {K : PySem.W.Frag} {mg : Str → Option Value} {base : Heap}
theorem scPen : FnScope ["_law_script"] ["_law_script"] (defScope sPen) := ⟨rfl, rfl, rfl, by decide +kernel, rfl, by decide +kernel, by decide +kernel⟩
theorem cut63 {xs : List V} (h : xs.length ≤ 63) : cutV xs none (some 63) = xs := by
  have e : HT.sIx xs.length xs.length (some 63) = min 63 xs.length := HT.sIx_nat xs.length xs.length 63
  unfold cutV
  rw [HT.sIx_none, e, Nat.min_eq_right h]
  simp
theorem ok_pen {f : Addr} {fd : FuncData} (D : Df K mg "_law_pen" sPen ["_law_script"] f fd) (T : Bt mg) : FnOk P w K mg base CX0 1 f fd ["_law_script"] (spPen K) := by
  refine D.F.ok scPen (fun vs H Q E h => ?_) (fun cdv A outer s H vs Q E hr h => ?_)
  · obtain ⟨a, ns, rfl, _⟩ := h
    rfl
  · obtain ⟨a, ns, rfl, ha, hl, k⟩ := h
    refine ⟨_, pss_one (ps_ret (pe_disp (pps_cons pe_str (pe_callTy call_list_of (by rfl) T.list (by decide +kernel) (pa_cons (pe_slice sl_list (pv 0) po_none (po_some pe_int)) pa_nil))
      (pps_cons pe_str pe_int (pps_cons pe_str pe_int pps_nil))) (by rfl) (by rfl) (fun z => by cases z) (by decide))), ?_⟩
    intro p hp
    have ha1 := (same_upd (o := .dK []) hp).seq ha
    refine ⟨_, rfl, 63, rfl, a, _, rfl, ha1, fun q hq => ?_⟩
    rw [cut63 (by simpa using hl)]
    refine ⟨q, _, rfl, .inl (SqL.of upd_same), fun c hc => ?_⟩
    have npq : p ≠ q := by intro z; rw [z, upd_same] at hq; cases hq
    have nqp := npq.symm
    have zq : H q = none := by rw [upd_ne nqp] at hq; exact hq
    have npc : p ≠ c := by
      intro z; rw [z] at npq; rw [← z, upd_ne (by rw [z]; exact npq), upd_same] at hc; cases hc
    have nqc : q ≠ c := by intro z; rw [← z, upd_same] at hc; cases hc
    have zc : H c = none := by rw [upd_ne nqc.symm, upd_ne npc.symm] at hc; exact hc
    refine ⟨by rw [upd_ne npc, upd_ne npq, upd_same], penK c 0 0, rfl, by show 3 ≤ 15; decide, ?_⟩
    have em : mergeK [] (penK c 0 0) = penK c 0 0 := by
      have h1 : ¬ (("cells" : Str) = "at") := by decide +kernel
      have h2 : ¬ (("cells" : Str) = "left") := by decide +kernel
      have h3 : ¬ (("at" : Str) = "left") := by decide +kernel
      unfold mergeK penK putK
      simp [h1, h2, h3]
    rw [em]
    refine k p c _ hp zc ⟨ns, 0, 0, upd_same, ?_, hl, by decide, by decide⟩ ?_
    · rw [upd_ne npc.symm, upd_same]
    · intro b o e
      rw [upd_ne (ne_of_none e hp), upd_ne (ne_of_none e zc), upd_ne (ne_of_none e zq), upd_ne (ne_of_none e hp)]
      exact e
abbrev nPlain : List Str := ["_law_pen_here", "_law_deeds", "_law_most", "_law_tells", "_law_many", "_law_rows", "_law_told", "_law_spot", "_law_deed"]
abbrev pPlain : List Str := ["_law_pen_here", "_law_deeds", "_law_most", "_law_tells"]
theorem scPlain : FnScope nPlain pPlain (defScope sPlain) := ⟨rfl, rfl, rfl, by decide +kernel, rfl, by decide +kernel, by decide +kernel⟩
abbrev scO : Scope := compScope (valOf (stOf sPlain 1))
theorem ok_plain {f fD fP : Addr} {fd fdD fdP : FuncData} (D : Df K mg "_law_plain" sPlain pPlain f fd) (DD : Df K mg "_law_draw" sDraw pDraw fD fdD) (DP : Df K mg "_law_pick" sPick pPick fP fdP) (T : Bt mg) : FnOk P w K mg base CX0 3 f fd pPlain (spPlain K) := by
  have GD : FnOk P w K mg base CX0 1 fD fdD pDraw spDraw := ok_draw DD.F T
  have GL : FnOk P w K mg base CX0 2 fP fdP pPick (spPickL K) := ok_pickL DP DD T
  refine D.F.ok scPlain (fun vs H Q E h => ?_) (fun cdv A outer s H vs Q E hr h => ?_)
  · obtain ⟨d, c, dl, tl, n, m, ws, ts, rfl, _⟩ := h
    rfl
  · obtain ⟨d, c, dl, tl, n, m, ws, ts, rfl, hp, hn, hdl, ndl, hws, htl, ntl, ht0, ht1, hm0, hm1, k⟩ := h
    have hr1 : Room 1 _ := hr.mono (by decide)
    have hin : ∀ (s' : Shared) (H' : Hp) (C' : Addr) (cl' : List (Str × Addr)) (fp' : List Addr), PE (Cx.blk (cxOf CX0 P w K mg base nPlain "_law_plain" (defScope sPlain) f cdv A outer s H E).nox s' H' scO (compEnvC scO cl' C' (cxOf CX0 P w K mg base nPlain "_law_plain" (defScope sPlain) f cdv A outer s H E).nox.env) fp')
        (eltOf (valOf (stOf sPlain 1))) (tLc (iList K (tVar 1)) (gName 8) tYes (tCall spDraw [] E0 (tCons (tVar 0) (tCons (tVar 4) tNil))) [8]) := fun s' H' C' cl' fp' =>
      pe_lc (own := [("_law_deed", 8)]) (g := gName 8) (by rfl) scPlain.nd (pi_list (pv 1))
          (blkOk_by (own := [("_law_deed", 8)]) (N := nPlain) (sc := relS scO (defScope sPlain)) (by decide +kernel)) (fun _ _ _ _ _ => pg_name (i := 8) scPlain.nd rfl (Or.inl rfl)) (fun _ _ _ _ _ => pts_nil)
          (fun _ _ _ _ _ => pe_call GD hr1 rfl DD.g DD.F.kp DD.b .nil pass0 (pa_cons (pv 0) (pa_cons (pv 4) pa_nil)))
    refine ⟨_, pss_cons (ps_set (i := 4) scPlain.nd rfl (Or.inr rfl) (pe_op op_add pe_int (pe_call GD hr1 rfl DD.g DD.F.kp DD.b .nil pass0 (pa_cons (pv 0) (pa_cons (pv 2) pa_nil)))))
      (pss_cons (ps_setLc (i := 5) (own := [("_law_spot", 7)]) (g := gName 7) (by rfl) scPlain.nd rfl rfl (sw_true rfl rfl rfl (by decide +kernel))
        (pi_range1 rfl T.range (pa_cons (pv 4) pa_nil))
        (blkOk_by (own := [("_law_spot", 7)]) (N := nPlain) (sc := defScope sPlain) (by decide +kernel)) (fun _ _ _ _ _ => pg_name (i := 7) scPlain.nd rfl (Or.inl rfl)) (fun _ _ _ _ _ => pts_nil)
        hin)
      (pss_cons (ps_setLc (i := 6) (own := [("_law_spot", 7)]) (g := gName 7) (by rfl) scPlain.nd rfl rfl (sw_true rfl rfl rfl (by decide +kernel))
        (pi_range1 rfl T.range (pa_cons (pv 4) pa_nil))
        (blkOk_by (own := [("_law_spot", 7)]) (N := nPlain) (sc := defScope sPlain) (by decide +kernel)) (fun _ _ _ _ _ => pg_name (i := 7) scPlain.nd rfl (Or.inl rfl)) (fun _ _ _ _ _ => pts_nil)
        (fun _ _ _ _ _ => pe_call GL hr rfl DP.g DP.F.kp DP.b .nil pass0 (pa_cons (pv 0) (pa_cons (pv 3) pa_nil))))
      (pss_one (ps_ret (pe_disp (pps_cons pe_str (pe_callTy (r := rTuF K) call_tuple_F (by rfl) T.tuple (by decide +kernel) (pa_cons (pv 1) pa_nil))
        (pps_cons pe_str (pv 5) (pps_cons pe_str (pv 6) (pps_cons pe_str (pe_call GD hr1 rfl DD.g DD.F.kp DD.b .nil pass0 (pa_cons (pv 0) (pa_cons (pv 4) pa_nil))) pps_nil)))) (by rfl) (by rfl) (fun z => by cases z) (by decide)))))), ?_⟩
    refine ⟨_, rfl, _, rfl, d, c, n, m, rfl, hp, by omega, by omega, by omega, fun r H1 r0 r1 hp1 kp1 => ⟨_, _, rfl, rfl, ?_⟩⟩
    obtain ⟨M, eM⟩ : ∃ M : Nat, 1 + r = (M : Int) := ⟨(1 + r).toNat, by omega⟩
    show _
    have hM : 1 ≤ M ∧ M ≤ 12 := by omega
    simp only [eM]
    refine ⟨_, rfl, (M : Int), rfl, by omega, by omega, fun D1 hD1 => ?_⟩
    rw [Int.toNat_natCast]
    have zD1 : H D1 = none := kp1.free hp1 hD1
    obtain ⟨n1d, n1c⟩ := hp.ne zD1
    refine lc_range (lo := 0) (n := M) (fun i H' => ∃ (as : List Addr) (rs : List (List Int)), rs.length = i ∧ H' D1 = some (.lst (as.map V.ref)) ∧ RowsAt H' as rs ∧ (∀ r ∈ rs, r.length = ws.length ∧ ∀ x ∈ r, 0 ≤ x ∧ x < (M : Int)) ∧
      (∀ a ∈ as, H a = none ∧ a ≠ D1) ∧ PenAt H' d c (n + 1 + 27 * i) ∧ Kept d H H') ?_ ?_ ?_
    · exact ⟨[], [], rfl, upd_same, ⟨rfl, fun i a r e => by simp at e⟩, by simp, by simp, hp1.upd n1d n1c, kp1.upd zD1⟩
    · rintro i H2 hi ⟨as, rs, hrs, hD, hR, hrow, has, hp2, kp2⟩
      refine ⟨rfl, _, rfl, dl, rfl, ⟨_, kp2.seq ndl hdl⟩, fun D2 hD2 => ?_⟩
      have zD2 : H D2 = none := kp2.free hp2 hD2
      obtain ⟨n2d, n2c⟩ := hp.ne zD2
      have n12 : D1 ≠ D2 := ne_of_none hD hD2
      refine lc_list (K := K) (a := dl) (xs := ws.map V.str) (fun j H' => ∃ r : List Int, r.length = j ∧ (∀ x ∈ r, 0 ≤ x ∧ x < (M : Int)) ∧ H' D2 = some (.lst (r.map V.int)) ∧ PenAt H' d c (n + 1 + 27 * i + j) ∧ Kept d H2 H' ∧ Kept d H H') ?_ ?_ ?_ ?_
      · exact ⟨[], rfl, by simp, upd_same, hp2.upd n2d n2c, (Kept.refl d H2).upd hD2, kp2.upd zD2⟩
      · rintro j H3 hj ⟨r, _, _, _, _, _, kp3⟩
        exact kp3.seq ndl hdl
      · rintro j x H3 hj ⟨r, hrj, hrb, hD3, hp3, kp3, kq3⟩
        have hj2 : j < ws.length := by
          have := (List.getElem?_eq_some_iff.mp hj).1
          rwa [List.length_map] at this
        refine ⟨rfl, _, rfl, _, rfl, d, c, _, (M : Int), rfl, hp3, by omega, by omega, by omega, fun y H4 y0 y1 hp4 kp4 => ?_⟩
        refine ⟨_, kp4 _ _ hD3 n2d, ?_, r ++ [y], by simp [hrj], ?_, ?_, ?_, ?_, ?_⟩
        · rw [List.length_map]; exact small1000 (by omega)
        · intro z hz
          rcases List.mem_append.mp hz with h | h
          · exact hrb z h
          · rw [List.mem_singleton.mp h]; exact ⟨y0, y1⟩
        · rw [upd_same]; simp
        · exact hp4.upd n2d n2c
        · exact (kp3.trans kp4).upd hD2
        · exact (kq3.trans kp4).upd zD2
      · rintro H3 ⟨r, hrj, hrb, hD3, hp3, kp3, kq3⟩
        rw [List.length_map] at hrj hp3
        have hDD := kp3 _ _ hD n1d
        have hR3 := hR.kept kp3 (fun a ha => (hp.ne (has a ha).1).1)
        refine ⟨_, hDD, ?_, as ++ [D2], rs ++ [r], by simp [hrs], ?_, ?_, ?_, ?_, ?_, ?_⟩
        · rw [List.length_map, hR.1]; exact small1000 (by omega)
        · rw [upd_same]; simp
        · have hq : RowsAt H3 (as ++ [D2]) (rs ++ [r]) := hR3.snoc hD3
          refine ⟨hq.1, fun i a q e1 e2 => ?_⟩
          have hm := List.mem_of_getElem? e1
          have : a ≠ D1 := by
            rcases List.mem_append.mp hm with h | h
            · exact (has a h).2
            · rw [List.mem_singleton.mp h]; exact n12.symm
          rw [upd_ne this]
          exact hq.2 i a q e1 e2
        · intro q hq
          rcases List.mem_append.mp hq with h | h
          · exact hrow q h
          · rw [List.mem_singleton.mp h]; exact ⟨hrj, hrb⟩
        · intro a ha
          rcases List.mem_append.mp ha with h | h
          · exact has a h
          · rw [List.mem_singleton.mp h]; exact ⟨zD2, n12.symm⟩
        · exact (hp3.upd n1d n1c).mono (by omega)
        · exact kq3.upd zD1
    · rintro H5 ⟨as, rs, hrs, hD5, hR5, hrow, has, hp5, kp5⟩
      -- told
      refine ⟨_, rfl, (M : Int), rfl, by omega, by omega, fun D3 hD3 => ?_⟩
      rw [Int.toNat_natCast]
      have zD3 : H D3 = none := kp5.free hp5 hD3
      obtain ⟨n3d, n3c⟩ := hp.ne zD3
      refine lc_range (lo := 0) (n := M) (fun i H' => ∃ ss : List Str, ss.length = i ∧ (∀ z ∈ ss, z ∈ ts) ∧ H' D3 = some (.lst (ss.map V.str)) ∧ PenAt H' d c (n + 340 + i) ∧ Kept d H5 H' ∧ Kept d H H') ?_ ?_ ?_
      · exact ⟨[], rfl, by simp, upd_same, (hp5.upd n3d n3c).mono (by omega), (Kept.refl d H5).upd hD3, kp5.upd zD3⟩
      · rintro i H6 hi ⟨ss, hss, hst, hD6, hp6, kp6, kq6⟩
        refine ⟨rfl, _, rfl, _, rfl, d, c, tl, _, ts.map V.str, rfl, hp6, by omega, ntl, kq6.seq ntl htl, by rw [List.length_map]; exact ht0, by rw [List.length_map]; omega, fun x H7 hx hp7 kp7 => ?_⟩
        obtain ⟨z, hz, rfl⟩ := List.mem_map.mp hx
        refine ⟨_, kp7 _ _ hD6 n3d, ?_, ss ++ [z], by simp [hss], ?_, ?_, ?_, ?_, ?_⟩
        · rw [List.length_map]; exact small1000 (by omega)
        · intro y hy
          rcases List.mem_append.mp hy with h | h
          · exact hst y h
          · rw [List.mem_singleton.mp h]; exact hz
        · rw [upd_same]; simp
        · exact hp7.upd n3d n3c
        · exact (kp6.trans kp7).upd hD3
        · exact (kq6.trans kp7).upd zD3
      · rintro H7 ⟨ss, hss, hst, hD7, hp7, kp7, kq7⟩
        intro p hp'
        have zp : H p = none := kq7.free hp7 hp'
        have kq8 : Kept d H (upd H7 p (.dK [])) := kq7.upd zp
        obtain ⟨npd, npc⟩ := hp.ne zp
        refine ⟨_, rfl, dl, _, rfl, .inl ⟨kq8.seq ndl hdl, fun t ob ht hob => ?_⟩⟩
        have zt : H t = none := by
          refine kq8.free (hp7.upd npd npc) ht
        obtain ⟨ntd, ntc⟩ := hp.ne zt
        have npt : p ≠ t := by intro z; rw [← z, upd_same] at ht; cases ht
        refine ⟨_, rfl, _, rfl, _, rfl, _, rfl, d, c, _, (M : Int), rfl, (hp7.upd npd npc).upd ntd ntc, by omega, by omega, by omega, fun st H9 s0 s1 hp9 kp9 => ?_⟩
        have zt7 : H7 t = none := by rw [upd_ne npt.symm] at ht; exact ht
        have sm : Same H7 (upd (upd H7 p (.dK [])) t (.frz ob (.tup (ws.map V.str)))) := fun b o e => by
          rw [upd_ne (ne_of_none e zt7), upd_ne (ne_of_none e hp')]; exact e
        have k79 : Kept d H7 H9 := (Kept.same sm).trans kp9
        have hp9' : H9 p = some (.dK []) := kp9 _ _ (by rw [upd_ne npt, upd_same]) npd
        have ht9 : H9 t = some (.frz ob (.tup (ws.map V.str))) := kp9 _ _ upd_same ntd
        have hD79 := k79 _ _ hD7 n3d
        have k59 : Kept d H5 H9 := kp7.trans k79
        have hD59 := k59 _ _ hD5 n1d
        have hR9 := hR5.kept k59 (fun a ha => (hp.ne (has a ha).1).1)
        refine ⟨hp9', plainK t D1 D3 st, rfl, by show 4 ≤ 15; decide, ?_⟩
        rw [plainK_merge]
        have kq9 : Kept d H H9 := kq7.trans k79
        have n1p : D1 ≠ p := ne_of hD59 hp9' (by intro z; cases z)
        have n3p : D3 ≠ p := ne_of hD79 hp9' (by intro z; cases z)
        refine k p rs ss st _ zp ⟨t, D1, D3, as, upd_same, ?_, ?_, ?_, hR9.1, fun i a q e1 e2 => ?_⟩ ⟨by rw [hrs]; exact hM, fun r hr => by rw [hrs]; exact hrow r hr, ⟨by rw [hss, hrs], hst⟩, by rw [hrs]; exact ⟨s0, s1⟩⟩ (by rw [hrs]; omega) ((hp9.upd npd npc).mono (by omega)) (kq9.upd zp)
        · exact ⟨ob, by rw [upd_ne npt.symm]; exact ht9, hob⟩
        · rw [upd_ne n1p]; exact hD59
        · rw [upd_ne n3p]; exact hD79
        · have := hR9.2 i a q e1 e2
          rw [upd_ne (ne_of this hp9' (by intro z; cases z))]
          exact this
end
end K1
set_option Elab.async false
set_option linter.all false
set_option maxRecDepth 100000
namespace K1
open PySem L2
abbrev sIsInt : Stmt := top 27
abbrev sIsIndex : Stmt := top 28
abbrev sIsWord : Stmt := top 29
abbrev sIsTell : Stmt := top 30
/-- the names of the built-ins, and the constants -/
structure Bt2 (mg : Str → Option Value) : Prop extends Bt mg where
  isinstance : mg "isinstance" = none
  bool : mg "bool" = none
  str : mg "str" = none
  all : mg "all" = none
  enumerate : mg "enumerate" = none
  min : mg "min" = none
  LETTERS : ∃ t, mg "LETTERS" = some (.str zLE t)
  DIGITS : ∃ t, mg "DIGITS" = some (.str zDG t)
  LONGEST_WORD : ∃ t, mg "LONGEST_WORD" = some (.int 12 t)
  LONGEST_TELL : ∃ t, mg "LONGEST_TELL" = some (.int 60 t)
  MOST_DEEDS : ∃ t, mg "MOST_DEEDS" = some (.int 6 t)
  MOST_STATES : ∃ t, mg "MOST_STATES" = some (.int 60 t)
def spIsInt : Sp := fun vs H Q _ => ∃ i : Int, vs = [.int i] ∧ Q (.bl true) H
def spIsIndex : Sp := fun vs H Q _ => ∃ i m : Int, vs = [.int i, .int m] ∧ 0 ≤ i ∧ i < m ∧ Q (.bl true) H
def spIsWord : Sp := fun vs H Q _ => ∃ z : Str, vs = [.str z] ∧ Wd z ∧ ∀ H', Same H H' → Q (.bl true) H'
abbrev zSL : Str := "/"
def TL' : List Nat := AL ++ zSL.cps.toList
def Tl (z : Str) : Prop := 1 ≤ z.cps.toList.length ∧ z.cps.toList.length ≤ 60 ∧ ∀ x ∈ z.cps.toList, x ∈ TL'
def spIsTell : Sp := fun vs H Q _ => ∃ z : Str, vs = [.str z] ∧ Tl z ∧ ∀ H', Same H H' → Q (.bl true) H'
section
variable {P : Program} {w : World} {K : PySem.W.Frag} {mg : Str → Option Value} {base : Heap}
theorem scIsInt : FnScope ["value"] ["value"] (defScope sIsInt) := ⟨rfl, rfl, rfl, by decide +kernel, rfl, by decide +kernel, by decide +kernel⟩
theorem ok_isint {f : Addr} {fd : FuncData} (D : Df K mg "is_integer" sIsInt ["value"] f fd) (T : Bt2 mg) : FnOk P w K mg base CX0 1 f fd ["value"] spIsInt := by
  refine D.F.ok scIsInt (fun vs H Q E h => ?_) (fun cdv A outer s H vs Q E hr h => ?_)
  · obtain ⟨i, rfl, _⟩ := h
    rfl
  · obtain ⟨i, rfl, k⟩ := h
    refine ⟨_, pss_one (ps_ret (pe_and (pe_callB call_isi (by rfl) T.isinstance PyProof.Rows.boot_isinstance (pa_cons (pv 0) (pa_cons (pe_bltn (v := .ty "int") (by rfl) T.int PyProof.Rows.boot_int rfl) pa_nil)))
      (pe_one (pe_not (pe_callB call_isi (by rfl) T.isinstance PyProof.Rows.boot_isinstance (pa_cons (pv 0) (pa_cons (pe_bltn (v := .ty "bool") (by rfl) T.bool PyProof.Rows.boot_bool rfl) pa_nil))))))), ?_⟩
    refine ⟨_, rfl, _, _, _, _, true, rfl, .ty "int", .base (.int i), kit_ty (by decide +kernel), true, rfl, ?_⟩
    refine ⟨_, rfl, _, _, _, _, false, rfl, .ty "bool", .base (.int i), kit_ty (by decide +kernel), false, rfl, k⟩
theorem scIsIndex : FnScope ["value", "many"] ["value", "many"] (defScope sIsIndex) := ⟨rfl, rfl, rfl, by decide +kernel, rfl, by decide +kernel, by decide +kernel⟩
theorem ok_isindex {f fI : Addr} {fd fdI : FuncData} (D : Df K mg "is_index" sIsIndex ["value", "many"] f fd) (DI : Df K mg "is_integer" sIsInt ["value"] fI fdI) (T : Bt2 mg) : FnOk P w K mg base CX0 2 f fd ["value", "many"] spIsIndex := by
  have GI : FnOk P w K mg base CX0 1 fI fdI ["value"] spIsInt := ok_isint DI T
  refine D.F.ok scIsIndex (fun vs H Q E h => ?_) (fun cdv A outer s H vs Q E hr h => ?_)
  · obtain ⟨i, m, rfl, _⟩ := h
    rfl
  · obtain ⟨i, m, rfl, h0, h1, k⟩ := h
    refine ⟨_, pss_one (ps_ret (pe_and (pe_call GI hr rfl DI.g DI.F.kp DI.b .nil pass0 (pa_cons (pv 0) pa_nil)) (pe_one (pe_chain op_le op_lt pe_int (pv 0) (pv 1))))), ?_⟩
    refine ⟨_, rfl, i, rfl, true, rfl, ?_⟩
    refine ⟨_, rfl, _, _, rfl, rfl, _, rfl, ?_⟩
    rw [decide_eq_true h0]
    refine iteT ?_
    refine ⟨_, rfl, _, _, rfl, rfl, ?_⟩
    show Q (V.bl (decide (i < m))) H
    rw [decide_eq_true h1]
    exact k
theorem scIsWord : FnScope ["value", "sign"] ["value"] (defScope sIsWord) := ⟨rfl, rfl, rfl, by decide +kernel, rfl, by decide +kernel, by decide +kernel⟩
theorem ok_isword {f : Addr} {fd : FuncData} (D : Df K mg "is_word" sIsWord ["value"] f fd) (T : Bt2 mg) : FnOk P w K mg base CX0 1 f fd ["value"] spIsWord := by
  refine D.F.ok scIsWord (fun vs H Q E h => ?_) (fun cdv A outer s H vs Q E hr h => ?_)
  · obtain ⟨z, rfl, _⟩ := h
    rfl
  · obtain ⟨z, rfl, hz, k⟩ := h
    obtain ⟨tL, gL⟩ := T.LETTERS
    obtain ⟨tD, gD⟩ := T.DIGITS
    obtain ⟨tW, gW⟩ := T.LONGEST_WORD
    obtain ⟨c, r, ez, hc, hr', hl⟩ := id hz
    refine ⟨_, pss_cons (ps_if (PW.pt (pw_or (pt_not (pt_val (pe_callB call_isi (by rfl) T.isinstance PyProof.Rows.boot_isinstance (pa_cons (pv 0) (pa_cons (pe_bltn (v := .ty "str") (by rfl) T.str PyProof.Rows.boot_str rfl) pa_nil)))))
          (pw_or1 (pt_not (pt_chain op_le op_le pe_int (pe_callB call_len_str (by rfl) T.len PySem.boot_len (pa_cons (pv 0) pa_nil)) (pe_glob (v := .int 12) rfl gW ⟨_, rfl⟩))))))
        pss_never pss_nil)
      (pss_one (ps_ret (pe_and (pe_cmpR op_in_sign (pe_ix ix_str (pv 0) pe_int (fun _ _ => rfl)) (pe_glob (v := .str zLE) rfl gL ⟨_, rfl⟩) rfl)
        (pe_one (pe_callB (cr_all rfl) (by rfl) T.all PyProof.Rows.boot_all (pa_cons (pe_lc (own := [("sign", 1)]) (g := gName 1) (by rfl) scIsWord.nd (pi_str (pv 0))
          (blkOk_by (own := [("sign", 1)]) (N := ["value", "sign"]) (sc := defScope sIsWord) (by decide +kernel)) (fun _ _ _ _ _ => pg_name (i := 1) scIsWord.nd rfl (Or.inl rfl)) (fun _ _ _ _ _ => pts_nil)
          (fun _ _ _ _ _ => pe_cmpR op_in_sign (pv 1) (pe_op op_add_str (pe_glob (v := .str zLE) rfl gL ⟨_, rfl⟩) (pe_glob (v := .str zDG) rfl gD ⟨_, rfl⟩)) rfl)) pa_nil)))))), ?_⟩
    have lz : z.length = r.length + 1 := by rw [len_tl, ez]; rfl
    have hzl : z.length ≤ sizeLine := Nat.le_trans (by omega : z.length ≤ 100) (by decide)
    refine ⟨_, rfl, _, _, _, _, true, rfl, .ty "str", .base (.str z), kit_ty (by decide +kernel), true, rfl, ?_⟩
    refine iteF ?_
    refine ⟨_, rfl, _, rfl, hzl, _, _, rfl, rfl, _, rfl, ?_⟩
    refine ite2 (fun _ => ?_) (fun h => absurd (decide_eq_true (by show (1 : Int) ≤ (z.length : Int); omega)) h)
    refine ⟨_, _, rfl, rfl, _, rfl, ?_⟩
    have e12 : decide ((z.length : Int) ≤ 12) = true := decide_eq_true (by omega)
    show (if (!decide ((z.length : Int) ≤ 12)) = true then _ else _)
    rw [e12]
    refine iteF ?_
    refine ⟨_, rfl, z, _, c, rfl, rfl, hzl, ?_, c, zLE, rfl, rfl, true, ?_, ?_⟩
    · rw [ez]; exact atI_nat (j := 0) rfl
    · rw [decide_eq_true (show c ∈ zLE.cps.toList from hc)]
    refine iteT ?_
    refine ⟨_, rfl, z, rfl, fun D hD => ?_⟩
    have hall : ∀ x ∈ z.cps.toList, x ∈ AL := fun x hx => by
      rw [ez] at hx
      rcases List.mem_cons.mp hx with rfl | h
      · exact LE_AL hc
      · exact hr' x h
    have hsz : z.cps.size = z.cps.toList.length := by simp
    have hsz7 : z.cps.toList.length ≤ 7 := by rw [ez]; simp; exact hl
    refine lc_it (walk_str (z := z)) (fun i H' => Same H H' ∧ H' D = some (.lst ((List.replicate i true).map V.bl))) ?_ ?_ ?_ ?_
    · exact ⟨same_upd hD, upd_same⟩
    · exact fun _ _ _ _ => trivial
    · rintro i x H1 H2 hi ⟨sm, hD1⟩ ⟨rfl, c', hc', rfl⟩
      have hm : c' ∈ z.cps.toList := by
        have : z.cps.toList[i]? = some c' := by simpa using hc'
        exact List.mem_of_getElem? this
      refine ⟨rfl, _, rfl, _, _, rfl, rfl, by decide +kernel, c', zLE ++ zDG, rfl, rfl, _, hD1, ?_, ?_, ?_⟩
      · simp; exact small1000 (by omega)
      · exact fun b o e => by rw [upd_ne (ne_of_none e hD)]; exact sm b o e
      · rw [upd_same, decide_eq_true (show c' ∈ (zLE ++ zDG).cps.toList by rw [← AL_eq]; exact hall c' hm), List.replicate_succ']
        simp
    · rintro H1 ⟨sm, hD1⟩
      refine ⟨D, _, rfl, SqL.of hD1, ?_⟩
      have e : (List.replicate z.cps.size true).all id = true := by simp
      rw [e]
      exact k H1 sm
end
end K1
set_option Elab.async false
set_option linter.all false
set_option maxRecDepth 100000
namespace K1
open PySem L2
abbrev sCheckDiff : Stmt := top 31
abbrev sCheckGroup : Stmt := top 32
abbrev sCheckDeeds : Stmt := top 33
abbrev sCheckRows : Stmt := top 36
abbrev sCheckTells : Stmt := top 37
theorem TL_eq : TL' = (zLE ++ zDG ++ zSL).cps.toList := by decide +kernel
theorem cut_to {xs : List V} {i : Nat} (h : i ≤ xs.length) : cutV xs none (some (i : Int)) = xs.take i := by
  unfold cutV
  rw [HT.sIx_none, HT.sIx_nat, Nat.min_eq_left h]
  simp
theorem inV_str {ws : List Str} {z : Str} (h : z ∉ ws) : inV (.str z) (ws.map V.str) = false := by
  unfold inV
  rw [List.any_map, List.any_eq_false]
  intro y hy
  show ¬ ((y == z) = true)
  intro e
  rw [beq_iff_eq] at e
  exact h (e ▸ hy)
theorem nodup_take {ws : List Str} {i : Nat} {z : Str} (nd : ws.Nodup) (e : ws[i]? = some z) : z ∉ ws.take i := by
  intro hm
  obtain ⟨j, hj, ej⟩ := List.getElem_of_mem hm
  rw [List.getElem_take] at ej
  have hji : j < i := by simp at hj; omega
  have hi : i < ws.length := (List.getElem?_eq_some_iff.mp e).1
  have ei : ws[i] = z := (List.getElem?_eq_some_iff.mp e).2
  exact List.pairwise_iff_getElem.mp nd j i (by omega) hi hji (ej.trans ei.symm)
theorem flat_strs (ws : List Str) : (ws.map V.str).all flatV = true := by simp [flatV]
/-- a list or a tuple of words -/
def Sq (K : PySem.W.Frag) (H : Hp) (a : Addr) (xs : List V) : Prop := SqL K H a xs ∨ SqT K H a xs
theorem Sq.same {K : PySem.W.Frag} {H H' : Hp} {a : Addr} {xs : List V} (h : Sq K H a xs) (s : Same H H') : Sq K H' a xs := by
  rcases h with h | h
  · exact .inl (s.seq h)
  · exact .inr (h.ext s)
structure GoodD (ws : List Str) : Prop where
  nd : ws.Nodup
  wd : ∀ z ∈ ws, Wd z
  len : 1 ≤ ws.length ∧ ws.length ≤ 6
def spDeeds (K : PySem.W.Frag) : Sp := fun vs H Q _ => ∃ (a : Addr) (ws : List Str), vs = [.ref a] ∧ Sq K H a (ws.map V.str) ∧ GoodD ws ∧ ∀ H', Same H H' → Q .non H'
section
variable {P : Program} {w : World} {K : PySem.W.Frag} {mg : Str → Option Value} {base : Heap}
theorem scIsTell : FnScope ["value", "sign"] ["value"] (defScope sIsTell) := ⟨rfl, rfl, rfl, by decide +kernel, rfl, by decide +kernel, by decide +kernel⟩
theorem ok_istell {f : Addr} {fd : FuncData} (D : Df K mg "is_tell" sIsTell ["value"] f fd) (T : Bt2 mg) : FnOk P w K mg base CX0 1 f fd ["value"] spIsTell := by
  refine D.F.ok scIsTell (fun vs H Q E h => ?_) (fun cdv A outer s H vs Q E hr h => ?_)
  · obtain ⟨z, rfl, _⟩ := h
    rfl
  · obtain ⟨z, rfl, ⟨hz0, hz1, hall⟩, k⟩ := h
    obtain ⟨tL, gL⟩ := T.LETTERS
    obtain ⟨tD, gD⟩ := T.DIGITS
    obtain ⟨tW, gW⟩ := T.LONGEST_TELL
    refine ⟨_, pss_cons (ps_if (PW.pt (pw_or (pt_not (pt_val (pe_callB call_isi (by rfl) T.isinstance PyProof.Rows.boot_isinstance (pa_cons (pv 0) (pa_cons (pe_bltn (v := .ty "str") (by rfl) T.str PyProof.Rows.boot_str rfl) pa_nil)))))
          (pw_or1 (pt_not (pt_chain op_le op_le pe_int (pe_callB call_len_str (by rfl) T.len PySem.boot_len (pa_cons (pv 0) pa_nil)) (pe_glob (v := .int 60) rfl gW ⟨_, rfl⟩))))))
        pss_never pss_nil)
      (pss_one (ps_ret (pe_callB (cr_all rfl) (by rfl) T.all PyProof.Rows.boot_all (pa_cons (pe_lc (own := [("sign", 1)]) (g := gName 1) (by rfl) scIsTell.nd (pi_str (pv 0))
          (blkOk_by (own := [("sign", 1)]) (N := ["value", "sign"]) (sc := defScope sIsTell) (by decide +kernel)) (fun _ _ _ _ _ => pg_name (i := 1) scIsTell.nd rfl (Or.inl rfl)) (fun _ _ _ _ _ => pts_nil)
          (fun _ _ _ _ _ => pe_cmpR op_in_sign (pv 1) (pe_op op_add_str (pe_op op_add_str (pe_glob (v := .str zLE) rfl gL ⟨_, rfl⟩) (pe_glob (v := .str zDG) rfl gD ⟨_, rfl⟩)) pe_str) rfl)) pa_nil)))), ?_⟩
    have lz : z.length = z.cps.toList.length := len_tl z
    have hzl : z.length ≤ sizeLine := Nat.le_trans (by omega : z.length ≤ 100) (by decide)
    refine ⟨_, rfl, _, _, _, _, true, rfl, .ty "str", .base (.str z), kit_ty (by decide +kernel), true, rfl, ?_⟩
    refine iteF ?_
    refine ⟨_, rfl, _, rfl, hzl, _, _, rfl, rfl, _, rfl, ?_⟩
    refine ite2 (fun _ => ?_) (fun h => absurd (decide_eq_true (by show (1 : Int) ≤ (z.length : Int); omega)) h)
    refine ⟨_, _, rfl, rfl, _, rfl, ?_⟩
    have e12 : decide ((z.length : Int) ≤ 60) = true := decide_eq_true (by omega)
    show (if (!decide ((z.length : Int) ≤ 60)) = true then _ else _)
    rw [e12]
    refine iteF ?_
    refine ⟨_, rfl, z, rfl, fun D hD => ?_⟩
    have hsz : z.cps.size = z.cps.toList.length := by simp
    refine lc_it (walk_str (z := z)) (fun i H' => Same H H' ∧ H' D = some (.lst ((List.replicate i true).map V.bl))) ?_ ?_ ?_ ?_
    · exact ⟨same_upd hD, upd_same⟩
    · exact fun _ _ _ _ => trivial
    · rintro i x H1 H2 hi ⟨sm, hD1⟩ ⟨rfl, c', hc', rfl⟩
      have hm : c' ∈ z.cps.toList := by
        have : z.cps.toList[i]? = some c' := by simpa using hc'
        exact List.mem_of_getElem? this
      refine ⟨rfl, _, rfl, _, _, rfl, rfl, by decide +kernel, _, _, rfl, rfl, by decide +kernel, c', zLE ++ zDG ++ zSL, rfl, rfl, _, hD1, ?_, ?_, ?_⟩
      · simp; exact small1000 (by omega)
      · exact fun b o e => by rw [upd_ne (ne_of_none e hD)]; exact sm b o e
      · rw [upd_same, decide_eq_true (show c' ∈ (zLE ++ zDG ++ zSL).cps.toList by rw [← TL_eq]; exact hall c' hm), List.replicate_succ']
        simp
    · rintro H1 ⟨sm, hD1⟩
      refine ⟨D, _, rfl, SqL.of hD1, ?_⟩
      have e : (List.replicate z.cps.size true).all id = true := by simp
      rw [e]
      exact k H1 sm
theorem scDiff : FnScope ["deeds", "index", "deed"] ["deeds"] (defScope sCheckDiff) := ⟨rfl, rfl, rfl, by decide +kernel, rfl, by decide +kernel, by decide +kernel⟩
theorem ok_diff {f fW : Addr} {fd fdW : FuncData} (D : Df K mg "check_different" sCheckDiff ["deeds"] f fd) (DW : Df K mg "is_word" sIsWord ["value"] fW fdW) (T : Bt2 mg) : FnOk P w K mg base CX0 2 f fd ["deeds"] (spDeeds K) := by
  have GW : FnOk P w K mg base CX0 1 fW fdW ["value"] spIsWord := ok_isword DW T
  refine D.F.ok scDiff (fun vs H Q E h => ?_) (fun cdv A outer s H vs Q E hr h => ?_)
  · obtain ⟨a, ws, rfl, _⟩ := h
    rfl
  · obtain ⟨a, ws, rfl, ha, gd, k⟩ := h
    have hle : ws.length ≤ 6 := gd.len.2
    rcases ha with ha | ha
    · refine ⟨_, pss_one (ps_for PassesOwn.never rfl (pi_enum (by rfl) T.enumerate (pa_cons (pv 0) pa_nil)) (pg_tup (by rfl) (pgs_cons (pg_name (i := 1) scDiff.nd rfl (Or.inl rfl)) (pgs_cons (pg_name (i := 2) scDiff.nd rfl (Or.inl rfl)) pgs_nil)))
          (pss_one (ps_if (PW.pt (pw_or (pt_not (pt_val (pe_call GW hr rfl DW.g DW.F.kp DW.b .nil pass0 (pa_cons (pv 2) pa_nil)))) (pw_or1 (pt_cmpR op_in_seq (pv 2) (pe_slice sl_list (pv 0) po_none (po_some (pv 1))) (by rfl))))) pss_never pss_nil))), ?_⟩
      refine ⟨_, rfl, a, _, rfl, ha, for_it (walk_enum (K := K) (a := a) (xs := ws.map V.str)) (fun i σ H' => Same H H' ∧ ∃ v1 v2, σ = [some (.ref a), v1, v2]) ⟨Same.refl H, none, none, rfl⟩ (fun i σ H' _ p => p.1.seq ha) ?_ ?_⟩
      · rintro i x σ H1 H2 hi ⟨sm, v1, v2, rfl⟩ ⟨t, x1, x2, rfl, ht, rfl, e1, e2⟩
        cases e1
        replace e2 : (ws.map V.str)[i]? = some x2 := e2
        rw [List.getElem?_map] at e2
        obtain ⟨z, hz, rfl⟩ := Option.map_eq_some_iff.mp e2
        have hzm := List.mem_of_getElem? hz
        have hil : i < ws.length := (List.getElem?_eq_some_iff.mp hz).1
        have sm2 := sm.trans (same_upd (o := .tup [V.int (i : Nat), V.str z]) ht)
        refine ⟨t, _, rfl, SqT.of upd_same, rfl, _, _, rfl, _, _, rfl, rfl, ?_⟩
        refine ⟨_, rfl, z, rfl, gd.wd z hzm, fun H3 sm3 => ⟨true, rfl, ?_⟩⟩
        refine iteF ?_
        have sm4 := sm2.trans sm3
        refine ⟨_, rfl, _, rfl, _, rfl, (i : Int), rfl, a, _, rfl, sm4.seq ha, fun q hq => ?_⟩
        rw [cut_to (by rw [List.length_map]; omega), ← List.map_take]
        refine ⟨q, _, rfl, .inl (SqL.of upd_same), rfl, flat_strs _, false, ?_, ?_⟩
        · show V.bl (if false = true then _ else inV (V.str z) ((ws.take i).map V.str)) = V.bl false
          rw [inV_str (nodup_take gd.nd hz)]
          rfl
        · refine iteF ?_
          exact ⟨sm4.trans (same_upd hq), _, _, rfl⟩
      · rintro σ H1 ⟨sm, v1, v2, rfl⟩
        exact k H1 sm
    · refine ⟨_, pss_one (ps_for PassesOwn.never rfl (pi_enumT (by rfl) T.enumerate (pa_cons (pv 0) pa_nil)) (pg_tup (by rfl) (pgs_cons (pg_name (i := 1) scDiff.nd rfl (Or.inl rfl)) (pgs_cons (pg_name (i := 2) scDiff.nd rfl (Or.inl rfl)) pgs_nil)))
          (pss_one (ps_if (PW.pt (pw_or (pt_not (pt_val (pe_call GW hr rfl DW.g DW.F.kp DW.b .nil pass0 (pa_cons (pv 2) pa_nil)))) (pw_or1 (pt_cmpR op_in_seq (pv 2) (pe_slice sl_tupA (pv 0) po_none (po_some (pv 1))) (by rfl))))) pss_never pss_nil))), ?_⟩
      refine ⟨_, rfl, a, _, rfl, ha, for_it (walk_enumT (K := K) (a := a) (xs := ws.map V.str)) (fun i σ H' => Same H H' ∧ ∃ v1 v2, σ = [some (.ref a), v1, v2]) ⟨Same.refl H, none, none, rfl⟩ (fun i σ H' _ p => ha.ext p.1) ?_ ?_⟩
      · rintro i x σ H1 H2 hi ⟨sm, v1, v2, rfl⟩ ⟨t, x1, x2, rfl, ht, rfl, e1, e2⟩
        cases e1
        replace e2 : (ws.map V.str)[i]? = some x2 := e2
        rw [List.getElem?_map] at e2
        obtain ⟨z, hz, rfl⟩ := Option.map_eq_some_iff.mp e2
        have hzm := List.mem_of_getElem? hz
        have hil : i < ws.length := (List.getElem?_eq_some_iff.mp hz).1
        have sm2 := sm.trans (same_upd (o := .tup [V.int (i : Nat), V.str z]) ht)
        refine ⟨t, _, rfl, SqT.of upd_same, rfl, _, _, rfl, _, _, rfl, rfl, ?_⟩
        refine ⟨_, rfl, z, rfl, gd.wd z hzm, fun H3 sm3 => ⟨true, rfl, ?_⟩⟩
        refine iteF ?_
        have sm4 := sm2.trans sm3
        have eh : HT.sIx (ws.map V.str).length (ws.map V.str).length (some (i : Int)) = i := by rw [HT.sIx_nat, List.length_map]; omega
        refine ⟨_, rfl, _, rfl, _, rfl, (i : Int), rfl, a, _, rfl, ha.ext sm4, fun h => absurd h.2 (by rw [eh, List.length_map]; omega), fun _ q hq => ?_⟩
        rw [cut_to (by rw [List.length_map]; omega), ← List.map_take]
        refine ⟨q, _, rfl, .inr (SqT.of upd_same), rfl, flat_strs _, false, ?_, ?_⟩
        · show V.bl (if false = true then _ else inV (V.str z) ((ws.take i).map V.str)) = V.bl false
          rw [inV_str (nodup_take gd.nd hz)]
          rfl
        · refine iteF ?_
          exact ⟨sm4.trans (same_upd hq), _, _, rfl⟩
      · rintro σ H1 ⟨sm, v1, v2, rfl⟩
        exact k H1 sm
theorem Sq.len {K : PySem.W.Frag} {H : Hp} {a : Addr} {xs : List V} (h : Sq K H a xs) : LenV K (.ref a) H xs.length := by
  rcases h with h | h
  · exact .inl ⟨_, h, rfl⟩
  · exact .inr ⟨_, h, rfl⟩
theorem scGroup : FnScope ["deeds"] ["deeds"] (defScope sCheckGroup) := ⟨rfl, rfl, rfl, by decide +kernel, rfl, by decide +kernel, by decide +kernel⟩
theorem ok_group {f fC fW : Addr} {fd fdC fdW : FuncData} (D : Df K mg "check_group" sCheckGroup ["deeds"] f fd) (DC : Df K mg "check_different" sCheckDiff ["deeds"] fC fdC) (DW : Df K mg "is_word" sIsWord ["value"] fW fdW) (T : Bt2 mg) : FnOk P w K mg base CX0 3 f fd ["deeds"] (spDeeds K) := by
  have GC : FnOk P w K mg base CX0 2 fC fdC ["deeds"] (spDeeds K) := ok_diff DC DW T
  refine D.F.ok scGroup (fun vs H Q E h => ?_) (fun cdv A outer s H vs Q E hr h => ?_)
  · obtain ⟨a, ws, rfl, _⟩ := h
    rfl
  · obtain ⟨a, ws, rfl, ha, gd, k⟩ := h
    refine ⟨_, pss_cons (ps_expr (pe_call GC hr rfl DC.g DC.F.kp DC.b .nil pass0 (pa_cons (pv 0) pa_nil)))
      (pss_one (ps_if (pt_cmpR op_eq (pe_callB call_len (by rfl) T.len PySem.boot_len (pa_cons (pv 0) pa_nil)) pe_int (nomark _)) pss_never pss_nil)), ?_⟩
    refine ⟨_, rfl, a, ws, rfl, ha, gd, fun H1 sm => ?_⟩
    refine ⟨_, rfl, _, _, rfl, (ha.same sm).len, rfl, _, rfl, ?_⟩
    refine ite2 (fun h => ?_) (fun _ => k H1 sm)
    have := of_decide_eq_true h
    injection this with this
    have := gd.len.1
    rw [List.length_map] at *
    omega
theorem scDeeds : FnScope ["deeds"] ["deeds"] (defScope sCheckDeeds) := ⟨rfl, rfl, rfl, by decide +kernel, rfl, by decide +kernel, by decide +kernel⟩
theorem ok_deeds {f fG fC fW : Addr} {fd fdG fdC fdW : FuncData} (D : Df K mg "check_deeds" sCheckDeeds ["deeds"] f fd) (DG : Df K mg "check_group" sCheckGroup ["deeds"] fG fdG) (DC : Df K mg "check_different" sCheckDiff ["deeds"] fC fdC) (DW : Df K mg "is_word" sIsWord ["value"] fW fdW) (T : Bt2 mg) : FnOk P w K mg base CX0 4 f fd ["deeds"] (spDeeds K) := by
  have GC : FnOk P w K mg base CX0 3 fG fdG ["deeds"] (spDeeds K) := ok_group DG DC DW T
  refine D.F.ok scDeeds (fun vs H Q E h => ?_) (fun cdv A outer s H vs Q E hr h => ?_)
  · obtain ⟨a, ws, rfl, _⟩ := h
    rfl
  · obtain ⟨a, ws, rfl, ha, gd, k⟩ := h
    have hle : ws.length ≤ 6 := gd.len.2
    obtain ⟨tM, gM⟩ := T.MOST_DEEDS
    refine ⟨_, pss_cons (ps_expr (pe_call GC hr rfl DG.g DG.F.kp DG.b .nil pass0 (pa_cons (pv 0) pa_nil)))
      (pss_one (ps_if (pt_cmpR op_gt (pe_callB call_len (by rfl) T.len PySem.boot_len (pa_cons (pv 0) pa_nil)) (pe_glob (v := .int 6) rfl gM ⟨_, rfl⟩) (nomark _)) pss_never pss_nil)), ?_⟩
    refine ⟨_, rfl, a, ws, rfl, ha, gd, fun H1 sm => ?_⟩
    refine ⟨_, rfl, _, _, rfl, (ha.same sm).len, _, _, rfl, rfl, _, rfl, ?_⟩
    refine ite2 (fun h => ?_) (fun _ => k H1 sm)
    have := of_decide_eq_true h
    rw [List.length_map] at this
    exact absurd this (by omega)
end
end K1
set_option Elab.async false
set_option linter.all false
set_option maxRecDepth 100000
namespace K1
open PySem L2
theorem kit_list {K : PySem.W.Frag} : PySem.W.kitAny K (.type "list") [.type "list", .type "tuple"] = some true := by
  simp [PySem.W.kitAny, PySem.W.kitOne]
def spRows (K : PySem.W.Frag) : Sp := fun vs H Q _ => ∃ (b : Addr) (m : Nat) (as : List Addr) (rs : List (List Int)), vs = [.ref b, .int (m : Int)] ∧ SqL K H b (as.map V.ref) ∧ RowsAt H as rs ∧ 1 ≤ rs.length ∧ rs.length ≤ 60 ∧ m ≤ 100 ∧
  (∀ r ∈ rs, r.length = m ∧ ∀ x ∈ r, 0 ≤ x ∧ x < (rs.length : Int)) ∧ ∀ H', Same H H' → Q .non H'
def spTells (K : PySem.W.Frag) : Sp := fun vs H Q _ => ∃ (b : Addr) (ss : List Str), vs = [.ref b, .int (ss.length : Int)] ∧ SqL K H b (ss.map V.str) ∧ (∀ z ∈ ss, Tl z) ∧ ss.length ≤ 100 ∧ ∀ H', Same H H' → Q .non H'
theorem RowsAt.same {H H' : Hp} {as : List Addr} {rs : List (List Int)} (h : RowsAt H as rs) (s : Same H H') : RowsAt H' as rs := ⟨h.1, fun i a r e1 e2 => s _ _ (h.2 i a r e1 e2)⟩
def rLn (K : PySem.W.Frag) : List V → Hp → VK → Prop := fun xs H Q => ∃ x n, xs = [x] ∧ LenV K x H n ∧ Q (.int n) H
section
variable {P : Program} {w : World} {K : PySem.W.Frag} {mg : Str → Option Value} {base : Heap}
abbrev nRows : List Str := ["rows", "many", "index", "row", "state"]
theorem scRows : FnScope nRows ["rows", "many"] (defScope sCheckRows) := ⟨rfl, rfl, rfl, by decide +kernel, rfl, by decide +kernel, by decide +kernel⟩
theorem ok_rows {f fX fI : Addr} {fd fdX fdI : FuncData} (D : Df K mg "check_rows" sCheckRows ["rows", "many"] f fd) (DX : Df K mg "is_index" sIsIndex ["value", "many"] fX fdX) (DI : Df K mg "is_integer" sIsInt ["value"] fI fdI) (T : Bt2 mg) : FnOk P w K mg base CX0 3 f fd ["rows", "many"] (spRows K) := by
  have GX : FnOk P w K mg base CX0 2 fX fdX ["value", "many"] spIsIndex := ok_isindex DX DI T
  refine D.F.ok scRows (fun vs H Q E h => ?_) (fun cdv A outer s H vs Q E hr h => ?_)
  · obtain ⟨b, m, as, rs, rfl, _⟩ := h
    rfl
  · obtain ⟨b, m, as, rs, rfl, hb, hR, h1, h60, hm, hrow, k⟩ := h
    obtain ⟨tM, gM⟩ := T.MOST_STATES
    have hlen : (as.map V.ref).length = rs.length := by rw [List.length_map, hR.1]
    refine ⟨_, pss_cons (ps_if (pt_cmpR op_eq (pe_callB call_len (by rfl) T.len PySem.boot_len (pa_cons (pv 0) pa_nil)) pe_int (nomark _)) pss_never pss_nil)
      (pss_cons (ps_if (pt_cmpR op_gt (pe_callB call_len (by rfl) T.len PySem.boot_len (pa_cons (pv 0) pa_nil)) (pe_glob (v := .int 60) rfl gM ⟨_, rfl⟩) (nomark _)) pss_never pss_nil)
      (pss_one (ps_for PassesOwn.never rfl (pi_enum (by rfl) T.enumerate (pa_cons (pv 0) pa_nil)) (pg_tup (by rfl) (pgs_cons (pg_name (i := 2) scRows.nd rfl (Or.inl rfl)) (pgs_cons (pg_name (i := 3) scRows.nd rfl (Or.inl rfl)) pgs_nil)))
        (pss_cons (ps_if (PW.pt (pw_or (pt_not (pt_val (pe_callB call_isiT (by rfl) T.isinstance PyProof.Rows.boot_isinstance (pa_cons (pv 3) (pa_cons (pe_tup (pa_cons (pe_bltn (v := .ty "list") (by rfl) T.list PyProof.Rows.boot_list rfl) (pa_cons (pe_bltn (v := .ty "tuple") (by rfl) T.tuple PyProof.Rows.boot_tuple rfl) pa_nil))) pa_nil)))))
            (pw_or1 (pt_cmpR op_ne (pe_callB call_len (by rfl) T.len PySem.boot_len (pa_cons (pv 3) pa_nil)) (pv 1) (nomark _))))) pss_never pss_nil)
        (pss_one (ps_if (pt_not (pt_val (pe_callB (cr_all rfl) (by rfl) T.all PyProof.Rows.boot_all (pa_cons (pe_lc (own := [("state", 4)]) (g := gName 4) (by rfl) scRows.nd (pi_list (pv 3))
            (blkOk_by (own := [("state", 4)]) (N := nRows) (sc := defScope sCheckRows) (by decide +kernel)) (fun _ _ _ _ _ => pg_name (i := 4) scRows.nd rfl (Or.inl rfl)) (fun _ _ _ _ _ => pts_nil)
            (fun _ _ _ _ _ => pe_call GX hr rfl DX.g DX.F.kp DX.b .nil pass0 (pa_cons (pv 4) (pa_cons (pe_callB (r := rLn K) call_len (by rfl) T.len PySem.boot_len (pa_cons (pv 0) pa_nil)) pa_nil)))) pa_nil)))) pss_never pss_nil)))))), ?_⟩
    refine ⟨_, rfl, _, rs.length, rfl, .inl ⟨_, hb, hlen.symm⟩, rfl, _, rfl, ?_⟩
    refine ite2 (fun h => absurd (of_decide_eq_true h) (fun h => by injection h with h; omega)) (fun _ => ?_)
    refine ⟨_, rfl, _, rs.length, rfl, .inl ⟨_, hb, hlen.symm⟩, _, _, rfl, rfl, _, rfl, ?_⟩
    refine ite2 (fun h => absurd (of_decide_eq_true h) (by omega)) (fun _ => ?_)
    refine ⟨_, rfl, b, _, rfl, hb, for_it (walk_enum (K := K) (a := b) (xs := as.map V.ref)) (fun i σ H' => Same H H' ∧ ∃ v1 v2, σ = [some (.ref b), some (.int (m : Int)), v1, v2, none]) ⟨Same.refl H, none, none, rfl⟩ (fun i σ H' _ p => p.1.seq hb) ?_ ?_⟩
    · rintro i x σ H1 H2 hi ⟨sm, v1, v2, rfl⟩ ⟨t, x1, x2, rfl, ht, rfl, e1, e2⟩
      cases e1
      replace e2 : (as.map V.ref)[i]? = some x2 := e2
      rw [List.getElem?_map] at e2
      obtain ⟨a, ea, rfl⟩ := Option.map_eq_some_iff.mp e2
      have hir : i < rs.length := by rw [← hR.1]; exact (List.getElem?_eq_some_iff.mp ea).1
      have er : rs[i]? = some rs[i] := List.getElem?_eq_getElem hir
      obtain ⟨hl, hx⟩ := hrow _ (List.getElem_mem hir)
      have sm2 := sm.trans (same_upd (o := .tup [V.int (i : Nat), V.ref a]) ht)
      have ha2 := sm2 _ _ (hR.2 i a _ ea er)
      refine ⟨t, _, rfl, SqT.of upd_same, rfl, _, _, rfl, _, _, rfl, rfl, ?_⟩
      generalize upd H1 t (.tup [V.int (i : Nat), V.ref a]) = H3 at sm2 ha2 ⊢
      refine ⟨_, rfl, by show 2 ≤ sizeLine; decide, fun q hq => ?_⟩
      have sm4 := sm2.trans (same_upd (o := .tup [V.ty "list", V.ty "tuple"]) hq)
      have ha4 := (same_upd (o := .tup [V.ty "list", V.ty "tuple"]) hq) _ _ ha2
      refine ⟨_, q, _, _, _, true, rfl, upd_same, .cons (.ty "list") (.cons (.ty "tuple") .nil), .base (.lst ha4), kit_list, true, rfl, ?_⟩
      refine iteF ?_
      refine ⟨_, rfl, _, m, rfl, .inl ⟨_, SqL.of ha4, by rw [List.length_map]; exact hl.symm⟩, _, rfl, rfl, _, rfl, ?_⟩
      refine ite2 (fun h => ?_) (fun _ => ?_)
      · simp at h
      refine ⟨_, rfl, a, rfl, ⟨_, SqL.of ha4⟩, fun D hD => ?_⟩
      generalize upd H3 q (.tup [V.ty "list", V.ty "tuple"]) = H4 at sm4 ha4 hD ⊢
      refine lc_list (K := K) (a := a) (xs := (rs[i]).map V.int) (fun j H' => Same H4 H' ∧ H' D = some (.lst ((List.replicate j true).map V.bl))) ?_ ?_ ?_ ?_
      · exact ⟨same_upd hD, upd_same⟩
      · exact fun j H' _ p => p.1.seq (SqL.of ha4)
      · rintro j x H5 hj ⟨sm5, hD5⟩
        rw [List.getElem?_map] at hj
        obtain ⟨y, hy, rfl⟩ := Option.map_eq_some_iff.mp hj
        obtain ⟨y0, y1⟩ := hx y (List.mem_of_getElem? hy)
        have hjl : j < (rs[i]).length := (List.getElem?_eq_some_iff.mp hy).1
        refine ⟨rfl, _, rfl, _, rfl, _, rs.length, rfl, .inl ⟨_, (sm4.trans sm5).seq hb, hlen.symm⟩, y, rs.length, rfl, y0, y1, ?_⟩
        refine ⟨_, hD5, ?_, ?_, ?_⟩
        · simp; exact small1000 (by omega)
        · exact fun b' o e => by rw [upd_ne (ne_of_none e hD)]; exact sm5 b' o e
        · rw [upd_same, List.replicate_succ']
          simp
      · rintro H5 ⟨sm5, hD5⟩
        refine ⟨D, _, rfl, SqL.of hD5, ?_⟩
        have e : (List.replicate ((rs[i]).map V.int).length true).all id = true := by simp
        rw [e]
        refine ⟨true, rfl, ?_⟩
        refine iteF ?_
        exact ⟨sm4.trans sm5, _, _, rfl⟩
    · rintro σ H1 ⟨sm, v1, v2, rfl⟩
      exact k H1 sm
theorem scTells : FnScope ["tells", "many", "index", "tell"] ["tells", "many"] (defScope sCheckTells) := ⟨rfl, rfl, rfl, by decide +kernel, rfl, by decide +kernel, by decide +kernel⟩
theorem ok_tells {f fT : Addr} {fd fdT : FuncData} (D : Df K mg "check_tells" sCheckTells ["tells", "many"] f fd) (DT : Df K mg "is_tell" sIsTell ["value"] fT fdT) (T : Bt2 mg) : FnOk P w K mg base CX0 2 f fd ["tells", "many"] (spTells K) := by
  have GT : FnOk P w K mg base CX0 1 fT fdT ["value"] spIsTell := ok_istell DT T
  refine D.F.ok scTells (fun vs H Q E h => ?_) (fun cdv A outer s H vs Q E hr h => ?_)
  · obtain ⟨b, ss, rfl, _⟩ := h
    rfl
  · obtain ⟨b, ss, rfl, hb, ht, hl, k⟩ := h
    refine ⟨_, pss_cons (ps_for PassesOwn.never rfl (pi_enum (by rfl) T.enumerate (pa_cons (pv 0) pa_nil)) (pg_tup (by rfl) (pgs_cons (pg_name (i := 2) scTells.nd rfl (Or.inl rfl)) (pgs_cons (pg_name (i := 3) scTells.nd rfl (Or.inl rfl)) pgs_nil)))
        (pss_one (ps_if (pt_not (pt_val (pe_call GT hr rfl DT.g DT.F.kp DT.b .nil pass0 (pa_cons (pv 3) pa_nil)))) pss_never pss_nil)))
      (pss_one (ps_if (pt_cmpR op_ne (pe_callB call_len (by rfl) T.len PySem.boot_len (pa_cons (pv 0) pa_nil)) (pv 1) (nomark _)) pss_never pss_nil)), ?_⟩
    refine ⟨_, rfl, b, _, rfl, hb, for_it (walk_enum (K := K) (a := b) (xs := ss.map V.str)) (fun i σ H' => Same H H' ∧ ∃ v1 v2, σ = [some (.ref b), some (.int (ss.length : Int)), v1, v2]) ⟨Same.refl H, none, none, rfl⟩ (fun i σ H' _ p => p.1.seq hb) ?_ ?_⟩
    · rintro i x σ H1 H2 hi ⟨sm, v1, v2, rfl⟩ ⟨t, x1, x2, rfl, ht', rfl, e1, e2⟩
      cases e1
      replace e2 : (ss.map V.str)[i]? = some x2 := e2
      rw [List.getElem?_map] at e2
      obtain ⟨z, ez, rfl⟩ := Option.map_eq_some_iff.mp e2
      have sm2 := sm.trans (same_upd (o := .tup [V.int (i : Nat), V.str z]) ht')
      refine ⟨t, _, rfl, SqT.of upd_same, rfl, _, _, rfl, _, _, rfl, rfl, ?_⟩
      refine ⟨_, rfl, z, rfl, ht z (List.mem_of_getElem? ez), fun H3 sm3 => ⟨true, rfl, ?_⟩⟩
      refine iteF ?_
      exact ⟨sm2.trans sm3, _, _, rfl⟩
    · rintro σ H1 ⟨sm, v1, v2, rfl⟩
      refine ⟨_, rfl, _, ss.length, rfl, .inl ⟨_, sm.seq hb, (List.length_map _).symm⟩, _, rfl, rfl, _, rfl, ?_⟩
      refine ite2 (fun h => ?_) (fun _ => k H1 sm)
      simp at h
end
end K1
set_option Elab.async false
set_option linter.all false
set_option maxRecDepth 100000
namespace K1
open PySem L2
abbrev sMInit : Stmt := inClass (top 35) 0
abbrev sMLen : Stmt := inClass (top 35) 1
abbrev sMEq : Stmt := inClass (top 35) 2
theorem f_dr : ¬ (("deeds" : Str) = "rows") := by decide +kernel
theorem f_dt : ¬ (("deeds" : Str) = "tells") := by decide +kernel
theorem f_ds : ¬ (("deeds" : Str) = "start") := by decide +kernel
theorem f_rt : ¬ (("rows" : Str) = "tells") := by decide +kernel
theorem f_rs : ¬ (("rows" : Str) = "start") := by decide +kernel
theorem f_ts : ¬ (("tells" : Str) = "start") := by decide +kernel
theorem f_rd : ¬ (("rows" : Str) = "deeds") := by decide +kernel
theorem f_td : ¬ (("tells" : Str) = "deeds") := by decide +kernel
theorem f_tr : ¬ (("tells" : Str) = "rows") := by decide +kernel
def mf (t r l : Addr) (st : Int) : List (Str × V) := putF "start" (.int st) (putF "tells" (.ref l) (putF "rows" (.ref r) (putF "deeds" (.ref t) [])))
theorem mf_deeds (t r l : Addr) (st : Int) : (mf t r l st).lookup ("deeds" : Str) = some (.ref t) := by
  unfold mf
  rw [lookup_putF, if_neg f_ds, lookup_putF, if_neg f_dt, lookup_putF, if_neg f_dr, lookup_putF, if_pos rfl]
theorem mf_rows (t r l : Addr) (st : Int) : (mf t r l st).lookup ("rows" : Str) = some (.ref r) := by
  unfold mf
  rw [lookup_putF, if_neg f_rs, lookup_putF, if_neg f_rt, lookup_putF, if_pos rfl]
theorem mf_tells (t r l : Addr) (st : Int) : (mf t r l st).lookup ("tells" : Str) = some (.ref l) := by
  unfold mf
  rw [lookup_putF, if_neg f_ts, lookup_putF, if_pos rfl]
theorem mf_start (t r l : Addr) (st : Int) : (mf t r l st).lookup ("start" : Str) = some (.int st) := by
  unfold mf
  rw [lookup_putF, if_pos rfl]
theorem mf_no (t r l : Addr) (st : Int) {m : Str} (h1 : ¬ m = "start") (h2 : ¬ m = "tells") (h3 : ¬ m = "rows") (h4 : ¬ m = "deeds") : (mf t r l st).lookup m = none := by
  unfold mf
  rw [lookup_putF, if_neg h1, lookup_putF, if_neg h2, lookup_putF, if_neg h3, lookup_putF, if_neg h4]
  rfl
def RowsT (H : Hp) (as : List Addr) (rs : List (List Int)) : Prop := as.length = rs.length ∧ ∀ (i : Nat) (a : Addr) (r : List Int), as[i]? = some a → rs[i]? = some r → H a = some (.tup (r.map V.int))
theorem RowsT.same {H H' : Hp} {as : List Addr} {rs : List (List Int)} (h : RowsT H as rs) (s : Same H H') : RowsT H' as rs := ⟨h.1, fun i a r e1 e2 => s _ _ (h.2 i a r e1 e2)⟩
def MachAt (K : PySem.W.Frag) (C : Addr) (H : Hp) (x : Addr) (ws : List Str) (rs : List (List Int)) (ss : List Str) (st : Int) : Prop :=
  ∃ (dx t r l : Addr) (as : List Addr), H x = some (.ins C dx (mf t r l st)) ∧ SqF H t (ws.map V.str) ∧ H r = some (.tup (as.map V.ref)) ∧ RowsT H as rs ∧ H l = some (.tup (ss.map V.str))
/-- the parts that a machine takes -/
structure Parts (ws : List Str) (rs : List (List Int)) (ss : List Str) (st : Int) : Prop where
  gd : GoodD ws
  many : 1 ≤ rs.length ∧ rs.length ≤ 60
  row : ∀ r ∈ rs, r.length = ws.length ∧ ∀ x ∈ r, 0 ≤ x ∧ x < (rs.length : Int)
  tl : ss.length = rs.length ∧ ∀ z ∈ ss, Tl z
  st : 0 ≤ st ∧ st < (rs.length : Int)
def spMInit (K : PySem.W.Frag) (C : Addr) : Sp := fun vs H Q _ => ∃ (x dx a b l : Addr) (as : List Addr) (ws : List Str) (rs : List (List Int)) (ss : List Str) (st : Int), vs = [.ref x, .ref a, .ref b, .ref l, .int st] ∧ H x = some (.ins C dx []) ∧
  (SqF H a (ws.map V.str) ∨ SqL K H a (ws.map V.str)) ∧ SqL K H b (as.map V.ref) ∧ RowsAt H as rs ∧ SqL K H l (ss.map V.str) ∧ Parts ws rs ss st ∧ ∀ H', MachAt K C H' x ws rs ss st → Kept x H H' → Q .non H'
/-- what the class brings -/
structure Tm (K : PySem.W.Frag) (mg : Str → Option Value) (C : Addr) : Prop where
  cl : Cls K C
  nD : NoAttr K C "deeds"
  nR : NoAttr K C "rows"
  nT : NoAttr K C "tells"
  nS : NoAttr K C "start"
  mgC : mg "Machine" = some (.ref C)
theorem tup_any {K : PySem.W.Frag} {H : Hp} {a : Addr} {ys : List V} {Qf : V → Hp → Prop} (h : Sq K H a ys) (k : ∀ t H', SqT K H' t ys → Same H H' → Qf (.ref t) H') :
    (SqL K H a ys ∧ ∀ l, H l = none → Qf (.ref l) (upd H l (.tup ys))) ∨ (SqT K H a ys ∧ Qf (.ref a) H) := by
  rcases h with h | h
  · exact .inl ⟨h, fun l hl => k l _ (SqT.of upd_same) (same_upd hl)⟩
  · exact .inr ⟨h, k a H h (Same.refl H)⟩
theorem Kept.seqI {K : PySem.W.Frag} {x C dx : Addr} {fs : List (Str × V)} {H H' : Hp} {a : Addr} {xs : List V} (e : Kept x H H') (hx : H x = some (.ins C dx fs)) (h : SqL K H a xs) : SqL K H' a xs := by
  rcases h with (h | ⟨o, h⟩) | h
  · exact .inl (.inl (e _ _ h (ne_of h hx (by intro z; cases z))))
  · exact .inl (.inr ⟨o, e _ _ h (ne_of h hx (by intro z; cases z))⟩)
  · exact .inr h
theorem Kept.seqTI {K : PySem.W.Frag} {x C dx : Addr} {fs : List (Str × V)} {H H' : Hp} {a : Addr} {xs : List V} (e : Kept x H H') (hx : H x = some (.ins C dx fs)) (h : SqT K H a xs) : SqT K H' a xs := by
  rcases h with (h | ⟨o, h⟩) | h
  · exact .inl (.inl (e _ _ h (ne_of h hx (by intro z; cases z))))
  · exact .inl (.inr ⟨o, e _ _ h (ne_of h hx (by intro z; cases z))⟩)
  · exact .inr h
theorem Kept.seqFI {x C dx : Addr} {fs : List (Str × V)} {H H' : Hp} {a : Addr} {xs : List V} (e : Kept x H H') (hx : H x = some (.ins C dx fs)) (h : SqF H a xs) : SqF H' a xs := e.seqF hx (by intro o ys z; cases z) h
theorem Kept.rowsI {x C dx : Addr} {fs : List (Str × V)} {H H' : Hp} {as : List Addr} {rs : List (List Int)} (e : Kept x H H') (hx : H x = some (.ins C dx fs)) (h : RowsAt H as rs) : RowsAt H' as rs :=
  ⟨h.1, fun i a r e1 e2 => e _ _ (h.2 i a r e1 e2) (ne_of (h.2 i a r e1 e2) hx (by intro z; cases z))⟩
theorem Kept.self {x : Addr} {H : Hp} {o : HO} : Kept x H (L2.upd H x o) := fun b u e n => by rw [upd_ne n]; exact e
theorem RowsT.kept {x C dx : Addr} {fs : List (Str × V)} {H H' : Hp} {as : List Addr} {rs : List (List Int)} (e : Kept x H H') (hx : H x = some (.ins C dx fs)) (h : RowsT H as rs) : RowsT H' as rs :=
  ⟨h.1, fun i a r e1 e2 => e _ _ (h.2 i a r e1 e2) (ne_of (h.2 i a r e1 e2) hx (by intro z; cases z))⟩
theorem RowsT.snoc {H : Hp} {as : List Addr} {rs : List (List Int)} {a : Addr} {r : List Int} (h : RowsT H as rs) (e : H a = some (.tup (r.map V.int))) : RowsT H (as ++ [a]) (rs ++ [r]) := by
  refine ⟨by simp [h.1], fun i b q e1 e2 => ?_⟩
  by_cases hi : i < as.length
  · rw [List.getElem?_append_left hi] at e1
    rw [List.getElem?_append_left (by rw [← h.1]; exact hi)] at e2
    exact h.2 i b q e1 e2
  · rw [List.getElem?_append_right (by omega)] at e1
    rw [List.getElem?_append_right (by rw [← h.1]; omega), ← h.1] at e2
    cases hj : i - as.length with
    | zero =>
      rw [hj] at e1 e2
      simp at e1 e2
      rw [← e1, ← e2]; exact e
    | succ j => rw [hj] at e1; simp at e1
def rTu (K : PySem.W.Frag) : List V → Hp → VK → Prop := fun xs H Q => ∃ p ys, xs = [.ref p] ∧ ((SqL K H p ys ∧ ∀ l, H l = none → Q (.ref l) (upd H l (.tup ys))) ∨ (SqT K H p ys ∧ Q (.ref p) H))
section
variable {P : Program} {w : World} {K : PySem.W.Frag} {mg : Str → Option Value} {base : Heap}
abbrev pInit : List Str := ["self", "deeds", "rows", "tells", "start"]
abbrev nInit : List Str := ["self", "deeds", "rows", "tells", "start", "row"]
theorem scMInit : FnScope nInit pInit (defScope sMInit) := ⟨rfl, rfl, rfl, by decide +kernel, rfl, by decide +kernel, by decide +kernel⟩
abbrev MI (K : PySem.W.Frag) (f : Addr) (fd : FuncData) : Prop := FunD K "__init__" "Machine.__init__" (defArgs sMInit) (defBody sMInit) (defScope sMInit) [.int 0] [] f fd
theorem ok_minit {C f fCd fG fD fW fR fX fI fT fL : Addr} {fd fdCd fdG fdD fdW fdR fdX fdI fdT fdL : FuncData} (F : MI K f fd) (M : Tm K mg C) (T : Bt2 mg)
    (DCd : Df K mg "check_deeds" sCheckDeeds ["deeds"] fCd fdCd) (DG : Df K mg "check_group" sCheckGroup ["deeds"] fG fdG) (DD : Df K mg "check_different" sCheckDiff ["deeds"] fD fdD) (DW : Df K mg "is_word" sIsWord ["value"] fW fdW)
    (DR : Df K mg "check_rows" sCheckRows ["rows", "many"] fR fdR) (DX : Df K mg "is_index" sIsIndex ["value", "many"] fX fdX) (DI : Df K mg "is_integer" sIsInt ["value"] fI fdI)
    (DT : Df K mg "check_tells" sCheckTells ["tells", "many"] fT fdT) (DL : Df K mg "is_tell" sIsTell ["value"] fL fdL) : FnOk P w K mg base CX0 5 f fd pInit (spMInit K C) := by
  have GC : FnOk P w K mg base CX0 4 fCd fdCd ["deeds"] (spDeeds K) := ok_deeds DCd DG DD DW T
  have GR : FnOk P w K mg base CX0 3 fR fdR ["rows", "many"] (spRows K) := ok_rows DR DX DI T
  have GT : FnOk P w K mg base CX0 2 fT fdT ["tells", "many"] (spTells K) := ok_tells DT DL T
  have GX : FnOk P w K mg base CX0 2 fX fdX ["value", "many"] spIsIndex := ok_isindex DX DI T
  refine F.ok scMInit (fun vs H Q E h => ?_) (fun cdv A outer s H vs Q E hr h => ?_)
  · obtain ⟨x, dx, a, b, l, as, ws, rs, ss, st, rfl, _⟩ := h
    rfl
  · obtain ⟨x, dx, a, b, l, as, ws, rs, ss, st, rfl, hx, ha, hb, hR, hl, pt, k⟩ := h
    have hr2 : Room 2 _ := hr.mono (by decide)
    have hr3 : Room 3 _ := hr.mono (by decide)
    obtain ⟨t2, ht2, hq2⟩ : ∃ t2, PSs (cxOf CX0 P w K mg base nInit "Machine.__init__" (defScope sMInit) f cdv A outer s H E) ((defBody sMInit).drop 5) t2 ∧ ∀ (t : Addr) (H5 : Hp), H5 x = some (.ins C dx (putF "deeds" (.ref t) [])) →
        SqF H5 t (ws.map V.str) → SqL K H5 b (as.map V.ref) → RowsAt H5 as rs → SqL K H5 l (ss.map V.str) → Kept x H H5 → t2 { nx := fun _ H' => Q .non H', rt := Q } (start nInit [.ref x, .ref a, .ref b, .ref l, .int st]) H5 := by
      refine ⟨_, pss_cons (ps_fld (pv 0) (pe_callTy call_tuple_of (by rfl) T.tuple PyProof.Rows.boot_tuple (pa_cons (pe_lc (own := [("row", 5)]) (g := gName 5) (by rfl) scMInit.nd (pi_list (pv 2))
            (blkOk_by (own := [("row", 5)]) (N := nInit) (sc := defScope sMInit) (by decide +kernel)) (fun _ _ _ _ _ => pg_name (i := 5) scMInit.nd rfl (Or.inl rfl)) (fun _ _ _ _ _ => pts_nil)
            (fun _ _ _ _ _ => pe_callTy (r := rTu K) call_tuple_of (by rfl) T.tuple PyProof.Rows.boot_tuple (pa_cons (pv 5) pa_nil))) pa_nil)) rfl)
        (pss_cons (ps_fld (pv 0) (pe_callTy call_tuple_of (by rfl) T.tuple PyProof.Rows.boot_tuple (pa_cons (pv 3) pa_nil)) rfl)
        (pss_one (ps_fld (pv 0) (pv 4) rfl))), ?_⟩
      intro t H5 hx5 ht5 hb5 hR5 hl5 kk5
      refine ⟨_, rfl, b, rfl, ⟨_, hb5⟩, fun D hD => ?_⟩
      refine lc_list (K := K) (a := b) (xs := as.map V.ref) (fun i H' => Same H5 H' ∧ ∃ bs : List Addr, bs.length = i ∧ H' D = some (.lst (bs.map V.ref)) ∧ RowsT H' bs (rs.take i) ∧ ∀ q ∈ bs, q ≠ D) ?_ ?_ ?_ ?_
      · exact ⟨same_upd hD, [], rfl, upd_same, ⟨by simp, fun i a r e => by simp at e⟩, by simp⟩
      · exact fun i H' _ p => p.1.seq hb5
      · rintro i y H6 hi ⟨sm6, bs, hbs, hD6, hR6, hnD⟩
        rw [List.getElem?_map] at hi
        obtain ⟨ai, eai, rfl⟩ := Option.map_eq_some_iff.mp hi
        have hir : i < rs.length := by rw [← hR.1]; exact (List.getElem?_eq_some_iff.mp eai).1
        have eri : rs[i]? = some rs[i] := List.getElem?_eq_getElem hir
        have ha6 := sm6 _ _ (hR5.2 i ai _ eai eri)
        refine ⟨rfl, _, rfl, ai, _, rfl, .inl ⟨SqL.of ha6, fun q hq => ?_⟩⟩
        have nDq : D ≠ q := ne_of_none hD6 hq
        have h60 := pt.many.2
        refine ⟨_, (by rw [upd_ne nDq]; exact hD6), ?_, ?_, bs ++ [q], by simp [hbs], by rw [upd_same]; simp, ?_, ?_⟩
        · rw [List.length_map]; exact small1000 (by omega)
        · exact fun c o e => by rw [upd_ne (ne_of_none e hD), upd_ne (ne_of_none (sm6 _ _ e) hq)]; exact sm6 _ _ e
        · have e7 : RowsT (upd H6 q (.tup ((rs[i]).map V.int))) (bs ++ [q]) (rs.take i ++ [rs[i]]) := (hR6.same (same_upd hq)).snoc upd_same
          rw [List.take_add_one, eri]
          refine ⟨e7.1, fun j c r e1 e2 => ?_⟩
          have hm := List.mem_of_getElem? e1
          have : c ≠ D := by
            rcases List.mem_append.mp hm with h | h
            · exact hnD c h
            · rw [List.mem_singleton.mp h]; exact nDq.symm
          rw [upd_ne this]
          exact e7.2 j c r e1 e2
        · intro c hc
          rcases List.mem_append.mp hc with h | h
          · exact hnD c h
          · rw [List.mem_singleton.mp h]; exact nDq.symm
      · rintro H6 ⟨sm6, bs, hbs, hD6, hR6, hnD⟩
        have etk : rs.take (as.map V.ref).length = rs := by rw [List.length_map, hR.1, List.take_length]
        rw [etk] at hR6
        refine ⟨D, _, rfl, .inl ⟨SqL.of hD6, fun r hr7 => ?_⟩⟩
        have sr := same_upd (o := .tup (bs.map V.ref)) hr7
        have sm7 := sm6.trans sr
        have hx7 := sm7 _ _ hx5
        have hr7' : upd H6 r (.tup (bs.map V.ref)) r = some (.tup (bs.map V.ref)) := upd_same
        have hR7 := hR6.same sr
        have hl7 := sm7.seq hl5
        have ht7 := ht5.same sm7
        have kk7 : Kept x H (upd H6 r (.tup (bs.map V.ref))) := kk5.trans (.same sm7)
        generalize upd H6 r (.tup (bs.map V.ref)) = H7 at sm7 hx7 hr7' hR7 hl7 ht7 kk7 ⊢
        refine ⟨_, rfl, x, C, dx, _, rfl, hx7, M.cl, M.nR, (by show 1 < 1000; decide), ?_⟩
        have k8 : Kept x H7 (upd H7 x (.ins C dx (putF "rows" (.ref r) (putF "deeds" (.ref t) [])))) := Kept.self
        have hx8 : upd H7 x (.ins C dx (putF "rows" (.ref r) (putF "deeds" (.ref t) []))) x = some (.ins C dx (putF "rows" (.ref r) (putF "deeds" (.ref t) []))) := upd_same
        have hr8 := k8 _ _ hr7' (ne_of hr7' hx7 (by intro z; cases z))
        have hR8 := RowsT.kept k8 hx7 hR7
        have hl8 := k8.seqI hx7 hl7
        have ht8 := k8.seqFI hx7 ht7
        have kk8 := kk7.trans k8
        generalize upd H7 x (.ins C dx (putF "rows" (.ref r) (putF "deeds" (.ref t) []))) = H8 at k8 hx8 hr8 hR8 hl8 ht8 kk8 ⊢
        -- self.tells
        refine ⟨_, rfl, l, _, rfl, .inl ⟨hl8, fun l' hl9 => ?_⟩⟩
        have sl := same_upd (o := .tup (ss.map V.str)) hl9
        have hx9 := sl _ _ hx8
        have hl9' : upd H8 l' (.tup (ss.map V.str)) l' = some (.tup (ss.map V.str)) := upd_same
        have hr9 := sl _ _ hr8
        have hR9 := hR8.same sl
        have ht9 := ht8.same sl
        have kk9 : Kept x H (upd H8 l' (.tup (ss.map V.str))) := kk8.trans (.same sl)
        generalize upd H8 l' (.tup (ss.map V.str)) = H9 at hx9 hl9' hr9 hR9 ht9 kk9 ⊢
        refine ⟨_, rfl, x, C, dx, _, rfl, hx9, M.cl, M.nT, (by show 2 < 1000; decide), ?_⟩
        have k10 : Kept x H9 (upd H9 x (.ins C dx (putF "tells" (.ref l') (putF "rows" (.ref r) (putF "deeds" (.ref t) []))))) := Kept.self
        have hx10 : upd H9 x (.ins C dx (putF "tells" (.ref l') (putF "rows" (.ref r) (putF "deeds" (.ref t) [])))) x = some (.ins C dx (putF "tells" (.ref l') (putF "rows" (.ref r) (putF "deeds" (.ref t) [])))) := upd_same
        have hl10 := k10 _ _ hl9' (ne_of hl9' hx9 (by intro z; cases z))
        have hr10 := k10 _ _ hr9 (ne_of hr9 hx9 (by intro z; cases z))
        have hR10 := RowsT.kept k10 hx9 hR9
        have ht10 := k10.seqFI hx9 ht9
        have kk10 := kk9.trans k10
        generalize upd H9 x (.ins C dx (putF "tells" (.ref l') (putF "rows" (.ref r) (putF "deeds" (.ref t) [])))) = H10 at k10 hx10 hl10 hr10 hR10 ht10 kk10 ⊢
        -- self.start
        refine ⟨_, rfl, _, rfl, x, C, dx, _, rfl, hx10, M.cl, M.nS, (by show 3 < 1000; decide), ?_⟩
        have k11 : Kept x H10 (upd H10 x (.ins C dx (mf t r l' st))) := Kept.self
        exact k _ ⟨dx, t, r, l', bs, upd_same, k11.seqFI hx10 ht10, k11 _ _ hr10 (ne_of hr10 hx10 (by intro z; cases z)), RowsT.kept k11 hx10 hR10, k11 _ _ hl10 (ne_of hl10 hx10 (by intro z; cases z))⟩ (kk10.trans k11)
    have lnR : ∀ {H' : Hp}, Same H H' → LenV K (.ref b) H' rs.length := fun sm => .inl ⟨_, sm.seq hb, by rw [List.length_map, hR.1]⟩
    refine ⟨_, (pss_cons (ps_expr (pe_call GC hr rfl DCd.g DCd.F.kp DCd.b .nil pass0 (pa_cons (pv 1) pa_nil)))
      (pss_cons (ps_expr (pe_call GR hr3 rfl DR.g DR.F.kp DR.b .nil pass0 (pa_cons (pv 2) (pa_cons (pe_callB call_len (by rfl) T.len PySem.boot_len (pa_cons (pv 1) pa_nil)) pa_nil))))
      (pss_cons (ps_expr (pe_call GT hr2 rfl DT.g DT.F.kp DT.b .nil pass0 (pa_cons (pv 3) (pa_cons (pe_callB call_len (by rfl) T.len PySem.boot_len (pa_cons (pv 2) pa_nil)) pa_nil))))
      (pss_cons (ps_if (pt_not (pt_val (pe_call GX hr2 rfl DX.g DX.F.kp DX.b .nil pass0 (pa_cons (pv 4) (pa_cons (pe_callB call_len (by rfl) T.len PySem.boot_len (pa_cons (pv 2) pa_nil)) pa_nil))))) pss_never pss_nil)
      (pss_cons (ps_fld (pv 0) (pe_callTy (r := rTuF K) call_tuple_F (by rfl) T.tuple PyProof.Rows.boot_tuple (pa_cons (pv 1) pa_nil)) rfl) ht2))))), ?_⟩
    have has : Sq K H a (ws.map V.str) := ha.elim (fun z => .inr z.sq) .inl
    refine ⟨_, rfl, a, ws, rfl, has, pt.gd, fun H1 sm1 => ?_⟩
    refine ⟨_, rfl, _, rfl, _, ws.length, rfl, (by have := Sq.len (K := K) (has.same sm1); rwa [List.length_map] at this), b, ws.length, as, rs, rfl, sm1.seq hb, hR.same sm1, pt.many.1, pt.many.2, (by have := pt.gd.len.2; omega), pt.row, fun H2 sm2 => ?_⟩
    have s2 := sm1.trans sm2
    refine ⟨_, rfl, _, rfl, _, rs.length, rfl, lnR s2, l, ss, by rw [pt.tl.1]; rfl, s2.seq hl, pt.tl.2, by rw [pt.tl.1]; have := pt.many.2; omega, fun H3 sm3 => ?_⟩
    have s3 := s2.trans sm3
    refine ⟨_, rfl, _, rfl, _, rs.length, rfl, lnR s3, st, rs.length, rfl, pt.st.1, pt.st.2, true, rfl, ?_⟩
    refine iteF ?_
    have fin : ∀ (t : Addr) (H4 : Hp), SqF H4 t (ws.map V.str) → Same H3 H4 → t2 { nx := fun _ H' => Q .non H', rt := Q } (start nInit [.ref x, .ref a, .ref b, .ref l, .int st]) (upd H4 x (.ins C dx (putF "deeds" (.ref t) []))) := fun t H4 ht4 sm4 => by
      have s4 := s3.trans sm4
      have hx4 := s4 _ _ hx
      have k5 : Kept x H4 (upd H4 x (.ins C dx (putF "deeds" (.ref t) []))) := Kept.self
      exact hq2 t _ upd_same (k5.seqFI hx4 ht4) (k5.seqI hx4 (s4.seq hb)) (k5.rowsI hx4 (hR.same s4)) (k5.seqI hx4 (s4.seq hl)) ((Kept.same s4).trans k5)
    refine ⟨_, rfl, a, ws.map V.str, rfl, ?_⟩
    rcases ha with ha | ha
    · exact .inr ⟨(ha.same s3).sq, ⟨_, rfl, x, C, dx, _, rfl, s3 _ _ hx, M.cl, M.nD, (by show 0 < 1000; decide), fin a _ (ha.same s3) (Same.refl _)⟩⟩
    · refine .inl ⟨s3.seq ha, fun l0 o0 hl0 ho0 => ?_⟩
      have s4 := same_upd (o := .frz o0 (.tup (ws.map V.str))) hl0
      exact ⟨_, rfl, x, C, dx, _, rfl, s4 _ _ (s3 _ _ hx), M.cl, M.nD, (by show 0 < 1000; decide), fin l0 _ ⟨o0, upd_same, ho0⟩ s4⟩
end
end K1
set_option Elab.async false
set_option linter.all false
set_option maxRecDepth 100000
namespace K1
open PySem L2
abbrev sMade : Stmt := top 47
theorem pk_deeds (t r l : Addr) (s : Int) : valV (plainK t r l s) kDeeds = some (.ref t) := valV_pos rfl
theorem pk_rows (t r l : Addr) (s : Int) : valV (plainK t r l s) kRows = some (.ref r) := by
  have h1 : ¬ (kDeeds = kRows) := by decide +kernel
  unfold plainK; rw [valV_neg h1]; exact valV_pos rfl
theorem pk_tells (t r l : Addr) (s : Int) : valV (plainK t r l s) kTells = some (.ref l) := by
  have h1 : ¬ (kDeeds = kTells) := by decide +kernel
  have h2 : ¬ (kRows = kTells) := by decide +kernel
  unfold plainK; rw [valV_neg h1, valV_neg h2]; exact valV_pos rfl
theorem pk_start (t r l : Addr) (s : Int) : valV (plainK t r l s) kStart = some (.int s) := by
  have h1 : ¬ (kDeeds = kStart) := by decide +kernel
  have h2 : ¬ (kRows = kStart) := by decide +kernel
  have h3 : ¬ (kTells = kStart) := by decide +kernel
  unfold plainK; rw [valV_neg h1, valV_neg h2, valV_neg h3]; exact valV_pos rfl
theorem gDeeds {H : Hp} {p t r l : Addr} {s : Int} (h : H p = some (.dK (plainK t r l s))) : DGet H p (.str "deeds") (some (.ref t)) := by have := DGet.k (k := kDeeds) h; rw [pk_deeds] at this; exact this
theorem gRows {H : Hp} {p t r l : Addr} {s : Int} (h : H p = some (.dK (plainK t r l s))) : DGet H p (.str "rows") (some (.ref r)) := by have := DGet.k (k := kRows) h; rw [pk_rows] at this; exact this
theorem gTells {H : Hp} {p t r l : Addr} {s : Int} (h : H p = some (.dK (plainK t r l s))) : DGet H p (.str "tells") (some (.ref l)) := by have := DGet.k (k := kTells) h; rw [pk_tells] at this; exact this
theorem gStart {H : Hp} {p t r l : Addr} {s : Int} (h : H p = some (.dK (plainK t r l s))) : DGet H p (.str "start") (some (.int s)) := by have := DGet.k (k := kStart) h; rw [pk_start] at this; exact this
def spMade (K : PySem.W.Frag) (C : Addr) : Sp := fun vs H Q _ => ∃ (p : Addr) (ws : List Str) (rs : List (List Int)) (ss : List Str) (st : Int), vs = [.ref p] ∧ PlainAt H p ws rs ss st ∧ Parts ws rs ss st ∧
  ∀ (x : Addr) (H' : Hp), H x = none → MachAt K C H' x ws rs ss st → Same H H' → Q (.ref x) H'
section
variable {P : Program} {w : World} {K : PySem.W.Frag} {mg : Str → Option Value} {base : Heap}
abbrev nMade : List Str := ["_law_plain_here", "_law_row"]
theorem scMade : FnScope nMade ["_law_plain_here"] (defScope sMade) := ⟨rfl, rfl, rfl, by decide +kernel, rfl, by decide +kernel, by decide +kernel⟩
def rLi (K : PySem.W.Frag) : List V → Hp → VK → Prop := fun xs H Q => ∃ p ys, xs = [.ref p] ∧ (SqL K H p ys ∨ SqT K H p ys) ∧ ∀ l, H l = none → Q (.ref l) (upd H l (.lst ys))
theorem ok_made {C f fI : Addr} {fd fdI : FuncData} (D : Df K mg "_law_made" sMade ["_law_plain_here"] f fd) (M : Tm K mg C) (T : Bt2 mg) (Mk' : Mk K C fI) (GI : FnOk P w K mg base CX0 5 fI fdI pInit (spMInit K C)) (bI : Binds K fdI pInit []) : FnOk P w K mg base CX0 7 f fd ["_law_plain_here"] (spMade K C) := by
  refine D.F.ok scMade (fun vs H Q E h => ?_) (fun cdv A outer s H vs Q E hr h => ?_)
  · obtain ⟨p, ws, rs, ss, st, rfl, _⟩ := h
    rfl
  · obtain ⟨p, ws, rs, ss, st, rfl, ⟨t, r, l, as, hp, ht, hr', hl, hR⟩, pt, k⟩ := h
    have hu := hu_of hr
    refine ⟨_, pss_one (ps_ret (pe_make Mk' GI hr rfl M.mgC bI .nil pass0 (pa_cons (pe_dget hu (pv 0) pe_str (fun _ _ => rfl))
      (pa_cons (pe_lc (own := [("_law_row", 1)]) (g := gName 1) (by rfl) scMade.nd (pi_list (pe_dget hu (pv 0) pe_str (fun _ _ => rfl)))
            (blkOk_by (own := [("_law_row", 1)]) (N := nMade) (sc := defScope sMade) (by decide +kernel)) (fun _ _ _ _ _ => pg_name (i := 1) scMade.nd rfl (Or.inl rfl)) (fun _ _ _ _ _ => pts_nil)
            (fun _ _ _ _ _ => pe_callTy (r := rLi K) call_list_of (by rfl) T.list PyProof.Rows.boot_list (pa_cons (pv 1) pa_nil)))
      (pa_cons (pe_callTy call_list_of (by rfl) T.list PyProof.Rows.boot_list (pa_cons (pe_dget hu (pv 0) pe_str (fun _ _ => rfl)) pa_nil))
      (pa_cons (pe_dget hu (pv 0) pe_str (fun _ _ => rfl)) pa_nil)))))), ?_⟩
    refine ⟨_, rfl, p, _, rfl, gDeeds hp, _, rfl, p, _, rfl, gRows hp, r, rfl, ⟨_, SqL.of hr'⟩, fun D1 hD => ?_⟩
    refine lc_list (K := K) (a := r) (xs := as.map V.ref) (fun i H' => Same H H' ∧ ∃ bs : List Addr, bs.length = i ∧ H' D1 = some (.lst (bs.map V.ref)) ∧ RowsAt H' bs (rs.take i) ∧ ∀ q ∈ bs, q ≠ D1) ?_ ?_ ?_ ?_
    · exact ⟨same_upd hD, [], rfl, upd_same, ⟨by simp, fun i a r e => by simp at e⟩, by simp⟩
    · exact fun i H' _ q => SqL.of (q.1 _ _ hr')
    · rintro i y H6 hi ⟨sm6, bs, hbs, hD6, hR6, hnD⟩
      rw [List.getElem?_map] at hi
      obtain ⟨ai, eai, rfl⟩ := Option.map_eq_some_iff.mp hi
      have hir : i < rs.length := by rw [← hR.1]; exact (List.getElem?_eq_some_iff.mp eai).1
      have eri : rs[i]? = some rs[i] := List.getElem?_eq_getElem hir
      have ha6 := sm6 _ _ (hR.2 i ai _ eai eri)
      refine ⟨rfl, _, rfl, ai, _, rfl, .inl (SqL.of ha6), fun q hq => ?_⟩
      have nDq : D1 ≠ q := ne_of_none hD6 hq
      have h60 := pt.many.2
      refine ⟨_, (by rw [upd_ne nDq]; exact hD6), ?_, ?_, bs ++ [q], by simp [hbs], by rw [upd_same]; simp, ?_, ?_⟩
      · rw [List.length_map]; exact small1000 (by omega)
      · exact fun c o e => by rw [upd_ne (ne_of_none e hD), upd_ne (ne_of_none (sm6 _ _ e) hq)]; exact sm6 _ _ e
      · have e7 : RowsAt (upd H6 q (.lst ((rs[i]).map V.int))) (bs ++ [q]) (rs.take i ++ [rs[i]]) := (hR6.same (same_upd hq)).snoc upd_same
        rw [List.take_add_one, eri]
        refine ⟨e7.1, fun j c r e1 e2 => ?_⟩
        have hm := List.mem_of_getElem? e1
        have : c ≠ D1 := by
          rcases List.mem_append.mp hm with h | h
          · exact hnD c h
          · rw [List.mem_singleton.mp h]; exact nDq.symm
        rw [upd_ne this]
        exact e7.2 j c r e1 e2
      · intro c hc
        rcases List.mem_append.mp hc with h | h
        · exact hnD c h
        · rw [List.mem_singleton.mp h]; exact nDq.symm
    · rintro H6 ⟨sm6, bs, hbs, hD6, hR6, hnD⟩
      have etk : rs.take (as.map V.ref).length = rs := by rw [List.length_map, hR.1, List.take_length]
      rw [etk] at hR6
      refine ⟨_, rfl, p, _, rfl, gTells (sm6 _ _ hp), l, _, rfl, .inl (SqL.of (sm6 _ _ hl)), fun l2 hl2 => ?_⟩
      have sl := same_upd (o := .lst (ss.map V.str)) hl2
      have s7 := sm6.trans sl
      refine ⟨_, rfl, p, _, rfl, gStart (s7 _ _ hp), ?_⟩
      intro x dx hx hdx ndx
      have zx : H x = none := s7.free hx
      have s8 : Same (upd H6 l2 (.lst (ss.map V.str))) (upd (upd (upd H6 l2 (.lst (ss.map V.str))) dx (.own x)) x (.ins C dx [])) := fun b o e => by
        rw [upd_ne (ne_of_none e hx), upd_ne (ne_of_none e hdx)]; exact e
      refine ⟨x, dx, t, D1, l2, bs, ws, rs, ss, st, rfl, upd_same, (.inl ((ht.same s7).same s8)), SqL.of (s8 _ _ (sl _ _ hD6)), (hR6.same sl).same s8, SqL.of (s8 _ _ upd_same), pt, fun H9 hm hk => ⟨rfl, ?_⟩⟩
      exact k x H9 zx hm fun b o e => hk b o (s8 _ _ (s7 _ _ e)) (ne_of_none e zx)
end
end K1
set_option Elab.async false
set_option linter.all false
set_option maxRecDepth 100000
/-! the package's own errors: made from their fields, kept in their dict -/
namespace K1
open PySem L2
structure Oer (K : PySem.W.Frag) (mg : Str → Option Value) (x : Str) (fs : List Str) (C fI : Addr) (fd : FuncData) (qual : Str) (st : Stmt) : Prop where
  T : OexC K C
  xf : XfC K C
  g : mg x = some (.ref C)
  ini : PySem.W.findIn K (.ref C) "__init__" = some (some (.ref fI))
  tI : PySem.W.typeIn K (.ref fI) = some (.type "function")
  no : ∀ f ∈ fs, PySem.W.findIn K (.ref C) f = some none
  F : Fun K "__init__" qual st fI fd
  b : Binds K fd ("self" :: fs) []
def spIni (C : Addr) (fs : List Str) : Sp := fun vs H Q _ => ∃ (a : Addr) (ys : List V), vs = .ref a :: ys ∧ ys.length = fs.length ∧ H a = some (exo a C none) ∧
  ∀ dx, H dx = none → dx ≠ a → ∀ H', (∀ b o, H b = some o → b ≠ a → H' b = some o) → H' a = some (exo a C (some dx)) → H' dx = some (exd dx (fs.zip ys).reverse) → Q .non H'
/-- the reading of C(e, ..): d is the error's dict, new -/
theorem err_read {C : Addr} {fs : List Str} {vs : List V} {H1 : Hp} {Q : XK} (hl : fs.length ≤ 10) (e : vs.length = fs.length) (k : ∀ d G, Same H1 G → H1 d = none → G d = some (.xd (fs.zip vs).reverse) → Q (.ref C) (some d) G) :
    vs.length ≤ 1000 ∧ ∀ a, H1 a = none → spIni C fs (.ref a :: (vs ++ [])) (upd H1 a (exo a C none))
      (fun v H2 => v = .non ∧ ∃ (d : Addr) (gs : List (Str × V)), H2 a = some (exo a C (some d)) ∧ H2 d = some (exd d gs) ∧ H1 d = none ∧ Q (.ref C) (some d) (upd (del H2 a) d (.xd gs))) (fun _ _ _ => False) := by
  refine ⟨by omega, fun a ha => ?_⟩
  rw [List.append_nil]
  refine ⟨a, vs, rfl, e, upd_same, fun dx hdx ne H' keep ea ed => ⟨rfl, dx, _, ea, ed, ?_, ?_⟩⟩
  · rw [upd_ne ne] at hdx; exact hdx
  · have h1 : H1 dx = none := by rw [upd_ne ne] at hdx; exact hdx
    refine k dx _ (fun b o eb => ?_) h1 upd_same
    have nb : b ≠ a := ne_of_none eb ha
    rw [upd_ne (ne_of_none eb h1), del_ne nb]
    exact keep b o (by rw [upd_ne nb]; exact eb) nb
end K1
set_option Elab.async false
set_option linter.all false
set_option maxRecDepth 100000
/-! several clauses, each `except X as e`, of one name e -/
namespace K1
open PySem L2 PySem.Spec PyProof.Rows
def endsI (D : Ends) (i : Nat) : Ends := { nx := fun u G => D.nx (u.set i none) G, rt := D.rt, bk := fun u G => D.bk (u.set i none) G, ct := fun u G => D.ct (u.set i none) G }
def wAsAll (K : PySem.W.Frag) (i : Nat) (Wo : WX) (D : Ends) : List (Value × (Addr → Value → Option Addr → TS)) → WX
  | [] => Wo
  | p :: r => fun cl dd u G => ∃ b, PySem.W.exmOne K cl p.1 = some b ∧ (b = true → ∀ a, G a = none → p.2 a cl dd (endsI D i) (u.set i (some (.ref a))) G) ∧ (b = false → wAsAll K i Wo D r cl dd u G)
inductive AsOk (X : Cx) (n : Str) : List ExceptHandler → List (Value × (Addr → Value → Option Addr → TS)) → Prop
  | nil : AsOk X n [] []
  | cons {x : Str} {c : Value} {ts : Addr → Value → Option Addr → TS} {b₀ : Stmt} {suite : List Stmt} {np q : Pos} {hds : List ExceptHandler} {l : List (Value × (Addr → Value → Option Addr → TS))} (hc : Names X x c)
      (hsu : ∀ (a : Addr) (oe : Obj) (cl : Value) (dd : Option Addr) (pn : List (Addr × Obj)), Zc cl dd oe → (∃ vs, oe.data = .fields vs) → PSs (X.suite a ((a, oe) :: pn)) (b₀ :: suite) (ts a cl dd)) (r : AsOk X n hds l) :
      AsOk X n (.ExceptHandler (some (.Name x np)) (some n) (b₀ :: suite) q :: hds) ((c, ts) :: l)
section
variable {X : Cx} {n : Str} {i : Nat} {body : List Stmt} {h₀ : ExceptHandler} {hds : List ExceptHandler} {l : List (Value × (Addr → Value → Option Addr → TS))} {pos : Pos} {tb : WX → TS} {Wo : WX}
theorem ps_try_asAll (e0 : X.stack = X.env :: X.outer) (e1 : X.env.frame = some X.env.locals) (nd : X.N.Nodup) (hi : X.N[i]? = some n) (hln : X.env.kindOf n = some .local) (tk : Takes X Wo)
    (hb : ∀ (W : WX) (pn : List (Addr × Obj)) (xe : Value → Shared → Prop), Takes (X.tr pn xe) W → PassesOwn (model X.prog X.w) X.A X.env xe → PSs (X.tr pn xe) body (tb W))
    (hh : AsOk X n (h₀ :: hds) l) : PS X (.Try body (h₀ :: hds) [] [] pos) (fun D u G => tb (wAsAll X.K i Wo D l) D u G) := by
  refine ⟨fun pins s u G D I0 go0 => ?_⟩
  have ok := I0.ok
  have fr : X.A.frames = some (X.env :: X.outer) := by rw [ok.frames, e0]
  have lc : Loc X.env.scope n := .inl hln
  refine wpAny_Try_except ?_
  have run0 := (hb (wAsAll X.K i Wo D l) (X.pn ++ pins) (fun e s₁ => wpAny (model X.prog X.w) X.A (noteFrame e X.env) (fun _ s₂ => wpAny (model X.prog X.w) X.A (setFlight e none) (fun _ s₃ =>
    wpAny (model X.prog X.w) X.A (handleBy e X.env (h₀ :: hds)) (SP X pins D) X.xe s₃) X.xe s₂) X.xe s₁) (fun v s' xx => ?_) PassesOwn.looking).run [] s u G D (I0.toTry _) go0
  · refine wpAny_mono run0 (fun f s1 hsp => ?_) (fun e s1 he => he)
    cases f with
    | next => exact let ⟨u', G', J', q⟩ := hsp; wpAny_execs_nil ⟨u', G', J'.ofTry ok, q⟩
    | brk => exact let ⟨u', G', J', q⟩ := hsp; ⟨u', G', J'.ofTry ok, q⟩
    | cont => exact let ⟨u', G', J', q⟩ := hsp; ⟨u', G', J'.ofTry ok, q⟩
    | ret w => exact let ⟨v, u', G', J', r, q⟩ := hsp; ⟨v, u', G', J'.ofTry ok, r, q⟩
  · obtain ⟨a, B, sI, pins', u', G', cl, dd, rfl, J', nb, up, sky, na, os, ag, w⟩ := xx
    have J : Inv X pins u' G' sI := J'.ofTry ok
    have sk : Sky B (X.env :: X.outer) a (Zc cl dd) X.env.locals s'.heap := by rw [← e0]; exact sky
    show wpAny (model X.prog X.w) X.A (noteFrame (.ref a) X.env) _ _ _
    refine Sky.land Zc.steady fr e1 sk fun h3 fl3 up3 => ?_
    have J3 : Inv X pins u' G' { s' with heap := h3 } := J.landed nb fl3.1 (up.trans up3) os ag
    obtain ⟨oe3, vs3, he3, hz3, hd3⟩ := fl3.there
    have out : ∀ {h : Heap} {o : Obj} {vs : Array Value}, h.FunFrames B (X.env :: X.outer) → h.get? a = some o → o.data = .fields vs → a ∉ frs (X.env :: X.outer) := fun {h o vs} ff e hdt hm => by
      obtain ⟨_, o', e', hnf⟩ := ff.mem hm
      cases e.symm.trans e'
      exact hnf _ hdt
    have nfr := out fl3.2.2.1 he3 hd3
    have nL : a ≠ X.env.locals := fun z => nfr (List.mem_filterMap.mpr ⟨X.env, List.mem_cons_self, by rw [e1, z]⟩)
    have nF : a ∉ X.fs := fun hm => let ⟨e, he, q⟩ := List.mem_filterMap.mp hm; nfr (List.mem_filterMap.mpr ⟨e, List.mem_cons_of_mem _ he, q⟩)
    have S3 := J3.suite he3 hd3 na nL nF
    have go : ∀ {hs' : List ExceptHandler} {l' : List (Value × (Addr → Value → Option Addr → TS))}, AsOk X n hs' l' → wAsAll X.K i Wo D l' cl dd u' G' →
        wpAny (model X.prog X.w) X.A (handleBy (.ref a) X.env hs') (SP X pins D) X.xe { s' with heap := h3 } := by
      intro hs' l' hk
      induction hk with
      | nil =>
        intro w
        refine wpAny_handleBy_nil ?_
        obtain ⟨k1, k2, k3, oe, vs, T, oT, tz, he, hz, hd, h1, hr⟩ := id fl3
        unfold PySem.passOn
        refine wpAny_bind (wpAny_field he hd h1 ?_)
        rw [if_neg (show ¬ ((Value.ref T == Value.none) = true) by simp)]
        have fin : wpAny (model X.prog X.w) X.A (setFlight (.ref a) X.env.frame) (fun _ s4 => wpAny (model X.prog X.w) X.A (throw (.ref a) : Sem Flow) (SP X pins D) X.xe s4) X.xe { s' with heap := h3 } := by
          rw [e1]
          refine HandSPX.setFlight_upZ fl3 fun h4 hh4 up4 => wpAny_throw (tk _ _ ?_)
          exact ⟨a, B, sI, pins, u', G', cl, dd, rfl, J, nb, (up.trans up3).trans up4, .inr (.inr (by rw [e0]; exact hh4)), na, os, ag, w⟩
        first
          | exact wpAny_bind (wpAny_pure (wpAny_bind fin))
          | exact wpAny_bind fin
      | @cons x c ts b₀ suite np q0 hds2 l2 hc hsu r ih =>
        intro w
        obtain ⟨b, hb1, yes, no⟩ := w
        refine wpAny_handleBy_cons (codeAny_handlers_test ?_) (by intro q; cases q)
        have LT : PySem.W.Looks (model X.prog X.w) h3 (typeOf (.ref a)) cl := fun A Q E s k q => wpAny_typeOf_ref (k _ _ he3) (by rw [hz3.1]; exact q)
        have LM := PySem.W.exm_one (M := model X.prog X.w) (J3.kIn) LT hb1
        have test : ∀ {Q : Value → Shared → Prop} {E : Value → Shared → Prop}, Q c { s' with heap := h3 } → wpAny (model X.prog X.w) (X.A.mark (some (.ref a))) (eval (.Name x np) X.env) Q E { s' with heap := h3 } := fun {Q E} q => by
          rcases hc with ⟨hg, hdbg, hm | ⟨hm, hv, hnn⟩⟩
          · exact ld_glob (X := X.suite a ((a, oe3) :: (X.pn ++ pins))) S3 hg hm q hdbg
          · exact ld_blt (X := X.suite a ((a, oe3) :: (X.pn ++ pins))) S3 hg hm hv q hnn hdbg
        refine test (LM.here ?_)
        cases b with
        | true =>
          refine codeAny_handlers_suite_as (HandSPX.lands_againZ fl3 fun h4 fl4 up4 => ?_)
          have J4 : Inv X pins u' G' { s' with heap := h4 } := J.landed nb fl4.1 ((up.trans up3).trans up4) os ag
          obtain ⟨oe4, vs4, he4, hz4, hd4⟩ := fl4.there
          have S4 := J4.suite he4 hd4 na nL nF
          refine store_ok (X := X.suite a ((a, oe4) :: (X.pn ++ pins))) (v := .ref a) S4 nd hi lc rfl (fun s5 S5 => ?_) (.inr hln)
          refine wpAny_mono ((hsu a oe4 cl dd (X.pn ++ pins) hz4 ⟨_, hd4⟩).run [] s5 _ G' _ S5 (yes rfl a na)) (fun f s6 hsp => ?_) (fun _ _ z => False.elim z)
          have close : ∀ {u6 : L2.St} {G6 : Hp} {Q : Shared → Prop}, Inv (X.suite a ((a, oe4) :: (X.pn ++ pins))) [] u6 G6 s6 → (∀ s7, Inv X pins (u6.set i none) G6 s7 → Q s7) →
              wpAny (model X.prog X.w) X.A (do bindName X.env n .none; unbindBehindTheSuite X.env n q0) (fun _ s7 => Q s7) X.xe s6 := fun {u6 G6 Q} S6 hq => gone_ok (S6.unsuite ok) nd hi hln hq
          cases f with
          | next => exact let ⟨u6, G6, S6, q6⟩ := hsp; close S6 fun s7 J7 => ⟨_, _, J7, q6⟩
          | brk => exact let ⟨u6, G6, S6, q6⟩ := hsp; close S6 fun s7 J7 => ⟨_, _, J7, q6⟩
          | cont => exact let ⟨u6, G6, S6, q6⟩ := hsp; close S6 fun s7 J7 => ⟨_, _, J7, q6⟩
          | ret z => exact let ⟨v6, u6, G6, S6, r6, q6⟩ := hsp; close S6 fun s7 J7 => ⟨_, _, _, J7, r6, q6⟩
        | false =>
          show wpAny _ X.A (handleBy (.ref a) X.env hds2) _ _ _
          exact ih (no rfl)
    exact go hh w
end
end K1
set_option Elab.async false
set_option linter.all false
set_option maxRecDepth 100000
/-! repr of plain values; what is told of a making -/
namespace L2
open PySem PySem.Spec PyProof.Rows
def reprV : V → Str
  | .non => "None"
  | .bl b => if b then "True" else "False"
  | .int i => toString i
  | .str z => PySem.reprText z
  | _ => ""
def reprOk : V → Prop
  | .non => True
  | .bl _ => True
  | .int i => i.natAbs.log2 < 1920
  | .str z => (PySem.reprText z).length ≤ sizeLine
  | _ => False
def rRepr : List V → Hp → VK → Prop := fun xs H Q => ∃ v, xs = [v] ∧ reprOk v ∧ Q (.str (reprV v)) H
theorem call_repr_any {X : Cx} : CallR X (.builtin "repr") rRepr := by
  intro pins s σ H xs us Q I r h
  obtain ⟨v, rfl, ok, q⟩ := h
  cases v with
  | non =>
    obtain ⟨u, rfl, rv⟩ := vals1 r
    obtain rfl : u = Value.none := rv
    exact PySem.P.repr_of_none ⟨.str _, H, I.tok _, ⟨_, rfl⟩, q⟩
  | bl b =>
    obtain ⟨u, rfl, rv⟩ := vals1 r
    obtain rfl : u = Value.bool b := rv
    exact PySem.P.repr_of_bool ⟨.str _, H, I.tok _, ⟨_, rfl⟩, q⟩
  | int i =>
    obtain ⟨u, rfl, t, rfl⟩ := vals1 r
    exact PySem.P.repr_of_int ok ⟨.str _, H, I.tok _, ⟨_, rfl⟩, q⟩
  | str z =>
    obtain ⟨u, rfl, t, rfl⟩ := vals1 r
    exact PySem.P.repr_of_str ⟨.str _, H, I.tok _, ⟨_, rfl⟩, q⟩ ok
  | _ => exact ok.elim
end L2
set_option Elab.async false
set_option linter.all false
set_option maxRecDepth 100000
/-! what counts as an integer, an index, a word, a tell: of any value -/
namespace K1
open PySem L2
inductive Th (K : PySem.W.Frag) (H : Hp) : V → String → Prop
  | non : Th K H .non "NoneType"
  | bl (b : Bool) : Th K H (.bl b) "bool"
  | int (i : Int) : Th K H (.int i) "int"
  | str (z : Str) (hl : z.length ≤ 1000) : Th K H (.str z) "str"
  | tup {a : Addr} {xs : List V} (e : H a = some (.tup xs)) : Th K H (.ref a) "tuple"
  | lst {a : Addr} {xs : List V} (e : H a = some (.lst xs)) : Th K H (.ref a) "list"
  | dic {a : Addr} {kv : List (Key × V)} (e : H a = some (.dK kv)) : Th K H (.ref a) "dict"
theorem Th.ty {K : PySem.W.Frag} {H : Hp} {v : V} {t : String} (h : Th K H v t) : TyX K H v (.type t) := by
  cases h with
  | non => exact .base .non
  | bl b => exact .base (.bl b)
  | int i => exact .base (.int i)
  | str z => exact .base (.str z)
  | tup e => exact .base (.tup e)
  | lst e => exact .base (.lst e)
  | dic e => exact .base (.dK e)
theorem Th.same {K : PySem.W.Frag} {H H' : Hp} {v : V} {t : String} (h : Th K H v t) (s : Same H H') : Th K H' v t := by
  cases h with
  | non => exact .non
  | bl b => exact .bl b
  | int i => exact .int i
  | str z hl => exact .str z hl
  | tup e => exact .tup (s _ _ e)
  | lst e => exact .lst (s _ _ e)
  | dic e => exact .dic (s _ _ e)
def isStr : V → Bool | .str _ => true | _ => false
def isInt : V → Bool | .int _ => true | .bl _ => true | _ => false
def isBl : V → Bool | .bl _ => true | _ => false
def intB : V → Bool | .int _ => true | _ => false
def ixB (v : V) (m : Int) : Bool := match v with | .int i => decide (0 ≤ i) && decide (i < m) | _ => false
def wordL : List Nat → Bool
  | [] => false
  | c :: r => decide ((c :: r).length ≤ 12) && (decide (c ∈ LE) && (c :: r).all fun x => decide (x ∈ AL))
def wordB : V → Bool | .str z => wordL z.cps.toList | _ => false
def tellL (l : List Nat) : Bool := decide (1 ≤ l.length) && (decide (l.length ≤ 60) && l.all fun x => decide (x ∈ TL'))
def tellB : V → Bool | .str z => tellL z.cps.toList | _ => false
section
variable {K : PySem.W.Frag} {H : Hp} {v : V} {t : String}
theorem Th.kStr (h : Th K H v t) : PySem.W.kitOne K (.type t) (.type "str") = some (isStr v) := by cases h <;> first | exact kit_ty (r := true) (by decide +kernel) | exact kit_ty (r := false) (by decide +kernel)
theorem Th.kInt (h : Th K H v t) : PySem.W.kitOne K (.type t) (.type "int") = some (isInt v) := by cases h <;> first | exact kit_ty (r := true) (by decide +kernel) | exact kit_ty (r := false) (by decide +kernel)
theorem Th.kBl (h : Th K H v t) : PySem.W.kitOne K (.type t) (.type "bool") = some (isBl v) := by cases h <;> first | exact kit_ty (r := true) (by decide +kernel) | exact kit_ty (r := false) (by decide +kernel)
end
def spInt (K : PySem.W.Frag) : Sp := fun vs H Q _ => ∃ v t, vs = [v] ∧ Th K H v t ∧ Q (.bl (intB v)) H
def spIx (K : PySem.W.Frag) : Sp := fun vs H Q _ => ∃ v t m, vs = [v, .int m] ∧ Th K H v t ∧ Q (.bl (ixB v m)) H
def spWord (K : PySem.W.Frag) : Sp := fun vs H Q _ => ∃ v t, vs = [v] ∧ Th K H v t ∧ ∀ H', Same H H' → Q (.bl (wordB v)) H'
def spTell (K : PySem.W.Frag) : Sp := fun vs H Q _ => ∃ v t, vs = [v] ∧ Th K H v t ∧ ∀ H', Same H H' → Q (.bl (tellB v)) H'
section
variable {P : Program} {w : World} {K : PySem.W.Frag} {mg : Str → Option Value} {base : Heap}
theorem g_isint {f : Addr} {fd : FuncData} (D : Df K mg "is_integer" sIsInt ["value"] f fd) (T : Bt2 mg) : FnOk P w K mg base CX0 1 f fd ["value"] (spInt K) := by
  refine D.F.ok scIsInt (fun vs H Q E h => ?_) (fun cdv A outer s H vs Q E hr h => ?_)
  · obtain ⟨v, t, rfl, _⟩ := h
    rfl
  · obtain ⟨v, t, rfl, th, k⟩ := h
    refine ⟨_, pss_one (ps_ret (pe_and (pe_callB call_isi (by rfl) T.isinstance PyProof.Rows.boot_isinstance (pa_cons (pv 0) (pa_cons (pe_bltn (v := .ty "int") (by rfl) T.int PyProof.Rows.boot_int rfl) pa_nil)))
      (pe_one (pe_not (pe_callB call_isi (by rfl) T.isinstance PyProof.Rows.boot_isinstance (pa_cons (pv 0) (pa_cons (pe_bltn (v := .ty "bool") (by rfl) T.bool PyProof.Rows.boot_bool rfl) pa_nil))))))), ?_⟩
    refine ⟨_, rfl, _, _, _, _, isInt v, rfl, .ty "int", th.ty, th.kInt, isInt v, rfl, ?_⟩
    cases v with
    | int i => exact ⟨_, rfl, _, _, _, _, false, rfl, .ty "bool", th.ty, th.kBl, false, rfl, k⟩
    | bl b => exact ⟨_, rfl, _, _, _, _, true, rfl, .ty "bool", th.ty, th.kBl, true, rfl, k⟩
    | _ => exact k
theorem g_isindex {f fI : Addr} {fd fdI : FuncData} (D : Df K mg "is_index" sIsIndex ["value", "many"] f fd) (DI : Df K mg "is_integer" sIsInt ["value"] fI fdI) (T : Bt2 mg) : FnOk P w K mg base CX0 2 f fd ["value", "many"] (spIx K) := by
  have GI : FnOk P w K mg base CX0 1 fI fdI ["value"] (spInt K) := g_isint DI T
  refine D.F.ok scIsIndex (fun vs H Q E h => ?_) (fun cdv A outer s H vs Q E hr h => ?_)
  · obtain ⟨v, t, m, rfl, _⟩ := h
    rfl
  · obtain ⟨v, t, m, rfl, th, k⟩ := h
    refine ⟨_, pss_one (ps_ret (pe_and (pe_call GI hr rfl DI.g DI.F.kp DI.b .nil pass0 (pa_cons (pv 0) pa_nil)) (pe_one (pe_chain op_le op_lt pe_int (pv 0) (pv 1))))), ?_⟩
    refine ⟨_, rfl, v, t, rfl, th, intB v, rfl, ?_⟩
    cases v with
    | int i =>
      refine ⟨_, rfl, _, _, rfl, rfl, _, rfl, ?_⟩
      refine ite2 (fun h => ?_) (fun h => ?_)
      · refine ⟨_, rfl, _, _, rfl, rfl, ?_⟩
        have e : ixB (.int i) m = decide (i < m) := by
          show (decide (0 ≤ i) && decide (i < m)) = _
          rw [h]; rfl
        rw [e] at k
        exact k
      · have e : ixB (.int i) m = false := by
          show (decide (0 ≤ i) && decide (i < m)) = _
          rw [Bool.eq_false_iff.mpr h]; rfl
        rw [e] at k
        exact k
    | _ => exact k
end
end K1
set_option Elab.async false
set_option linter.all false
set_option maxRecDepth 100000
namespace K1
open PySem L2
/-- the signs of z held against a row of signs, one after the other -/
theorem all_signs {K : PySem.W.Frag} (A : List Nat) (l : List Nat) : ((l.map fun x => decide (x ∈ A)).all id) = l.all fun x => decide (x ∈ A) := by
  rw [List.all_map]; rfl
theorem take_snoc {l : List Nat} {i : Nat} {c : Nat} (h : l[i]? = some c) : l.take (i + 1) = l.take i ++ [c] := by
  rw [List.take_add_one, h]; rfl
section
variable {P : Program} {w : World} {K : PySem.W.Frag} {mg : Str → Option Value} {base : Heap}
theorem g_isword {f : Addr} {fd : FuncData} (D : Df K mg "is_word" sIsWord ["value"] f fd) (T : Bt2 mg) : FnOk P w K mg base CX0 1 f fd ["value"] (spWord K) := by
  refine D.F.ok scIsWord (fun vs H Q E h => ?_) (fun cdv A outer s H vs Q E hr h => ?_)
  · obtain ⟨v, t, rfl, _⟩ := h
    rfl
  · obtain ⟨v, t, rfl, th, k⟩ := h
    obtain ⟨tL, gL⟩ := T.LETTERS
    obtain ⟨tD, gD⟩ := T.DIGITS
    obtain ⟨tW, gW⟩ := T.LONGEST_WORD
    refine ⟨_, pss_cons (ps_if (PW.pt (pw_or (pt_not (pt_val (pe_callB call_isi (by rfl) T.isinstance PyProof.Rows.boot_isinstance (pa_cons (pv 0) (pa_cons (pe_bltn (v := .ty "str") (by rfl) T.str PyProof.Rows.boot_str rfl) pa_nil)))))
          (pw_or1 (pt_not (pt_chain op_le op_le pe_int (pe_callB call_len_str (by rfl) T.len PySem.boot_len (pa_cons (pv 0) pa_nil)) (pe_glob (v := .int 12) rfl gW ⟨_, rfl⟩))))))
        (pss_one (ps_ret pe_bl)) pss_nil)
      (pss_one (ps_ret (pe_and (pe_cmpR op_in_sign (pe_ix ix_str (pv 0) pe_int (fun _ _ => rfl)) (pe_glob (v := .str zLE) rfl gL ⟨_, rfl⟩) rfl)
        (pe_one (pe_callB (cr_all rfl) (by rfl) T.all PyProof.Rows.boot_all (pa_cons (pe_lc (own := [("sign", 1)]) (g := gName 1) (by rfl) scIsWord.nd (pi_str (pv 0))
          (blkOk_by (own := [("sign", 1)]) (N := ["value", "sign"]) (sc := defScope sIsWord) (by decide +kernel)) (fun _ _ _ _ _ => pg_name (i := 1) scIsWord.nd rfl (Or.inl rfl)) (fun _ _ _ _ _ => pts_nil)
          (fun _ _ _ _ _ => pe_cmpR op_in_sign (pv 1) (pe_op op_add_str (pe_glob (v := .str zLE) rfl gL ⟨_, rfl⟩) (pe_glob (v := .str zDG) rfl gD ⟨_, rfl⟩)) rfl)) pa_nil)))))), ?_⟩
    refine ⟨_, rfl, _, _, _, _, isStr v, rfl, .ty "str", th.ty, th.kStr, isStr v, rfl, ?_⟩
    cases th with
    | str z hl1 =>
      refine iteF ?_
      have hzl : z.length ≤ sizeLine := Nat.le_trans hl1 (by decide)
      have elen : z.length = z.cps.toList.length := len_tl z
      refine ⟨_, rfl, _, rfl, hzl, _, _, rfl, rfl, _, rfl, ?_⟩
      refine ite2 (fun h1 => ?_) (fun h1 => ?_)
      · have h1' : (1 : Int) ≤ (z.length : Int) := of_decide_eq_true h1
        refine ⟨_, _, rfl, rfl, _, rfl, ?_⟩
        refine ite2 (fun h2 => ?_) (fun h2 => ?_)
        · have e : wordB (.str z) = false := by
            have hn : ¬ z.cps.toList.length ≤ 12 := by
              intro hc
              have : decide ((z.length : Int) ≤ 12) = true := decide_eq_true (by omega)
              rw [this] at h2; exact absurd h2 (by decide)
            show wordL z.cps.toList = false
            cases hz : z.cps.toList with
            | nil => rfl
            | cons c r => rw [hz] at hn; show (decide _ && _) = false; rw [decide_eq_false hn]; rfl
          have := k H (Same.refl H)
          rw [e] at this
          exact this
        · have h12 : z.cps.toList.length ≤ 12 := by
            have : decide ((z.length : Int) ≤ 12) = true := by
              cases hd : decide ((z.length : Int) ≤ 12) with
              | true => rfl
              | false => rw [hd] at h2; exact absurd rfl h2
            have := of_decide_eq_true this
            omega
          obtain ⟨c, r, ez⟩ : ∃ c r, z.cps.toList = c :: r := by
            cases hz : z.cps.toList with
            | nil => rw [hz] at elen; simp at elen; omega
            | cons c r => exact ⟨c, r, rfl⟩
          have ew : wordB (.str z) = (decide (c ∈ LE) && z.cps.toList.all fun x => decide (x ∈ AL)) := by
            show wordL z.cps.toList = _
            rw [ez]
            show (decide _ && _) = _
            rw [ez] at h12
            rw [decide_eq_true h12]; rfl
          refine ⟨_, rfl, z, _, c, rfl, rfl, hzl, ?_, c, zLE, rfl, rfl, decide (c ∈ LE), rfl, ?_⟩
          · rw [ez]; exact atI_nat (j := 0) rfl
          refine ite2 (fun hc => ?_) (fun hc => ?_)
          · refine ⟨_, rfl, z, rfl, fun D hD => ?_⟩
            refine lc_it (walk_str (z := z)) (fun i H' => Same H H' ∧ H' D = some (.lst ((((z.cps.toList.take i).map fun x => decide (x ∈ AL))).map V.bl))) ?_ ?_ ?_ ?_
            · exact ⟨same_upd hD, upd_same⟩
            · exact fun _ _ _ _ => trivial
            · rintro i x H1 H2 hi ⟨sm, hD1⟩ ⟨rfl, c', hc', rfl⟩
              have hi' : z.cps.toList[i]? = some c' := by simpa using hc'
              refine ⟨rfl, _, rfl, _, _, rfl, rfl, by decide +kernel, c', zLE ++ zDG, rfl, rfl, _, hD1, ?_, ?_, ?_⟩
              · rw [List.length_map, List.length_map, List.length_take]; exact small1000 (by omega)
              · exact fun b o e => by rw [upd_ne (ne_of_none e hD)]; exact sm b o e
              · rw [upd_same, take_snoc hi']
                simp [AL_eq]
            · rintro H1 ⟨sm, hD1⟩
              refine ⟨D, _, rfl, SqL.of hD1, ?_⟩
              have e : ((z.cps.toList.take z.cps.size).map fun x => decide (x ∈ AL)).all id = wordB (.str z) := by
                have hs : z.cps.size = z.cps.toList.length := by simp
                rw [hs, List.take_length, all_signs (K := K), ew, hc]; rfl
              rw [e]
              exact k H1 sm
          · have e : wordB (.str z) = decide (c ∈ LE) := by
              rw [ew, Bool.eq_false_iff.mpr hc]; rfl
            have := k H (Same.refl H)
            rw [e] at this
            have e2 := Bool.eq_false_iff.mpr hc
            rw [e2] at this
            exact this
      · have e : wordB (.str z) = false := by
          have hn : z.cps.toList = [] := by
            cases hz : z.cps.toList with
            | nil => rfl
            | cons c r => exact absurd (decide_eq_true (by rw [elen, hz]; simp; omega)) h1
          show wordL z.cps.toList = false
          rw [hn]; rfl
        have := k H (Same.refl H)
        rw [e] at this
        exact ⟨_, rfl, this⟩
    | _ => exact k H (Same.refl H)
end
end K1
set_option Elab.async false
set_option linter.all false
set_option maxRecDepth 100000
set_option maxHeartbeats 2000000
/-! a lambda handed to a def that calls it in a try: what is raised is told of the very slots -/
namespace K1
open PySem PySem.Spec PyProof.Rows L2 LamX
/-- a def whose code object is known -/
structure FunC (K : PySem.W.Frag) (x qual : Str) (st : Stmt) (f : Addr) (fd : FuncData) (c : Addr) : Prop where
  ex : ∃ (oc : Value) (od : Option Addr) (kV doc pm : Value) (an : Option Addr) (ct : Value) (osl : Array (Option Value)),
    fd = PySem.W.fnOf x qual (defArgs st) (defBody st) (defScope st) .none kV doc pm an (.ref c) ct ∧ K.lookup f = some ⟨oc, od, .func fd, osl⟩ ∧ PySem.W.codeIn K (.ref c) qual = true
  kp : PySem.W.keepIn K (.ref f) = true
theorem FunC.toFun {K : PySem.W.Frag} {x qual : Str} {st : Stmt} {f c : Addr} {fd : FuncData} (F : FunC K x qual st f fd c) : L2.Fun K x qual st f fd :=
  let ⟨oc, od, kV, doc, pm, an, ct, osl, e, l, cc⟩ := F.ex
  ⟨⟨oc, od, kV, doc, pm, an, _, ct, osl, e, l, cc⟩, F.kp⟩
section
variable {P : Program} {w : World} {K : PySem.W.Frag} {mg : Str → Option Value} {base : Heap}
theorem FunC.ok {x qual : Str} {st : Stmt} {f c : Addr} {fd : FuncData} {N ps : List Str} {k : Nat} {sp : Sp} (F : FunC K x qual st f fd c) (S : FnScope N ps (defScope st)) (len : ∀ vs H Q E, sp vs H Q E → vs.length = ps.length)
    (body : ∀ (A : Around) (outer : List Env) (s : Shared) (H : Hp) (vs : List V) (Q : VK) (E : XK), Room k (A.deeper (envOfC qual (defScope st) s.heap.objs.size f (.ref c))) → sp vs H Q E →
      ∃ t, PSs (cxOf L2.CX0 P w K mg base N qual (defScope st) f (.ref c) A outer s H E).nox (defBody st) t ∧ t { nx := fun _ H' => Q .non H', rt := Q } (L2.start N vs) H) : FnOk P w K mg base L2.CX0 (k + 1) f fd ps sp := by
  obtain ⟨oc, od, kV, doc, pm, an, ct, osl, rfl, l, cc⟩ := F.ex
  exact fn_of l cc S len fun A outer s H vs Q E hr h => (body A outer s H vs Q E hr h).imp fun t ht => ⟨ht.1.nox, ht.2⟩
end
end K1
namespace LamX
open PySem L2 K1
/-! what is kept when a lambda is made -/
theorem ExtN.tup {H H' : Hp} (e : ExtN H H') {a : Addr} {xs : List V} (h : H a = some (.tup xs)) : H' a = some (.tup xs) := e _ _ h fun ps => by intro z; cases z
theorem ExtN.lst {H H' : Hp} (e : ExtN H H') {a : Addr} {xs : List V} (h : H a = some (.lst xs)) : H' a = some (.lst xs) := e _ _ h fun ps => by intro z; cases z
theorem ExtN.ins {H H' : Hp} (e : ExtN H H') {a C dx : Addr} {fs : List (Str × V)} (h : H a = some (.ins C dx fs)) : H' a = some (.ins C dx fs) := e _ _ h fun ps => by intro z; cases z
theorem ExtN.dk {H H' : Hp} (e : ExtN H H') {a : Addr} {kv : List (Key × V)} (h : H a = some (.dK kv)) : H' a = some (.dK kv) := e _ _ h fun ps => by intro z; cases z
theorem ExtN.seqT {K : PySem.W.Frag} {H H' : Hp} {a : Addr} {xs : List V} (e : ExtN H H') (h : SqT K H a xs) : SqT K H' a xs := by
  rcases h with (h | ⟨o, h⟩) | h
  · exact .inl (.inl (e.tup h))
  · exact .inl (.inr ⟨o, e _ _ h fun ps => by intro z; cases z⟩)
  · exact .inr h
theorem ExtN.seqL {K : PySem.W.Frag} {H H' : Hp} {a : Addr} {xs : List V} (e : ExtN H H') (h : SqL K H a xs) : SqL K H' a xs := by
  rcases h with (h | ⟨o, h⟩) | h
  · exact .inl (.inl (e.lst h))
  · exact .inl (.inr ⟨o, e _ _ h fun ps => by intro z; cases z⟩)
  · exact .inr h
theorem ExtN.pen {H H' : Hp} (e : ExtN H H') {d c : Addr} {n : Nat} (h : PenAt H d c n) : PenAt H' d c n := by
  obtain ⟨ns, a, l, h1, h2, h3⟩ := h
  exact ⟨ns, a, l, e.dk h1, e.lst h2, h3⟩
end LamX
namespace K1
open PySem PySem.Spec PyProof.Rows L2 LamX
/-- all but d and the tables is kept -/
def KeptN (d : Addr) (H H' : Hp) : Prop := ∀ b o, H b = some o → b ≠ d → (∀ ps, o ≠ .tbl ps) → H' b = some o
theorem KeptN.refl (d : Addr) (H : Hp) : KeptN d H H := fun _ _ e _ _ => e
theorem KeptN.trans {d : Addr} {H H1 H2 : Hp} (a : KeptN d H H1) (b : KeptN d H1 H2) : KeptN d H H2 := fun c o e n m => b c o (a c o e n m) n m
theorem KeptN.seqL {K : PySem.W.Frag} {d : Addr} {H H' : Hp} {a : Addr} {xs : List V} (e : KeptN d H H') (n : a ≠ d) (h : SqL K H a xs) : SqL K H' a xs := by
  rcases h with (h | ⟨o, h⟩) | h
  · exact .inl (.inl (e _ _ h n fun ps => by intro z; cases z))
  · exact .inl (.inr ⟨o, e _ _ h n fun ps => by intro z; cases z⟩)
  · exact .inr h
theorem KeptN.seqT {K : PySem.W.Frag} {d : Addr} {H H' : Hp} {a : Addr} {xs : List V} (e : KeptN d H H') (n : a ≠ d) (h : SqT K H a xs) : SqT K H' a xs := by
  rcases h with (h | ⟨o, h⟩) | h
  · exact .inl (.inl (e _ _ h n fun ps => by intro z; cases z))
  · exact .inl (.inr ⟨o, e _ _ h n fun ps => by intro z; cases z⟩)
  · exact .inr h
theorem KeptN.upd {d D : Addr} {H0 H : Hp} {o : HO} (k : KeptN d H0 H) (h : H0 D = none) : KeptN d H0 (upd H D o) := fun b u e nb m => by
  rw [upd_ne (ne_of_none e h)]; exact k b u e nb m
theorem KeptN.tup {d : Addr} {H H' : Hp} {a : Addr} {xs : List V} (e : KeptN d H H') (n : a ≠ d) (h : H a = some (.tup xs)) : H' a = some (.tup xs) := e _ _ h n fun ps => by intro z; cases z
theorem KeptN.lst {d : Addr} {H H' : Hp} {a : Addr} {xs : List V} (e : KeptN d H H') (n : a ≠ d) (h : H a = some (.lst xs)) : H' a = some (.lst xs) := e _ _ h n fun ps => by intro z; cases z
theorem KeptN.ins {d : Addr} {H H' : Hp} {a C dx : Addr} {fs : List (Str × V)} (e : KeptN d H H') (n : a ≠ d) (h : H a = some (.ins C dx fs)) : H' a = some (.ins C dx fs) := e _ _ h n fun ps => by intro z; cases z
theorem Kept.n {d : Addr} {H H' : Hp} (k : Kept d H H') : KeptN d H H' := fun b o e n _ => k b o e n
end K1
namespace LamX
open PySem L2 K1
theorem ExtN.n {d : Addr} {H H' : Hp} (k : ExtN H H') : KeptN d H H' := fun b o e _ m => k b o e m
theorem Tabs.kept {T : List (Addr × Str)} {d : Addr} {kv : List (Key × V)} {H H' : Hp} (t : Tabs T H) (hd : H d = some (.dK kv)) (k : Kept d H H') : Tabs T H' := fun p hp => by
  obtain ⟨ps, h1, h2, h3⟩ := t p hp
  refine ⟨ps, k _ _ h1 (ne_of h1 hd (by intro z; cases z)), h2, fun pos cv hc => ?_⟩
  obtain ⟨c, e1, e2⟩ := h3 pos cv hc
  exact ⟨c, e1, k _ _ e2 (ne_of e2 hd (by unfold CodeO; intro z; cases z))⟩
theorem Tabs.same {T : List (Addr × Str)} {H H' : Hp} (t : Tabs T H) (s : L2.Same H H') : Tabs T H' := t.ext s
theorem Tabs.updL {T : List (Addr × Str)} {H : Hp} {L : Addr} {xs ys : List V} (t : Tabs T H) (h : H L = some (.lst xs)) : Tabs T (upd H L (.lst ys)) := fun p hp => by
  obtain ⟨ps, h1, h2, h3⟩ := t p hp
  refine ⟨ps, by rw [upd_ne (ne_of h1 h (by intro z; cases z))]; exact h1, h2, fun pos cv hc => ?_⟩
  obtain ⟨c, e1, e2⟩ := h3 pos cv hc
  exact ⟨c, e1, by rw [upd_ne (ne_of e2 h (by unfold CodeO; intro z; cases z))]; exact e2⟩
theorem Tabs.pen {T : List (Addr × Str)} {d c : Addr} {n : Nat} {H H' : Hp} (t : Tabs T H) (p : PenAt H d c n) (k : Kept d H H') : Tabs T H' := by
  obtain ⟨ns, x, l, hd, _⟩ := p
  exact t.kept hd k
end LamX
namespace K1
open PySem PySem.Spec PyProof.Rows L2 LamX
section
variable {X : Cx} {pins : List (Addr × Obj)} {σ : L2.St} {H : Hp} {s : Shared}
/-- the call of the handed lambda; what it raises is taken at the slots as they are -/
theorem pe_actS {GX : CXT} {GE : XK} {GN : List Str} {gq : Str} {gs : Scope} {g f c' : Addr} {gcd pm ctv : Value} {params : Arguments} {body : Expr} {scope : Scope} {k i : Nat} {a : Str} {pn : List (Addr × Obj)} {xe : Value → Shared → Prop} {W : WX} {tb : XK → TE} {p1 p2 : Pos}
    (I : Inv X pins σ H s) (L : LamS X.env.scope scope) (hf : s.heap.get? f = some (PySem.W.kla_obj "<lambda>" (X.env.qual ++ "<lambda>") params body scope (cloFrom X.env.cells scope.names []) pm c' ctv)) (hfn : H f = none) (hfr : f ∉ frs X.stack)
    (bind0 : bindArgs (PySem.W.kla_fn "<lambda>" (X.env.qual ++ "<lambda>") params body scope (cloFrom X.env.cells scope.names []) pm (.ref c') ctv) ⟨[], []⟩ = pure [])
    (tk : Takes ((cxOf GX X.prog X.w X.K X.mg X.base GN gq gs g gcd X.A X.stack s H GE).tr pn xe) W) (hr : Room (k + 1) (X.A.deeper (envOfC gq gs s.heap.objs.size g gcd)))
    (inner : ∀ (A : Around) (outer : List Env) (s2 : Shared) (H2 : Hp) (E : XK), Room k (A.deeper (lamEnv X scope s2.heap.objs.size f c')) → PE (lamCx X A outer s2 H2 E scope f c') body (tb E))
    (hN : GN[i]? = some a) (hv : Vis gs a) (hd : (a == ("__debug__" : Str)) = false := by decide) (hcd : (a == ("__classdict__" : Str)) = false := by decide) :
    PE ((cxOf GX X.prog X.w X.K X.mg X.base GN gq gs g gcd X.A X.stack s H GE).tr pn xe) (.Call (.Name a p1) [] [] p2)
      (fun τ G Q => τ[i]? = some (some (.ref f)) ∧ G c' = some (CodeO c' (X.env.qual ++ "<lambda>")) ∧ tb (fun cls dd G' => W cls dd τ G') σ G Q) := by
  constructor
  intro pz sz τ G Q J ⟨at_, co, go⟩
  refine wpAny_Call_Name_kw (thn ((pe_var (pos := p1) (i := i) hN hv hd hcd).run pz sz τ G (fun v G1 => v = .ref f ∧ G1 = G) J ⟨.ref f, at_, rfl, rfl⟩) ?_)
  rintro u s1 ⟨v, G1, J1, rel, rfl, rfl⟩
  cases (show u = Value.ref f from rel)
  have held : s1.heap.get? f = some (PySem.W.kla_obj "<lambda>" (X.env.qual ++ "<lambda>") params body scope (cloFrom X.env.cells scope.names []) pm c' ctv) :=
    J1.base.keep f _ hf hfn hfr fun z => absurd (show f ∈ ([] : List Addr) from z) (by simp)
  refine PySem.W.callWith_F0 ⟨_, _, _, _, held⟩ ?_
  have base : Un (frs X.stack) [] H G1 s.heap s1.heap := J1.base
  obtain ⟨⟨oc, vs, t, k1, k2, k3⟩, -, -⟩ := J1.hok c' _ co
  have ran : codeAny (model X.prog X.w) (X.A.deeper (envOfC gq gs s.heap.objs.size g gcd)) (.call (.ref f) ⟨[], []⟩)
      (CR (L2.CX X.prog X.w) (envOfC gq gs s.heap.objs.size g gcd :: X.stack) X.prog X.w G1 s1 Q (fun cls dd G' => W cls dd τ G')) s1 := by
    refine PySem.W.kla_callFunE hr.depth held rfl L.co L.gen rfl ⟨c', oc, vs, t, rfl, k1, k2, k3⟩ ?_
    rw [bind0]
    refine wpAny_pure (wpAny_newFunctionEnv (fun y hy => (L.own y hy).2) (fun y hy => absurd hy (by simp)) (fun h₁ ns bt => ?_) L.kind)
    have up : ∀ b o, s1.heap.get? b = some o → h₁.get? b = some o := fun b o e =>
      bt.extBut b o (Nat.ne_of_lt (Heap.lt_size e)) (Heap.get?_push_of_some _ e)
    refine ⟨J1.nolimit.fresh _ bt, PySem.W.kla_codeExpr ?_⟩
    have start : Inv (lamCx X (X.A.deeper (envOfC gq gs s.heap.objs.size g gcd)) (envOfC gq gs s.heap.objs.size g gcd :: X.stack) s1 G1 (fun cls dd G' => W cls dd τ G') scope f c') [] σ G1
        { s1 with heap := h₁, toks := s1.toks + ([] : List (Str × Value)).length } := lam_start2 I L J1.env0 hr.hd base ns up
    refine wpAny_mono ((inner _ _ s1 G1 _ (hr.deeper _)).run [] _ _ G1 Q start go) ?_ fun e s' q => q
    rintro v s' ⟨w', G2, J2, rv, q⟩
    exact ⟨w', G2, J2.os, J2.bare, J2.base, J2.hok, rv, q⟩
  refine wpAny_call (codeAny_mono ran fun r s' q => ?_)
  match r, q with
  | .error e, q => exact passAt tk τ pz G1 s1 e s' J1 q
  | .ok (.ret u), q => exact J1.after q
end
/-- what the def g, which calls what it got, makes of the lambda's reading -/
def Gives (X : Cx) (GN : List Str) (x : Str) (gs : Scope) (g : Addr) (gcd : Value) (gb : List Stmt) (a q : Str) (TT : (XK → Hp → VK → Prop) → Hp → VK → Prop) : Prop :=
  ∀ (f c' : Addr) (s : Shared) (H : Hp) (Q : VK) (tl : XK → Hp → VK → Prop),
    (∀ (W : WX) (pn : List (Addr × Obj)) (xe : Value → Shared → Prop) (p1 p2 : Pos), Takes ((cxOf L2.CX0 X.prog X.w X.K X.mg X.base GN x gs g gcd X.A X.stack s H L2.E0).tr pn xe) W →
      PE ((cxOf L2.CX0 X.prog X.w X.K X.mg X.base GN x gs g gcd X.A X.stack s H L2.E0).tr pn xe) (.Call (.Name a p1) [] [] p2) (fun τ G Q => τ[0]? = some (some (.ref f)) ∧ G c' = some (CodeO c' q) ∧ tl (fun cls dd G' => W cls dd τ G') G Q)) →
    H c' = some (CodeO c' q) → TT tl H Q → ∃ t, PSs (cxOf L2.CX0 X.prog X.w X.K X.mg X.base GN x gs g gcd X.A X.stack s H L2.E0).nox gb t ∧ t { nx := fun _ G => Q .non G, rt := Q } (L2.start GN [.ref f]) H
section
variable {X : Cx}
/-- g(lambda: body) -/
theorem pe_lamS {T : List (Addr × Str)} {TT : (XK → Hp → VK → Prop) → Hp → VK → Prop} {x a : Str} {g c P : Addr} {k : Nat} {st : Stmt} {fd : FuncData} {GN : List Str} {params : Arguments} {body : Expr} {scope : Scope} {t : XK → TE} {p lp pos : Pos}
    (D : Df X.K X.mg x st [a] g fd) (S : FnScope GN [a] (defScope st)) (at0 : GN[0]? = some a) (va : Vis (defScope st) a) (gl : Gl X x)
    (gives : ∀ gcd, Gives X GN x (defScope st) g gcd (defBody st) a (X.env.qual ++ "<lambda>") TT) (B : TabB X.base X.mg c P) (code : X.env.code = .ref c) (mem : (P, X.env.qual ++ "<lambda>") ∈ T) (uni : ∀ p ∈ T, p.1 = P → p.2 = X.env.qual ++ "<lambda>")
    (hr : Room (k + 2) X.A) (L : LamS X.env.scope scope) (inner : ∀ (A : Around) (outer : List Env) (s2 : Shared) (H2 : Hp) (E : XK) (f c' : Addr), Room k (A.deeper (lamEnv X scope s2.heap.objs.size f c')) → PE (lamCx X A outer s2 H2 E scope f c') body (t E))
    (d0 : defaultsOf params X.env = ([], []) := by rfl) (bind0 : ∀ (q : Str) (cl : List (Str × Addr)) (pm cv ctv : Value), bindArgs (PySem.W.kla_fn "<lambda>" q params body scope cl pm cv ctv) ⟨[], []⟩ = pure [] := by intros; rfl)
    (hdb : (x == ("__debug__" : Str)) = false := by decide) (hd : (a == ("__debug__" : Str)) = false := by decide) (hcd : (a == ("__classdict__" : Str)) = false := by decide) :
    PE X (.Call (.Name x p) [.Lambda params body scope lp] [] pos) (tLam T TT t) := by
  obtain ⟨oc, od, kV, doc, pm, an, gcd, ct, osl, rfl, lk, cg⟩ := D.F.ex
  constructor
  intro pins s σ H Q I ⟨hT, h⟩
  refine wpAny_Call_Name_kw (ld_glob I gl D.g ?_ hdb)
  refine PySem.W.callWith_K (h₀ := X.base) I.ok.mod.kin D.F.kp ?_ (by rfl) (by rfl)
  show wpAny _ _ (spliced ((false, eval (.Lambda params body scope lp) X.env) :: backTo pos (starEach [] X.env))) _ _ s
  refine Calls.spliced_cons (lam_make2 I B code mem uni hT d0 (L.has I.ok) ?_)
  intro f c' pm' ctv H1 s' I1 eN T1 hf hfn hfr hco
  refine Calls.spliced_nil ⟨I1.kIn, wpAny_call (codeAny_mono ?_ fun r s2 (q : CR L2.CX0 X.stack X.prog X.w H1 s' Q L2.E0 r s2) => ?_)⟩
  · refine run_ofS (N := GN) (ps := [a]) (us := [.ref f]) (vs := [.ref f]) lk cg S hr I1.env0 (D.b s' [.ref f] I1.kIn rfl) (.cons rfl .nil) rfl fun hr' => ?_
    obtain ⟨t', ht', hq'⟩ := gives gcd f c' s' H1 Q (fun E G Q' => t E σ G Q')
      (fun W pn xe p1 p2 tk => pe_actS (i := 0) I1 L hf hfn hfr (bind0 _ _ _ _ _) tk hr' (fun A outer s2 H2 E hr2 => inner A outer s2 H2 E f c' hr2) at0 va hd hcd) hco (h H1 eN T1)
    exact ⟨t', ht'.nox, hq'⟩
  · match r, q with
    | .ok (.ret u), q => exact I1.after q
end
/-- try: a() / except C as e: .. / .. ; return None -/
def TTf (K : PySem.W.Frag) (i : Nat) (l : List (Value × (Addr → Value → Option Addr → TS))) : (XK → Hp → VK → Prop) → Hp → VK → Prop := fun tl H Q =>
  ∀ f : Addr, tl (fun cls dd G => wAsAll K i (fun _ _ _ _ => False) { nx := fun _ G' => Q .non G', rt := Q } l cls dd [some (.ref f), none] G) H fun _ G => Q .non G
theorem fault_gives {X : Cx} {a n x q : Str} {gs : Scope} {g : Addr} {gcd : Value} {h0 : ExceptHandler} {hds : List ExceptHandler} {l : List (Value × (Addr → Value → Option Addr → TS))} {j : Nat} {p1 p2 p3 p4 p5 p6 : Pos} (nd : [a, n].Nodup) (hln : gs.names.lookup n = some .local)
    (hh : ∀ (s : Shared) (H : Hp), AsOk (cxOf L2.CX0 X.prog X.w X.K X.mg X.base [a, n] x gs g gcd X.A X.stack s H L2.E0).nox n (h0 :: hds) l) :
    Gives X [a, n] x gs g gcd [.Try [.Expr (.Call (.Name a p1) [] [] p2) p3] (h0 :: hds) [] [] p4, .Return (some (.Constant .none j p5)) p6] a q (TTf X.K 1 l) := by
  intro f c' s H Q tl act hc h
  refine ⟨_, pss_cons (ps_try_asAll (X := (cxOf L2.CX0 X.prog X.w X.K X.mg X.base [a, n] x gs g gcd X.A X.stack s H L2.E0).nox) (i := 1)
    (tb := fun W D τ G => τ[0]? = some (some (.ref f)) ∧ G c' = some (CodeO c' q) ∧ tl (fun cls dd G' => W cls dd τ G') G fun _ G' => D.nx τ G') rfl rfl nd rfl hln LamX.takes0 (fun W pn xe tk _ => ?_) (hh s H)) (pss_one (ps_ret pe_non)), ?_⟩
  · constructor
    intro pins s' τ G D I go
    exact (pss_one (ps_expr (act W pn xe p1 p2 tk))).run pins s' τ G D I go
  · exact ⟨rfl, hc, h f⟩
end K1
set_option Elab.async false
set_option linter.all false
set_option maxRecDepth 100000
/-! a clause's suite that tells a tag and the error's fields -/
namespace K1
open PySem L2
def Has (gs : List (Str × V)) : List Str → List V → Prop
  | [], [] => True
  | f :: r, v :: vs => gs.lookup f = some v ∧ Has gs r vs
  | _, _ => False
def tFs (i : Nat) (C a : Addr) (cl : Value) (dd : Option Addr) : List Str → TA
  | [] => tNil
  | f :: r => tCons (tXf a cl dd C f (tVar i)) (tFs i C a cl dd r)
/-- return (tag, e.f, ..) -/
def suiteT (i : Nat) (C : Addr) (tag : Str) (fs : List Str) : Addr → Value → Option Addr → TS := fun a cl dd => tRet (tTup (tCons (tC (.str tag)) (tFs i C a cl dd fs)))
theorem tFs_read {i : Nat} {C a d : Addr} {gs : List (Str × V)} {σ : St} {G : Hp} (hσ : σ[i]? = some (some (.ref a))) (hd : G d = some (.xd gs)) : ∀ (fs : List Str) (vs : List V), Has gs fs vs → ∀ {Q : List V → Hp → Prop}, Q vs G → tFs i C a (.ref C) (some d) fs σ G Q
  | [], [], _, _, k => k
  | [], _ :: _, h, _, _ => h.elim
  | _ :: _, [], h, _, _ => h.elim
  | f :: r, v :: vs, h, Q, k => by
    obtain ⟨h1, h2⟩ := h
    exact ⟨_, hσ, rfl, rfl, d, gs, v, rfl, hd, h1, tFs_read hσ hd r vs h2 k⟩
theorem suiteT_read {i : Nat} {C a d : Addr} {tag : Str} {fs : List Str} {vs : List V} {gs : List (Str × V)} {D : Ends} {σ : St} {G : Hp} (hσ : σ[i]? = some (some (.ref a))) (hd : G d = some (.xd gs)) (h : Has gs fs vs) (hl : vs.length ≤ 10)
    (k : ∀ p, G p = none → D.rt (.ref p) (upd G p (.tup (.str tag :: vs)))) : suiteT i C tag fs a (.ref C) (some d) D σ G :=
  tFs_read hσ hd fs vs h ⟨by simp; exact Nat.le_of_lt (small1000 (by omega)), k⟩
end K1
set_option Elab.async false
set_option linter.all false
set_option maxRecDepth 100000
namespace L2
open PySem PySem.Spec PyProof.Rows
variable {X : Cx}
/-- x in t, of data, where t is a tuple -/
def rInT (K : PySem.W.Frag) (neg : Bool) : R2 := fun x y H Q => ∃ d ds, Dp K H x d ∧ Dp K H y (.tuple ds) ∧ SeqAt.shaped d = true ∧ SeqAt.shaped (.tuple ds) = true ∧ Q (.bl (if neg then !(ds.any fun z => PyData.eqv z d) else ds.any fun z => PyData.eqv z d)) H
theorem canLay_tup {ds : List PyData} (h : SeqAt.shaped (.tuple ds) = true) : PyData.canLayAll0 ds = true := by
  unfold SeqAt.shaped at h
  rw [PyData.canLay0] at h
  exact (Bool.and_eq_true_iff.mp h).1
theorem op_inT (hu : X.A.units + 65 < cLine) : OpR X (compareOp .In) (rInT X.K false) := by
  intro pins s σ H x y v u Q I rx ry h
  obtain ⟨d, ds, hd, he, sd, se, q⟩ := h
  obtain ⟨as, r1⟩ := Dp.reads I d x v hd rx
  obtain ⟨bs, r2⟩ := Dp.reads I (.tuple ds) y u he ry
  exact SeqAt.in_tuple_reads r2 r1 (canLay_tup se) (SeqAt.canLay_of_shaped sd) (room_in_shaped sd hu) ⟨.bl _, H, I, rfl, q⟩
theorem op_notInT (hu : X.A.units + 65 < cLine) : OpR X (compareOp .NotIn) (rInT X.K true) := by
  intro pins s σ H x y v u Q I rx ry h
  obtain ⟨d, ds, hd, he, sd, se, q⟩ := h
  obtain ⟨as, r1⟩ := Dp.reads I d x v hd rx
  obtain ⟨bs, r2⟩ := Dp.reads I (.tuple ds) y u he ry
  exact SeqAt.notIn_tuple_reads r2 r1 (canLay_tup se) (SeqAt.canLay_of_shaped sd) (room_in_shaped sd hu) ⟨.bl _, H, I, rfl, q⟩
end L2
namespace K1
open PySem L2
section
variable {P : Program} {w : World} {K : PySem.W.Frag} {mg : Str → Option Value} {base : Heap}
abbrev sBadState : Stmt := inClass (top 8) 0
theorem scBadState : FnScope ["self", "state"] ["self", "state"] (defScope sBadState) := ⟨rfl, rfl, rfl, by decide +kernel, rfl, by decide +kernel, by decide +kernel⟩
abbrev OBadState (K : PySem.W.Frag) (mg : Str → Option Value) (C fI : Addr) (fd : FuncData) : Prop := Oer K mg "BadState" ["state"] C fI fd "BadState.__init__" sBadState
theorem ini_BadState {C fI : Addr} {fd : FuncData} (O : OBadState K mg C fI fd) : FnOk P w K mg base CX0 1 fI fd ["self", "state"] (spIni C ["state"]) := by
  refine O.F.ok scBadState (fun vs H Q E h => ?_) (fun cdv A outer s H vs Q E hr h => ?_)
  · obtain ⟨a, ys, rfl, e, _⟩ := h
    show ys.length + 1 = _
    rw [e]; rfl
  · obtain ⟨a, ys, rfl, e, ha, k⟩ := h
    obtain ⟨y0, rfl⟩ : ∃ y0, ys = [y0] := by
      match ys, e with
      | [y0], _ => exact ⟨y0, rfl⟩
    refine ⟨_, pss_one (ps_ost (f := "state") (pv 0) (pv 1)), ?_⟩
    refine ⟨_, rfl, _, rfl, a, C, rfl, O.T, O.no _ (List.mem_cons_self ..), .inl ⟨ha, fun dx hdx ne => ?_⟩⟩
    refine k dx hdx ne _ (fun b o eb nb => ?_) ?_ ?_
    · rw [upd_ne nb, upd_ne (ne_of_none eb hdx)]; exact eb
    · exact upd_same
    · rw [upd_ne ne]; exact upd_same
abbrev sNoDeed : Stmt := inClass (top 9) 0
theorem scNoDeed : FnScope ["self", "index"] ["self", "index"] (defScope sNoDeed) := ⟨rfl, rfl, rfl, by decide +kernel, rfl, by decide +kernel, by decide +kernel⟩
abbrev ONoDeed (K : PySem.W.Frag) (mg : Str → Option Value) (C fI : Addr) (fd : FuncData) : Prop := Oer K mg "NoDeed" ["index"] C fI fd "NoDeed.__init__" sNoDeed
theorem ini_NoDeed {C fI : Addr} {fd : FuncData} (O : ONoDeed K mg C fI fd) : FnOk P w K mg base CX0 1 fI fd ["self", "index"] (spIni C ["index"]) := by
  refine O.F.ok scNoDeed (fun vs H Q E h => ?_) (fun cdv A outer s H vs Q E hr h => ?_)
  · obtain ⟨a, ys, rfl, e, _⟩ := h
    show ys.length + 1 = _
    rw [e]; rfl
  · obtain ⟨a, ys, rfl, e, ha, k⟩ := h
    obtain ⟨y0, rfl⟩ : ∃ y0, ys = [y0] := by
      match ys, e with
      | [y0], _ => exact ⟨y0, rfl⟩
    refine ⟨_, pss_one (ps_ost (f := "index") (pv 0) (pv 1)), ?_⟩
    refine ⟨_, rfl, _, rfl, a, C, rfl, O.T, O.no _ (List.mem_cons_self ..), .inl ⟨ha, fun dx hdx ne => ?_⟩⟩
    refine k dx hdx ne _ (fun b o eb nb => ?_) ?_ ?_
    · rw [upd_ne nb, upd_ne (ne_of_none eb hdx)]; exact eb
    · exact upd_same
    · rw [upd_ne ne]; exact upd_same
end
def Rs (C : Addr) (fs : List Str) (vs : List V) (H : Hp) (E : XK) : Prop := ∀ d G, Same H G → H d = none → G d = some (.xd (fs.zip vs).reverse) → E (.ref C) (some d) G
theorem Rs.same {C : Addr} {fs : List Str} {vs : List V} {H H' : Hp} {E : XK} (r : Rs C fs vs H E) (s : Same H H') : Rs C fs vs H' E := fun d G sG hd e => r d G (s.trans sG) (s.free hd) e
end K1
set_option Elab.async false
set_option linter.all false
set_option maxRecDepth 100000
namespace K1
open PySem L2
theorem eqv_strs : ∀ ws ws2 : List Str, PyData.eqvAll (ws.map PyData.str) (ws2.map PyData.str) = decide (ws = ws2)
  | [], [] => by simp [PyData.eqvAll]
  | [], _ :: _ => by simp [PyData.eqvAll]
  | _ :: _, [] => by simp [PyData.eqvAll]
  | a :: r, b :: q => by
    simp only [List.map_cons, PyData.eqvAll, eqv_strs r q, PyData.eqv]
    by_cases e : a = b
    · subst e; simp
    · simp [e]
theorem eqv_ints : ∀ ws ws2 : List Int, PyData.eqvAll (ws.map PyData.int) (ws2.map PyData.int) = decide (ws = ws2)
  | [], [] => by simp [PyData.eqvAll]
  | [], _ :: _ => by simp [PyData.eqvAll]
  | _ :: _, [] => by simp [PyData.eqvAll]
  | a :: r, b :: q => by
    simp only [List.map_cons, PyData.eqvAll, eqv_ints r q, PyData.eqv]
    by_cases e : a = b
    · subst e; simp
    · simp [e]
def OkS (ws : List Str) : Prop := ∀ z ∈ ws, PyData.strOk z = true
theorem TL_lt : ∀ c ∈ TL', c < 0x110000 := by decide +kernel
theorem ok_chars {z : Str} (h : ∀ c ∈ z.cps.toList, c ∈ TL') : PyData.strOk z = true := by
  unfold PyData.strOk
  rw [Array.all_eq_true']
  intro c hc
  exact decide_eq_true (TL_lt c (h c (by simpa using hc)))
theorem Wd.chars {z : Str} (h : Wd z) : ∀ c ∈ z.cps.toList, c ∈ AL := by
  obtain ⟨c, r, ez, hc, hr, _⟩ := h
  intro x hx
  rw [ez] at hx
  rcases List.mem_cons.mp hx with rfl | hx
  · exact LE_AL hc
  · exact hr x hx
theorem ok_wd {ws : List Str} (h : ∀ z ∈ ws, Wd z) : OkS ws := fun z hz => ok_chars fun c hc => List.mem_append_left _ ((h z hz).chars c hc)
theorem canLay_strs : ∀ ws : List Str, OkS ws → PyData.canLayAll0 (ws.map PyData.str) = true
  | [], _ => rfl
  | n :: r, h => by simp [PyData.canLayAll0, PyData.canLay0, canLay_strs r (fun z hz => h z (List.mem_cons_of_mem _ hz)), h n (List.mem_cons_self ..)]
theorem depth_ints : ∀ ns : List Int, PyData.depthAll (ns.map PyData.int) ≤ 1
  | [] => by decide
  | n :: r => by have := depth_ints r; simp only [List.map_cons, PyData.depthAll, PyData.depth]; omega
theorem depth_strs : ∀ ns : List Str, PyData.depthAll (ns.map PyData.str) ≤ 1
  | [] => by decide
  | n :: r => by have := depth_strs r; simp only [List.map_cons, PyData.depthAll, PyData.depth]; omega
theorem shaped_of {d : PyData} (h : d.canLay0 = true) (e : d.depth ≤ 64) : SeqAt.shaped d = true := by
  unfold SeqAt.shaped
  rw [h]
  simp [e]
theorem shaped_strs {ws : List Str} (h : OkS ws) : SeqAt.shaped (.tuple (ws.map PyData.str)) = true := shaped_of (by rw [PyData.canLay0, canLay_strs _ h]) (by rw [PyData.depth]; have := depth_strs ws; omega)
theorem dp_strs {K : PySem.W.Frag} {H : Hp} : ∀ ws : List Str, DpAll K H (ws.map V.str) (ws.map PyData.str)
  | [] => .nil
  | n :: r => .cons (.str n) (dp_strs r)

/-- None or a number, as data -/
def mD : V → PyData
  | .int i => .int i
  | _ => .none
def mOk (m : V) : Prop := m = .non ∨ ∃ i, m = .int i
theorem mOk.dp {K : PySem.W.Frag} {H : Hp} {m : V} (h : mOk m) : Dp K H m (mD m) := by
  rcases h with rfl | ⟨i, rfl⟩
  · exact .non
  · exact .int i
theorem mOk.sh {m : V} (h : mOk m) : SeqAt.shaped (mD m) = true := by
  rcases h with rfl | ⟨i, rfl⟩
  · exact shaped_of rfl (by decide)
  · exact shaped_of rfl (Nat.zero_le _)
theorem mOk.eqv {m n : V} (h : mOk m) (h' : mOk n) : PyData.eqv (mD m) (mD n) = decide (m = n) := by
  rcases h with rfl | ⟨i, rfl⟩ <;> rcases h' with rfl | ⟨j, rfl⟩ <;> simp [mD, PyData.eqv]
  by_cases e : i = j <;> simp [e]
end K1
set_option Elab.async false
set_option linter.all false
set_option maxRecDepth 100000
/-! where a row leads -/
namespace K1
open PySem L2
def forBody : Stmt → List Stmt
  | .For _ _ b _ _ => b
  | _ => []
theorem room65 {k : Nat} {A : Around} (r : Room k A) : A.units + 65 < cLine := by have := r.un; omega
/-- one step -/
def stp (rs : List (List Int)) (s k : Int) : Int := (rs.getD s.toNat []).getD k.toNat 0
def led (rs : List (List Int)) (ks : List Int) (s : Int) : Int := ks.foldl (stp rs) s
def wayN (rs : List (List Int)) (ks : List Int) (s : Int) (n : Nat) : List Int := (List.range n).map fun j => led rs (ks.take j) s
/-- all states on the way -/
def way (rs : List (List Int)) (ks : List Int) (s : Int) : List Int := wayN rs ks s (ks.length + 1)
/-- the deeds of a row of numbers -/
def nm (ws : List Str) (ks : List Int) : List Str := ks.map fun k => ws.getD k.toNat ""
def Ix (w : Nat) (ks : List Int) : Prop := ∀ k ∈ ks, 0 ≤ k ∧ k < (w : Int)
theorem nm_len (ws : List Str) (ks : List Int) : (nm ws ks).length = ks.length := by simp [nm]
theorem wayN_succ (rs : List (List Int)) (ks : List Int) (s : Int) (n : Nat) : wayN rs ks s (n + 1) = wayN rs ks s n ++ [led rs (ks.take n) s] := by
  simp [wayN, List.range_succ]
theorem wayN_len (rs : List (List Int)) (ks : List Int) (s : Int) (n : Nat) : (wayN rs ks s n).length = n := by simp [wayN]
theorem way_eq (rs : List (List Int)) (ks : List Int) (s : Int) : way rs ks s = wayN rs ks s ks.length ++ [led rs ks s] := by
  rw [way, wayN_succ, List.take_length]
theorem led_snoc (rs : List (List Int)) (ks : List Int) (s k : Int) : led rs (ks ++ [k]) s = stp rs (led rs ks s) k := by simp [led]
theorem at_last {xs : List Int} {y : Int} : atI ((xs ++ [y]).map V.int) (-1) = some (.int y) := by
  rw [List.map_append]; exact atI_last _ _
theorem at_deed {ws : List Str} {k : Int} (h0 : 0 ≤ k) (h1 : k < (ws.length : Int)) : atI (ws.map V.str) k = some (.str (ws.getD k.toNat "")) := by
  have hl : k.toNat < ws.length := by omega
  have e : k = ((k.toNat : Nat) : Int) := by omega
  rw [e]
  refine atI_nat ?_
  rw [Int.toNat_natCast, List.getElem?_map, List.getElem?_eq_getElem hl, List.getD_eq_getElem?_getD, List.getElem?_eq_getElem hl]
  rfl
theorem at_int {r : List Int} {k : Int} (h0 : 0 ≤ k) (h1 : k < (r.length : Int)) : atI (r.map V.int) k = some (.int (r.getD k.toNat 0)) := by
  have hl : k.toNat < r.length := by omega
  have e : k = ((k.toNat : Nat) : Int) := by omega
  rw [e]
  refine atI_nat ?_
  rw [Int.toNat_natCast, List.getElem?_map, List.getElem?_eq_getElem hl, List.getD_eq_getElem?_getD, List.getElem?_eq_getElem hl]
  rfl
theorem at_ref {as : List Addr} {k : Int} (h0 : 0 ≤ k) (h1 : k < (as.length : Int)) : ∃ a, as[k.toNat]? = some a ∧ atI (as.map V.ref) k = some (.ref a) := by
  obtain ⟨m, rfl⟩ : ∃ m : Nat, k = (m : Int) := ⟨k.toNat, by omega⟩
  have hl : m < as.length := by omega
  refine ⟨as[m], by rw [Int.toNat_natCast]; exact List.getElem?_eq_getElem hl, atI_nat ?_⟩
  rw [List.getElem?_map, List.getElem?_eq_getElem hl]
  rfl
theorem getD_get {α : Type} {xs : List α} {n : Nat} (d : α) (h : n < xs.length) : xs[n]? = some (xs.getD n d) := by
  rw [List.getD_eq_getElem?_getD, List.getElem?_eq_getElem h]; rfl
section
variable {ws : List Str} {rs : List (List Int)} {ss : List Str} {st : Int}
theorem Parts.stp (pt : Parts ws rs ss st) {s k : Int} (s0 : 0 ≤ s) (s1 : s < (rs.length : Int)) (k0 : 0 ≤ k) (k1 : k < (ws.length : Int)) :
    ∃ r, rs[s.toNat]? = some r ∧ r.length = ws.length ∧ K1.stp rs s k = r.getD k.toNat 0 ∧ 0 ≤ K1.stp rs s k ∧ K1.stp rs s k < (rs.length : Int) := by
  have hs : s.toNat < rs.length := by omega
  have er := getD_get (xs := rs) [] hs
  obtain ⟨hl, hx⟩ := pt.row _ (List.mem_of_getElem? er)
  have hk : k.toNat < (rs.getD s.toNat []).length := by omega
  have hm := hx _ (List.mem_of_getElem? (getD_get 0 hk))
  exact ⟨_, er, hl, rfl, hm⟩
theorem Parts.led (pt : Parts ws rs ss st) : ∀ {ks : List Int} {s : Int}, Ix ws.length ks → 0 ≤ s → s < (rs.length : Int) → 0 ≤ K1.led rs ks s ∧ K1.led rs ks s < (rs.length : Int)
  | [], s, _, h0, h1 => ⟨h0, h1⟩
  | k :: ks, s, hk, h0, h1 => by
    obtain ⟨k0, k1⟩ := hk k (List.mem_cons_self ..)
    obtain ⟨r, _, _, _, a, b⟩ := pt.stp h0 h1 k0 k1
    exact Parts.led pt (ks := ks) (fun j hj => hk j (List.mem_cons_of_mem _ hj)) a b
end
theorem Ix.take {w : Nat} {ks : List Int} (h : Ix w ks) (n : Nat) : Ix w (ks.take n) := fun k hk => h k (List.mem_of_mem_take hk)
theorem first_at {ws : List Str} (nd : ws.Nodup) {j : Nat} (hj : j < ws.length) : ∀ m, m < j → ws[m]? ≠ some (ws.getD j "") := by
  intro m hm e
  have hm' : m < ws.length := by omega
  rw [List.getElem?_eq_getElem hm', List.getD_eq_getElem?_getD, List.getElem?_eq_getElem hj] at e
  have e2 : ws[m] = ws[j] := by simpa using e
  exact List.pairwise_iff_getElem.mp nd m j hm' hj hm e2
theorem eqv_str (a b : Str) : PyData.eqv (.str a) (.str b) = decide (a = b) := by
  simp [PyData.eqv]
  by_cases e : a = b <;> simp [e]
theorem shaped_str {ws : List Str} (h : OkS ws) {z : Str} (hz : z ∈ ws) : SeqAt.shaped (.str z) = true := shaped_of (by rw [PyData.canLay0]; exact h z hz) (by rw [PyData.depth]; decide)
theorem ix_of {s m : Int} (h0 : 0 ≤ s) (h1 : s < m) : ixB (.int s) m = true := by
  unfold ixB
  simp [h0, h1]
end K1
set_option Elab.async false
set_option linter.all false
set_option maxRecDepth 100000
/-! dicts with tuple keys: items() walked; a display of one pair -/
namespace L2
open PySem PySem.W PySem.Spec PyProof.Rows
/-- the pairs of a locked dict with tuple keys, each a new tuple -/
def Itit (d : Addr) (o : Obj) (kvs : List (List Key × V)) : It :=
  ⟨fun i H => H d = some (.frz o (.dT kvs)) ∧ i < kvs.length, fun i H x H' => ∃ T k v q, kvs[i]? = some (k, v) ∧ H q = some (.tup (k.map kV)) ∧ x = .ref T ∧ H T = none ∧ H' = upd H T (.tup [.ref q, v]), fun i H => H d = some (.frz o (.dT kvs)) ∧ kvs.length ≤ i⟩
section
variable {X : Cx} {pins : List (Addr × Obj)} {σ : St} {H : Hp} {s : Shared} {d : Addr} {o : Obj}
theorem Inv.frzT2 {kvs : List (List Key × V)} (I : Inv X pins σ H s) (h : H d = some (.frz o (.dT kvs))) :
    (d == sysModules) = false ∧ s.heap.get? d = some o ∧ o.ExactDict ∧ ∃ (es : Array DictEntry) (ep : Nat), o.data = .dict es ep ∧ es.size = kvs.length ∧
      ∀ (i : Nat) (k : List Key) (v : V), kvs[i]? = some (k, v) → ∃ (en : DictEntry) (q : Addr), es[i]? = some en ∧ en.key = .ref q ∧ H q = some (.tup (k.map kV)) ∧ RelV v en.val := by
  obtain ⟨hd, z, hs, xs, pr, o', es, ep, ho, hx, hdt, he, _⟩ := I.hok d _ h
  rw [hd] at ho
  cases ho
  refine ⟨hs, hd, hx, es, ep, hdt, ?_, fun i k v e => ?_⟩
  · have l1 : es.size = xs.length := size_of_entries he
    have l2 : kvs.length = xs.length := Paired.length pr
    omega
  · obtain ⟨b, hb, e1, e2, e3⟩ := paired_get pr e
    have q := entry_at he i
    rw [hb] at q
    exact ⟨_, b.2.1, q, rfl, e2, e3⟩
end
section
variable {P : Program} {w : World} {K : PySem.W.Frag} {tg : Expr} {d : Addr} {o : Obj} {es : Array DictEntry} {ep : Nat}
theorem turn_itemsT {kvs : List (List Key × V)} {elts : List Expr} {kk : Nat} {tpos : Pos} (it : Addr) (hod : o.data = .dict es ep) :
    Turn P w K (.Tuple elts kk tpos) (Itit d o kvs) [it] it (fun i h => ∃ ok ov, IsItemIter h it d i kvs.length ep ok ov) where
  mem := by simp
  obj := fun i h st b hb => by
    have e : b = it := by simpa using hb
    subst e
    obtain ⟨ok, ov, e⟩ := st
    exact ⟨_, e, fun v z => nomatch z⟩
  keep := fun i h h' st k => let ⟨ok, ov, e⟩ := st; ⟨ok, ov, k it (by simp) _ e⟩
  item := by
    intro X hP hw hK hc i pins s σ H E I hf st hg
    subst hP hw hK
    obtain ⟨hd, hi⟩ := hg
    obtain ⟨hs, hgd, hx, es', ep', hdt, hsz, ent⟩ := I.frzT2 hd
    obtain ⟨rfl, rfl⟩ := dict_ep hod hdt
    obtain ⟨⟨k, v⟩, hkv⟩ : ∃ p, kvs[i]? = some p := ⟨kvs[i], List.getElem?_eq_getElem hi⟩
    obtain ⟨en, q, hen, hkey, hq, rv⟩ := ent i k v hkv
    obtain ⟨ok, ov, he⟩ := st
    rw [← hsz] at he
    have hlt : it < s.heap.objs.size := Heap.lt_size he
    have hi' : i < es'.size := by omega
    have een : es'[i] = en := by
      have := Array.getElem?_eq_getElem hi'
      rw [hen] at this
      exact (Option.some.inj this).symm
    refine DT.nextI he ⟨o, hgd, hx, hdt⟩ hi' fun h' ho hT hz hk => ?_
    rw [een] at ho hT
    refine ⟨_, rfl, wpAny_letOwnedTupleGo_items (s := { s with heap := h' }) ho fun h'' he' sb => ?_⟩
    have hT2 : h''.get? s.heap.objs.size = some { cls := .type "tuple", data := .seq #[en.key, en.val] } := (sb.2 _ (Nat.ne_of_gt hlt)).trans hT
    have new : ObjOk X.prog X.w (upd H s.heap.objs.size (.tup [.ref q, v])) h'' s.heap.objs.size (.tup [.ref q, v]) :=
      ⟨by show 2 ≤ sizeLine; decide, [en.key, en.val], .cons hkey (.cons rv .nil), ⟨_, hT2, rfl, _, rfl⟩⟩
    have I1 : Inv X pins σ (upd H s.heap.objs.size (.tup [.ref q, v])) { s with heap := h'' } :=
      I.turnedNew (t' := s.toks) (ch := [it]) (fun b ob hb e => (sb.2 b (by simpa using hb)).trans (hk b ob (by simpa using hb) e)) hf (Nat.le_refl _) new
    refine ⟨.ref s.heap.objs.size, _, I1, rfl, ⟨_, k, v, q, hkv, hq, rfl, I.hok.fresh (Nat.le_refl _), rfl⟩, ⟨en.key, en.val, ?_⟩, fun b hb => ?_⟩
    · rw [← hsz]; exact he'
    · have e : b = it := by simpa using hb
      rw [e, upd_ne (Nat.ne_of_lt hlt)]
      exact (hf it (by simp)).1
  done := by
    intro X hP hw hK hc i pins s σ H E I hf st hg
    subst hP hw hK
    obtain ⟨hd, hi⟩ := hg
    obtain ⟨f0, f1, f2, f3, f4, f5⟩ := hf it (by simp)
    obtain ⟨hs, hgd, hx, es', ep', hdt, hsz, ent⟩ := I.frzT2 hd
    obtain ⟨rfl, rfl⟩ := dict_ep hod hdt
    obtain ⟨ok, ov, he⟩ := st
    rw [← hsz] at he
    exact DT.endI (I.ok.hd hc) he ⟨o, hgd, hx, hdt⟩ (by omega) fun h' eb => ⟨rfl, I.turned (t' := s.toks) (fun b ob hb e => eb b ob hb e) f0 f1 f3 f4 f5⟩
  self := fun A i s Q E st h => let ⟨_, _, e⟩ := st; PySem.W.kcp_self e h
theorem walk_itemsT {kvs : List (List Key × V)} : Walk (Itit d o kvs) kvs.length (fun H => H d = some (.frz o (.dT kvs)))
    (fun i H x H' => ∃ T k v q, kvs[i]? = some (k, v) ∧ H q = some (.tup (k.map kV)) ∧ x = .ref T ∧ H T = none ∧ H' = upd H T (.tup [.ref q, v])) :=
  ⟨fun _ _ hi q => ⟨q, hi⟩, fun _ q => ⟨q, Nat.le_refl _⟩, fun _ _ _ _ _ _ y => y⟩
end
/-- for (k, v) in d.items(), d a locked dict with tuple keys -/
def iItemsT (td : TE) : TI := fun σ H R => td σ H fun x H1 => ∃ d o kvs, x = .ref d ∧ H1 d = some (.frz o (.dT kvs)) ∧ R (Itit d o kvs) H1
section
variable {X : Cx} {e : Expr} {td : TE} {apos cpos : Pos}
theorem pi_itemsT {elts : List Expr} {kk : Nat} {tpos : Pos} (he : PE X e td) (hbase : attributeBase e "items" X.env (eval e X.env) = eval e X.env := by rfl) (hline : (apos.endLine == cpos.line) = true := by rfl) :
    PI X (.Tuple elts kk tpos) (.Call (.Attribute e "items" apos) [] [] cpos) (iItemsT td) := by
  refine ⟨fun pins s σ H R I h => ?_⟩
  refine wpAny_Call_method (T := "dict") (id := "dict.items") hbase rfl hline F.plainAttrs_dict F.slot_dict_items F.type_dict_items (thn (he.run pins s σ H _ I h) fun u s1 ⟨x, H1, I1, rx, d, o, kvs, ex, hd, q⟩ => ?_)
  subst ex
  obtain rfl : u = Value.ref d := rx
  obtain ⟨hs, hgd, hx, es, ep, hdt, hsz, ent⟩ := I1.frzT2 hd
  have hm : DT.Raw s1.heap d es ep := ⟨o, hgd, hx, hdt⟩
  refine ⟨hm.typeIs, fun a ea => by cases ea; exact ⟨o, hgd, hx.2.1⟩, ?_⟩
  have I2 : Inv X pins σ H1 { s1 with heap := s1.heap.push { cls := .type "dict_items", data := .fields #[.ref d] } } := I1.kept (t' := s1.toks) fun b ob q => Heap.get?_push_of_some _ q
  have fin : wpAny (model X.prog X.w) X.A (pyIter (.ref s1.heap.objs.size)) (PIE X pins σ (.Tuple elts kk tpos) R) X.xe { s1 with heap := s1.heap.push { cls := .type "dict_items", data := .fields #[.ref d] } } := by
    refine DT.iterI (d := d) ⟨_, Heap.get?_push_size _ rfl, rfl, rfl⟩ (hm.push _) (pi_one (tk := s1.toks) I2 _ (turn_itemsT _ hdt) ⟨.none, .none, ?_⟩ q)
    rw [← hsz]
    exact Heap.get?_push_size _ rfl
  show wpAny _ _ (callWith cpos (.builtin "dict.items") [.ref d] [] []) _ X.xe s1
  exact method_meetsIn F.slot_dict_items F.entry_dict_items rfl (PySem.evalArgs_none ⟨rfl, hm.typeIs, F.args_dict_items_1 _, _, DT.meetsItems (es := es) (ep := ep) hs, hm, fin⟩)
end
/-- {k: v}, k a tuple -/
def tDisp1T (tk tv : TE) : TE := fun σ H Q => ∀ p, H p = none → tPairs [(tk, tv)] σ (upd H p (.dT [])) fun ps H2 => H2 p = some (.dT []) ∧ ∃ (b : Addr) (k : List Key) (y : V), ps = [(.ref b, y)] ∧ H2 b = some (.tup (k.map kV)) ∧ Q (.ref p) (upd H2 p (.dT [(k, y)]))
theorem pe_disp1T {X : Cx} {pos : Pos} {k v : Expr} {tk tv : TE} (hu : X.A.units + 1 < cLine) (hk : PE X k tk) (hv : PE X v tv) : PE X (.Dict [some k] [v] pos) (tDisp1T tk tv) := by
  refine ⟨fun pins s σ H Q I q => ?_⟩
  have hn := I.hok.fresh (Nat.le_refl s.heap.objs.size)
  have I1 := I.laid (a := s.heap.objs.size) (o := .dT []) (h' := s.heap.push { cls := .type "dict", data := .dict #[] }) (t' := s.toks) (fun _ _ q => Heap.get?_push_of_some _ q) (Nat.le_refl _) (dt_empty s.heap I.big)
  have hp := (pps_cons (pos := pos) hk hv pps_nil).run pins _ σ _ (fun ps H2 => H2 s.heap.objs.size = some (.dT []) ∧ ∃ (b : Addr) (k : List Key) (y : V), ps = [(.ref b, y)] ∧ H2 b = some (.tup (k.map kV)) ∧ Q (.ref s.heap.objs.size) (upd H2 s.heap.objs.size (.dT [(k, y)]))) I1 ?_
  · have pt : (evalEachOpt [some k] X.env).zip ((evalEach [v] X.env).map fun v => do let x ← v; standAt pos; pure x) = (pairTrees [some k] [v] X.env pos).map fun p => (some p.1, p.2) := by rfl
    rw [arm_eval_Dict, pt, dictDisplay_pairs _ (by simp [pairTrees]) (by simp [pairTrees])]
    refine wpAny_bind (wpAny_standAt (wpAny_bind (wpAny_subDictH (knd := tupleKind (mixKind X.prog X.w)) (Q := fun d s' => wpAny (model X.prog X.w) X.A (pure (Value.ref d)) _ _ s') (by show X.A.units < cLine; omega) (by simp [pairTrees]) ?_)))
    refine wpAny_mono hp (fun vs s2 h2 => ?_) fun _ _ z => z
    obtain ⟨ps, H2, I2, rel, e, b, kk, y, rfl, hb, q2⟩ := h2
    obtain ⟨z, hd, xs0, r0, dd⟩ := dt_of I2.hok e
    cases r0
    match vs, rel with
    | [(u1, u2)], .cons ⟨ru, rw2⟩ .nil =>
      cases (show u1 = Value.ref b from ru)
      refine ⟨[(kk, b, u2)], ⟨rfl, rfl, key_of I2.hok hb, trivial⟩, dd, fun h' tk' dd' hs => wpAny_pure ⟨.ref s.heap.objs.size, _, ?_, rfl, q2⟩⟩
      obtain ⟨o2, es, ep, ho2, h2a, h2b, h2c, _, h2d⟩ := dd'
      have rel2 : KT H2 (putK [] kk y) (storedH [] kk b u2) := KT.put .nil kk hb rw2
      refine d_write I2 (by rw [e]; exact True.intro) hs ⟨o2, ho2⟩ ⟨by show 1 ≤ sizeLine; decide, hd, _, (rel2 : KT H2 [(kk, y)] _).keeps fun c ys ec => ?_, o2, es, ep, ho2, h2a, h2b, h2c, h2d⟩
      rw [upd_ne (ne_of ec e (fun z => nomatch z))]
      exact ec
  · exact q _ hn
end L2
set_option Elab.async false
set_option linter.all false
set_option maxRecDepth 100000
/-! rows looked for layer by layer: the mathematics -/
namespace K1
open PySem L2
section
variable (r : List Nat → List Int)
/-- words, each only if its state is new -/
def dd (acc l : List (List Nat)) : List (List Nat) := l.foldl (fun acc v => if r v ∈ acc.map r then acc else acc ++ [v]) acc
def ext (w : Nat) (u : List Nat) : List (List Nat) := (List.range w).map fun k => u ++ [k]
def exts (w : Nat) (B : List (List Nat)) : List (List Nat) := B.flatMap (ext w)
/-- all words of a length; up to a length -/
def allW (w : Nat) : Nat → List (List Nat)
  | 0 => [[]]
  | n + 1 => exts w (allW w n)
def allU (w : Nat) : Nat → List (List Nat)
  | 0 => [[]]
  | n + 1 => allU w n ++ allW w (n + 1)
/-- what is met after n layers, and the last layer -/
def bfs (w : Nat) : Nat → List (List Nat) × List (List Nat)
  | 0 => ([[]], [[]])
  | n + 1 => (dd r (bfs w n).1 (exts w (bfs w n).2), (dd r (bfs w n).1 (exts w (bfs w n).2)).drop (bfs w n).1.length)
variable {r}
theorem dd_nil (acc : List (List Nat)) : dd r acc [] = acc := rfl
theorem dd_cons (acc : List (List Nat)) (v : List Nat) (l : List (List Nat)) : dd r acc (v :: l) = dd r (if r v ∈ acc.map r then acc else acc ++ [v]) l := rfl
theorem dd_app (acc l m : List (List Nat)) : dd r acc (l ++ m) = dd r (dd r acc l) m := List.foldl_append
theorem dd_pre : ∀ (l acc : List (List Nat)), ∃ N, dd r acc l = acc ++ N
  | [], acc => ⟨[], by rw [dd_nil, List.append_nil]⟩
  | v :: l, acc => by
    rw [dd_cons]
    by_cases h : r v ∈ acc.map r
    · rw [if_pos h]; exact dd_pre l acc
    · rw [if_neg h]
      obtain ⟨N, e⟩ := dd_pre l (acc ++ [v])
      exact ⟨v :: N, by rw [e, List.append_assoc]; rfl⟩
theorem dd_keep {acc l : List (List Nat)} {s : List Int} (h : s ∈ acc.map r) : s ∈ (dd r acc l).map r := by
  obtain ⟨N, e⟩ := dd_pre (r := r) l acc
  rw [e, List.map_append]
  exact List.mem_append_left _ h
theorem dd_mem : ∀ {l acc : List (List Nat)} {v : List Nat}, v ∈ l → r v ∈ (dd r acc l).map r
  | [], _, _, h => nomatch h
  | a :: l, acc, v, h => by
    rw [dd_cons]
    rcases List.mem_cons.mp h with rfl | h
    · refine dd_keep ?_
      by_cases h : r v ∈ acc.map r
      · rw [if_pos h]; exact h
      · rw [if_neg h, List.map_append]; exact List.mem_append_right _ (by simp)
    · exact dd_mem h
theorem dd_sub : ∀ {l acc : List (List Nat)} {v : List Nat}, v ∈ dd r acc l → v ∈ acc ∨ v ∈ l
  | [], _, _, h => .inl h
  | a :: l, acc, v, h => by
    rw [dd_cons] at h
    rcases dd_sub h with h | h
    · by_cases e : r a ∈ acc.map r
      · rw [if_pos e] at h; exact .inl h
      · rw [if_neg e] at h
        rcases List.mem_append.mp h with h | h
        · exact .inl h
        · exact .inr (by rw [List.mem_singleton.mp h]; exact List.mem_cons_self ..)
    · exact .inr (List.mem_cons_of_mem _ h)
theorem dd_noop : ∀ {l acc : List (List Nat)}, (∀ v ∈ l, r v ∈ acc.map r) → dd r acc l = acc
  | [], _, _ => rfl
  | a :: l, acc, h => by
    rw [dd_cons, if_pos (h a (List.mem_cons_self ..))]
    exact dd_noop fun v hv => h v (List.mem_cons_of_mem _ hv)
theorem dd_nodup : ∀ {l acc : List (List Nat)}, (acc.map r).Nodup → ((dd r acc l).map r).Nodup
  | [], _, h => h
  | a :: l, acc, h => by
    rw [dd_cons]
    refine dd_nodup ?_
    by_cases e : r a ∈ acc.map r
    · rw [if_pos e]; exact h
    · rw [if_neg e, List.map_append]
      refine List.nodup_append.mpr ⟨h, by simp, fun x hx y hy => ?_⟩
      rw [List.map_singleton, List.mem_singleton] at hy
      rw [hy]
      exact fun z => e (z ▸ hx)
theorem find_dd {p : List Nat → Bool} (hp : ∀ u v, r u = r v → p u = p v) : ∀ (l acc : List (List Nat)), (dd r acc l).find? p = (acc.find? p).or (l.find? p)
  | [], acc => by rw [dd_nil]; simp
  | a :: l, acc => by
    rw [dd_cons]
    by_cases e : r a ∈ acc.map r
    · rw [if_pos e, find_dd hp l acc]
      cases h : acc.find? p with
      | some z => rfl
      | none =>
        obtain ⟨b, hb, eb⟩ := List.mem_map.mp e
        have : p a = false := by rw [← hp b a eb]; simpa using List.find?_eq_none.mp h b hb
        rw [List.find?_cons, this]
    · rw [if_neg e, find_dd hp l, List.find?_append, List.find?_cons]
      cases acc.find? p with
      | some z => simp
      | none => cases h : p a <;> simp [h]
theorem exts_app (w : Nat) (A B : List (List Nat)) : exts w (A ++ B) = exts w A ++ exts w B := List.flatMap_append
theorem exts_cons (w : Nat) (a : List Nat) (B : List (List Nat)) : exts w (a :: B) = ext w a ++ exts w B := rfl
theorem mem_ext {w : Nat} {u v : List Nat} : v ∈ ext w u ↔ ∃ k, k < w ∧ v = u ++ [k] := by
  rw [ext, List.mem_map]
  constructor
  · rintro ⟨k, hk, rfl⟩; exact ⟨k, List.mem_range.mp hk, rfl⟩
  · rintro ⟨k, hk, rfl⟩; exact ⟨k, List.mem_range.mpr hk, rfl⟩
theorem mem_exts {w : Nat} {B : List (List Nat)} {v : List Nat} : v ∈ exts w B ↔ ∃ u ∈ B, ∃ k, k < w ∧ v = u ++ [k] := by
  rw [exts, List.mem_flatMap]
  constructor
  · rintro ⟨u, hu, hv⟩; exact ⟨u, hu, mem_ext.mp hv⟩
  · rintro ⟨u, hu, hv⟩; exact ⟨u, hu, mem_ext.mpr hv⟩
/-- words that add no state add none behind them -/
theorem exts_dd {w : Nat} (hr : ∀ u v k, r u = r v → r (u ++ [k]) = r (v ++ [k])) : ∀ (A acc acc1 B : List (List Nat)), dd r acc A = acc ++ B → (∀ u ∈ acc, ∀ k, k < w → r (u ++ [k]) ∈ acc1.map r) → dd r acc1 (exts w A) = dd r acc1 (exts w B)
  | [], acc, acc1, B, h, _ => by
    have : B = [] := by
      have := congrArg List.length h
      rw [dd_nil, List.length_append] at this
      exact List.length_eq_zero_iff.mp (by omega)
    rw [this]
  | a :: A, acc, acc1, B, h, hc => by
    rw [dd_cons] at h
    by_cases e : r a ∈ acc.map r
    · rw [if_pos e] at h
      obtain ⟨b, hb, eb⟩ := List.mem_map.mp e
      have e1 : dd r acc1 (ext w a) = acc1 := dd_noop fun v hv => by
        obtain ⟨k, hk, rfl⟩ := mem_ext.mp hv
        rw [← hr b a k eb]
        exact hc b hb k hk
      rw [exts_cons, dd_app, e1]
      exact exts_dd hr A acc acc1 B h hc
    · rw [if_neg e] at h
      obtain ⟨N, en⟩ := dd_pre (r := r) A (acc ++ [a])
      have eB : B = a :: N := by
        rw [en, List.append_assoc] at h
        exact (List.append_cancel_left h).symm
      subst eB
      rw [exts_cons, exts_cons, dd_app, dd_app]
      refine exts_dd hr A (acc ++ [a]) _ N en fun u hu k hk => ?_
      rcases List.mem_append.mp hu with hu | hu
      · exact dd_keep (hc u hu k hk)
      · rw [List.mem_singleton.mp hu]
        exact dd_mem (mem_ext.mpr ⟨k, hk, rfl⟩)
/-- what a search has after n layers -/
structure BfsI (r : List Nat → List Int) (w n : Nat) (M B : List (List Nat)) : Prop where
  ex : ∃ M0, M = M0 ++ B ∧ M = dd r M0 (allW w n) ∧ ∀ u ∈ M0, ∀ k, k < w → r (u ++ [k]) ∈ M.map r
  all : M = dd r [] (allU w n)
  nd : (M.map r).Nodup
  pre : ∀ u k, u ++ [k] ∈ M → u ∈ M
  lt : ∀ u ∈ M, ∀ k ∈ u, k < w
  len : ∀ u ∈ B, u.length = n
  hd : ∃ T, M = [] :: T
theorem bfs_ok (hr : ∀ u v k, r u = r v → r (u ++ [k]) = r (v ++ [k])) (w : Nat) : ∀ n, BfsI r w n (bfs r w n).1 (bfs r w n).2
  | 0 => ⟨⟨[], rfl, rfl, fun u hu => nomatch hu⟩, rfl, by simp [bfs], fun u k h => by simp [bfs] at h, fun u hu k hk => by
      have : u = [] := by simpa [bfs] using hu
      rw [this] at hk; exact (List.not_mem_nil hk).elim, fun u hu => by
      have : u = [] := by simpa [bfs] using hu
      rw [this]; rfl, ⟨[], rfl⟩⟩
  | n + 1 => by
    obtain ⟨⟨M0, h1, h2, h3⟩, h4, h5, h6, h7, h8, h9⟩ := bfs_ok hr w n
    generalize hM : (bfs r w n).1 = M at *
    generalize hB : (bfs r w n).2 = B at *
    obtain ⟨N, en⟩ := dd_pre (r := r) (exts w B) M
    have e1 : (bfs r w (n + 1)).1 = M ++ N := by
      show dd r (bfs r w n).1 (exts w (bfs r w n).2) = _
      rw [hM, hB, en]
    have e2 : (bfs r w (n + 1)).2 = N := by
      show (dd r (bfs r w n).1 (exts w (bfs r w n).2)).drop (bfs r w n).1.length = _
      rw [hM, hB, en, List.drop_left]
    rw [e1, e2]
    have e3 : M ++ N = dd r M (allW w (n + 1)) := by
      rw [← en]
      exact (exts_dd hr (allW w n) M0 M B (by rw [← h2]; exact h1) h3).symm
    have hN : ∀ v ∈ N, ∃ u ∈ B, ∃ k, k < w ∧ v = u ++ [k] := fun v hv => by
      -- v is new
      have hnd : ((M ++ N).map r).Nodup := by rw [← en]; exact dd_nodup h5
      rcases dd_sub (r := r) (l := exts w B) (acc := M) (by rw [en]; exact List.mem_append_right _ hv) with h | h
      · exfalso
        rw [List.map_append] at hnd
        exact (List.nodup_append.mp hnd).2.2 (r v) (List.mem_map_of_mem h) (r v) (List.mem_map_of_mem hv) rfl
      · exact mem_exts.mp h
    have hBM : ∀ u ∈ B, u ∈ M := fun u hu => by rw [h1]; exact List.mem_append_right _ hu
    refine ⟨⟨M, rfl, e3, fun u hu k hk => ?_⟩, ?_, by rw [← en]; exact dd_nodup h5, fun u k hu => ?_, fun u hu k hk => ?_, fun u hu => ?_, ?_⟩
    · rw [← en]
      rw [h1] at hu
      rcases List.mem_append.mp hu with hu | hu
      · exact dd_keep (h3 u hu k hk)
      · exact dd_mem (mem_exts.mpr ⟨u, hu, k, hk, rfl⟩)
    · rw [e3, h4]
      exact (dd_app _ _ _).symm
    · rcases List.mem_append.mp hu with hu | hu
      · exact List.mem_append_left _ (h6 u k hu)
      · obtain ⟨u', hu', k', _, e⟩ := hN _ hu
        obtain ⟨rfl, _⟩ := List.append_inj' e rfl
        exact List.mem_append_left _ (hBM u hu')
    · rcases List.mem_append.mp hu with hu | hu
      · exact h7 u hu k hk
      · obtain ⟨u', hu', k', hk', rfl⟩ := hN _ hu
        rcases List.mem_append.mp hk with hk | hk
        · exact h7 u' (hBM u' hu') k hk
        · rw [List.mem_singleton.mp hk]; exact hk'
    · obtain ⟨u', hu', k', _, rfl⟩ := hN _ hu
      rw [List.length_append, h8 u' hu']; rfl
    · obtain ⟨T, eT⟩ := h9
      exact ⟨T ++ N, by rw [eT]; rfl⟩
theorem allU_pre (w : Nat) : ∀ {n m : Nat}, n ≤ m → ∃ R, allU w m = allU w n ++ R
  | n, 0, h => ⟨[], by rw [Nat.le_zero.mp h]; simp⟩
  | n, m + 1, h => by
    by_cases e : n = m + 1
    · exact ⟨[], by rw [e]; simp⟩
    · obtain ⟨R, eR⟩ := allU_pre w (show n ≤ m by omega)
      exact ⟨R ++ allW w (m + 1), by rw [allU, eR, List.append_assoc]⟩
theorem allW_len (w : Nat) : ∀ (n : Nat) (v : List Nat), v ∈ allW w n ↔ v.length = n ∧ ∀ k ∈ v, k < w
  | 0, v => by
    simp only [allW, List.mem_singleton]
    constructor
    · rintro rfl; exact ⟨rfl, fun k h => nomatch h⟩
    · rintro ⟨h, _⟩; exact List.length_eq_zero_iff.mp h
  | n + 1, v => by
    rw [allW, mem_exts]
    constructor
    · rintro ⟨u, hu, k, hk, rfl⟩
      obtain ⟨h1, h2⟩ := (allW_len w n u).mp hu
      refine ⟨by rw [List.length_append, h1]; rfl, fun j hj => ?_⟩
      rcases List.mem_append.mp hj with h | h
      · exact h2 j h
      · rw [List.mem_singleton.mp h]; exact hk
    · rintro ⟨h1, h2⟩
      have hne : v ≠ [] := fun e => by rw [e] at h1; simp at h1
      refine ⟨v.dropLast, (allW_len w n _).mpr ⟨by rw [List.length_dropLast, h1]; rfl, fun k hk => h2 k (List.dropLast_subset v hk)⟩, v.getLast hne, h2 _ (List.getLast_mem hne), (List.dropLast_concat_getLast hne).symm⟩
theorem allU_mem (w : Nat) : ∀ (n : Nat) (v : List Nat), v ∈ allU w n ↔ v.length ≤ n ∧ ∀ k ∈ v, k < w
  | 0, v => by
    simp only [allU, List.mem_singleton]
    constructor
    · rintro rfl; exact ⟨Nat.le_refl _, fun k h => nomatch h⟩
    · rintro ⟨h, _⟩; exact List.length_eq_zero_iff.mp (by omega)
  | n + 1, v => by
    rw [allU, List.mem_append, allU_mem w n, allW_len w (n + 1)]
    constructor
    · rintro (⟨a, b⟩ | ⟨a, b⟩)
      · exact ⟨by omega, b⟩
      · exact ⟨by omega, b⟩
    · rintro ⟨a, b⟩
      by_cases e : v.length = n + 1
      · exact .inr ⟨e, b⟩
      · exact .inl ⟨by omega, b⟩
/-- the first of all words, up to a length, for which p holds -/
theorem bfs_find {p : List Nat → Bool} (hr : ∀ u v k, r u = r v → r (u ++ [k]) = r (v ++ [k])) (hp : ∀ u v, r u = r v → p u = p v) (w n : Nat) : (bfs r w n).1.find? p = (allU w n).find? p := by
  rw [(bfs_ok hr w n).all, find_dd hp]; simp
/-- an empty layer: nothing comes later -/
theorem bfs_end (hr : ∀ u v k, r u = r v → r (u ++ [k]) = r (v ++ [k])) {w n : Nat} (h : (bfs r w n).2 = []) : ∀ m, n ≤ m → bfs r w m = ((bfs r w n).1, [])
  | m, hm => by
    induction m with
    | zero =>
      have : n = 0 := by omega
      subst this
      exact Prod.ext rfl h
    | succ m ih =>
      by_cases e : n = m + 1
      · subst e; exact Prod.ext rfl h
      · have := ih (by omega)
        show (dd r (bfs r w m).1 (exts w (bfs r w m).2), _) = _
        rw [this]
        exact Prod.ext rfl (by show List.drop _ (dd r _ (exts w [])) = []; simp [exts, dd_nil])
end
end K1
set_option Elab.async false
set_option linter.all false
set_option maxRecDepth 100000
/-! walks.next_layer -/
namespace L2
open PySem PySem.Spec PyProof.Rows
/-- zip of two tuples, walked -/
theorem walk_zipT {K : PySem.W.Frag} {a b : Addr} {xs ys : List V} {n : Nat} (hn : n = min xs.length ys.length) : Walk (RZ.ItzT K a b) n (fun H => SqT K H a xs ∧ SqT K H b ys) (YPair (fun i => xs[i]?) (fun i => ys[i]?)) := by
  refine ⟨fun i H hi h => ?_, fun H h => ⟨xs, ys, h.1, h.2, by omega⟩, fun i H x H' hi h y => ?_⟩
  · have h1 : i < xs.length := by omega
    have h2 : i < ys.length := by omega
    exact ⟨xs, ys, _, _, h.1, h.2, List.getElem?_eq_getElem h1, List.getElem?_eq_getElem h2⟩
  · obtain ⟨T, x', y', e, hT, e2, f1, f2⟩ := y
    exact ⟨T, x', y', e, hT, e2, f1 xs h.1, f2 ys h.2⟩
theorem valV_mem {κ : Type} [DecidableEq κ] {k : κ} {v : V} : ∀ {kvs : List (κ × V)}, (kvs.map (·.1)).Nodup → (k, v) ∈ kvs → valV kvs k = some v
  | [], _, h => nomatch h
  | p :: q, hn, h => by
    rcases List.mem_cons.mp h with e | h
    · rw [← e]; exact valV_pos rfl
    · rw [List.map_cons, List.nodup_cons] at hn
      rw [valV_neg fun e => hn.1 (by rw [e]; exact List.mem_map_of_mem (f := (·.1)) h)]
      exact valV_mem hn.2 h
theorem valV_no {κ : Type} [DecidableEq κ] {k : κ} : ∀ {kvs : List (κ × V)}, k ∉ kvs.map (·.1) → valV kvs k = none
  | [], _ => rfl
  | p :: q, h => by
    rw [List.map_cons, List.mem_cons] at h
    rw [valV_neg fun e => h (.inl e.symm)]
    exact valV_no fun z => h (.inr z)
end L2
namespace K1
open PySem L2 LamX
/-! tuples of states, tables -/
def stepT (ts : List (List (List Int))) (k : Nat) (vs : List Int) : List Int := List.zipWith (fun t v => (t.getD v.toNat []).getD k 0) ts vs
def runT (ts : List (List (List Int))) (s0 : List Int) (u : List Nat) : List Int := u.foldl (fun s k => stepT ts k s) s0
theorem runT_snoc (ts : List (List (List Int))) (s0 : List Int) (u : List Nat) (k : Nat) : runT ts s0 (u ++ [k]) = stepT ts k (runT ts s0 u) := by simp [runT]
theorem runT_c (ts : List (List (List Int))) (s0 : List Int) : ∀ u v k, runT ts s0 u = runT ts s0 v → runT ts s0 (u ++ [k]) = runT ts s0 (v ++ [k]) := fun u v k e => by rw [runT_snoc, runT_snoc, e]
def TabOk (w : Nat) (t : List (List Int)) : Prop := ∀ row ∈ t, row.length = w ∧ ∀ x ∈ row, 0 ≤ x ∧ x < (t.length : Int)
def StOk (ts : List (List (List Int))) (vs : List Int) : Prop := vs.length = ts.length ∧ ∀ (i : Nat) (t : List (List Int)) (v : Int), ts[i]? = some t → vs[i]? = some v → 0 ≤ v ∧ v < (t.length : Int)
theorem StOk.step {w : Nat} {ts : List (List (List Int))} {vs : List Int} {k : Nat} (h : StOk ts vs) (ht : ∀ t ∈ ts, TabOk w t) (hk : k < w) : StOk ts (stepT ts k vs) := by
  refine ⟨by simp [stepT, h.1], fun i t v e1 e2 => ?_⟩
  rw [stepT, List.getElem?_zipWith] at e2
  rw [e1] at e2
  cases ev : vs[i]? with
  | none => rw [ev] at e2; cases e2
  | some v0 =>
    rw [ev] at e2
    cases e2
    obtain ⟨h0, h1⟩ := h.2 i t v0 e1 ev
    have hrow := getD_get ([] : List Int) (xs := t) (n := v0.toNat) (by omega)
    obtain ⟨hl, hx⟩ := ht t (List.mem_of_getElem? e1) _ (List.mem_of_getElem? hrow)
    exact hx _ (List.mem_of_getElem? (getD_get (0 : Int) (by rw [hl]; exact hk)))
theorem StOk.run {w : Nat} {ts : List (List (List Int))} {s0 : List Int} (h : StOk ts s0) (ht : ∀ t ∈ ts, TabOk w t) : ∀ (u : List Nat) , (∀ k ∈ u, k < w) → StOk ts (runT ts s0 u) := fun u => by
  show _ → StOk ts (u.foldl (fun s k => stepT ts k s) s0)
  induction u generalizing s0 with
  | nil => exact fun _ => h
  | cons k u ih => exact fun hu => ih (h.step ht (hu k (List.mem_cons_self ..))) fun j hj => hu j (List.mem_cons_of_mem _ hj)
/-! dicts of what is met -/
def keyI (s : List Int) : List Key := s.map Sum.inl
theorem keyI_kV (s : List Int) : (keyI s).map kV = s.map V.int := by simp [keyI, kV]
theorem keyI_inj {s t : List Int} (h : keyI s = keyI t) : s = t := by
  induction s generalizing t with
  | nil => cases t with
    | nil => rfl
    | cons a b => cases h
  | cons x q ih => cases t with
    | nil => cases h
    | cons a b =>
      simp only [keyI, List.map_cons, List.cons.injEq, Sum.inl.injEq] at h
      rw [h.1, ih h.2]
def KeepT (H H' : Hp) : Prop := ∀ a xs, H a = some (.tup xs) → H' a = some (.tup xs)
theorem KeepT.of {H H' : Hp} (s : Same H H') : KeepT H H' := fun a xs e => s _ _ e
theorem KeepT.trans {H H1 H2 : Hp} (a : KeepT H H1) (b : KeepT H1 H2) : KeepT H H2 := fun c xs e => b _ _ (a _ _ e)
theorem KeepT.updT {H : Hp} {a : Addr} {kvs : List (List Key × V)} {o : HO} (h : H a = some (.dT kvs)) : KeepT H (upd H a o) := fun b xs e => by rw [upd_ne (ne_of e h (by intro z; cases z))]; exact e
theorem KeepT.updF {H : Hp} {a : Addr} {kvs : List (List Key × V)} {od : Obj} {o : HO} (h : H a = some (.frz od (.dT kvs))) : KeepT H (upd H a o) := fun b xs e => by rw [upd_ne (ne_of e h (by intro z; cases z))]; exact e
section
variable (r : List Nat → List Int) (ws : List Str)
/-- how a word's last step is told -/
def EVal (H : Hp) (v : V) (u : List Nat) : Prop := (u = [] ∧ v = .non) ∨ ∃ (u' : List Nat) (k : Nat) (t q : Addr), u = u' ++ [k] ∧ v = .ref t ∧ H t = some (.tup [.ref q, .str (ws.getD k "")]) ∧ H q = some (.tup ((r u').map V.int))
def Ents (H : Hp) (kvs : List (List Key × V)) (M : List (List Nat)) : Prop := kvs.length = M.length ∧ ∀ (i : Nat) (k : List Key) (v : V) (u : List Nat), kvs[i]? = some (k, v) → M[i]? = some u → k = keyI (r u) ∧ EVal r ws H v u
def DAt (H : Hp) (d : Addr) (M : List (List Nat)) : Prop := ∃ kvs, H d = some (.dT kvs) ∧ Ents r ws H kvs M
variable {r ws}
theorem EVal.keep {H H' : Hp} {v : V} {u : List Nat} (h : EVal r ws H v u) (k : KeepT H H') : EVal r ws H' v u := by
  rcases h with h | ⟨u', j, t, q, h1, h2, h3, h4⟩
  · exact .inl h
  · exact .inr ⟨u', j, t, q, h1, h2, k _ _ h3, k _ _ h4⟩
theorem Ents.keep {H H' : Hp} {kvs : List (List Key × V)} {M : List (List Nat)} (h : Ents r ws H kvs M) (k : KeepT H H') : Ents r ws H' kvs M := ⟨h.1, fun i j v u e1 e2 => ⟨(h.2 i j v u e1 e2).1, (h.2 i j v u e1 e2).2.keep k⟩⟩
theorem Ents.keys {H : Hp} : ∀ {kvs : List (List Key × V)} {M : List (List Nat)}, Ents r ws H kvs M → kvs.map (·.1) = M.map fun u => keyI (r u)
  | [], [], _ => rfl
  | [], _ :: _, h => by simp [Ents] at h
  | _ :: _, [], h => by simp [Ents] at h
  | (k, v) :: kvs, u :: M, h => by
    rw [List.map_cons, List.map_cons, (h.2 0 k v u rfl rfl).1, Ents.keys (kvs := kvs) (M := M) ⟨by simpa using h.1, fun i k v u e1 e2 => h.2 (i + 1) k v u e1 e2⟩]
theorem Ents.nodup {H : Hp} {kvs : List (List Key × V)} {M : List (List Nat)} (h : Ents r ws H kvs M) (hn : (M.map r).Nodup) : (kvs.map (·.1)).Nodup := by
  rw [h.keys]
  have : (M.map fun u => keyI (r u)) = (M.map r).map keyI := by rw [List.map_map]; rfl
  rw [this]
  exact hn.map keyI fun a b e hab => e (keyI_inj hab)
theorem Ents.no {H : Hp} {kvs : List (List Key × V)} {M : List (List Nat)} {s : List Int} (h : Ents r ws H kvs M) (hs : s ∉ M.map r) : valV kvs (keyI s) = none := by
  refine valV_no fun z => hs ?_
  rw [h.keys] at z
  obtain ⟨u, hu, e⟩ := List.mem_map.mp z
  rw [← keyI_inj e]
  exact List.mem_map_of_mem hu
theorem Ents.at {H : Hp} {kvs : List (List Key × V)} {M : List (List Nat)} (h : Ents r ws H kvs M) (hn : (M.map r).Nodup) {u : List Nat} (hu : u ∈ M) : ∃ v, valV kvs (keyI (r u)) = some v ∧ EVal r ws H v u := by
  obtain ⟨i, hi⟩ := List.getElem?_of_mem hu
  have hl : i < kvs.length := by rw [h.1]; exact (List.getElem?_eq_some_iff.mp hi).1
  obtain ⟨⟨k, v⟩, hk⟩ : ∃ p, kvs[i]? = some p := ⟨_, List.getElem?_eq_getElem hl⟩
  obtain ⟨e, ev⟩ := h.2 i k v u hk hi
  exact ⟨v, by rw [← e]; exact valV_mem (h.nodup hn) (List.mem_of_getElem? hk), ev⟩
theorem Ents.isSome {H : Hp} {kvs : List (List Key × V)} {M : List (List Nat)} (h : Ents r ws H kvs M) (hn : (M.map r).Nodup) (s : List Int) : (valV kvs (keyI s)).isSome = decide (s ∈ M.map r) := by
  by_cases hs : s ∈ M.map r
  · rw [decide_eq_true hs]
    obtain ⟨u, hu, rfl⟩ := List.mem_map.mp hs
    obtain ⟨v, e, _⟩ := h.at hn hu
    rw [e]; rfl
  · rw [decide_eq_false hs, h.no hs]; rfl
theorem Ents.snoc {H : Hp} {kvs : List (List Key × V)} {M : List (List Nat)} {u : List Nat} {v : V} (h : Ents r ws H kvs M) (hv : EVal r ws H v u) : Ents r ws H (kvs ++ [(keyI (r u), v)]) (M ++ [u]) := by
  refine ⟨by simp [h.1], fun i k v' u' e1 e2 => ?_⟩
  by_cases hi : i < kvs.length
  · rw [List.getElem?_append_left hi] at e1
    rw [List.getElem?_append_left (by rw [← h.1]; exact hi)] at e2
    exact h.2 i k v' u' e1 e2
  · rw [List.getElem?_append_right (by omega)] at e1
    rw [List.getElem?_append_right (by rw [← h.1]; omega), ← h.1] at e2
    cases hj : i - kvs.length with
    | zero =>
      rw [hj] at e1 e2
      simp at e1 e2
      obtain ⟨rfl, rfl⟩ := e1
      subst e2
      exact ⟨rfl, hv⟩
    | succ j => rw [hj] at e1; simp at e1
theorem DAt.same {H H' : Hp} {d : Addr} {M : List (List Nat)} (h : DAt r ws H d M) (s : Same H H') : DAt r ws H' d M := by
  obtain ⟨kvs, h1, h2⟩ := h
  exact ⟨kvs, s _ _ h1, h2.keep (.of s)⟩
end
theorem dd_len {r : List Nat → List Int} : ∀ (l acc : List (List Nat)), (dd r acc l).length ≤ acc.length + l.length
  | [], acc => by simp [dd_nil]
  | a :: l, acc => by
    rw [dd_cons]
    refine Nat.le_trans (dd_len l _) ?_
    by_cases e : r a ∈ acc.map r
    · rw [if_pos e, List.length_cons]; omega
    · rw [if_neg e, List.length_append]; simp only [List.length_cons, List.length_nil]; omega
theorem exts_len (w : Nat) : ∀ B : List (List Nat), (exts w B).length = w * B.length
  | [] => by simp [exts]
  | a :: B => by rw [exts_cons, List.length_append, exts_len w B, ext, List.length_map, List.length_range, List.length_cons, Nat.mul_succ]; omega
theorem ext_take {w j : Nat} (u : List Nat) (hj : j < w) : (ext w u).take (j + 1) = (ext w u).take j ++ [u ++ [j]] := by
  rw [List.take_add_one]
  congr 1
  rw [ext, List.getElem?_map, List.getElem?_range hj]; rfl
theorem ext_all {w : Nat} (u : List Nat) : (ext w u).take w = ext w u := List.take_of_length_le (by simp [ext])
/-- tables: tuples of tuples of rows -/
def TabsAt (K : PySem.W.Frag) (H : Hp) (tt : Addr) (ts : List (List (List Int))) : Prop := ∃ as : List Addr, SqT K H tt (as.map V.ref) ∧ as.length = ts.length ∧ ∀ (i : Nat) (a : Addr) (t : List (List Int)), as[i]? = some a → ts[i]? = some t → ∃ bs : List Addr, H a = some (.tup (bs.map V.ref)) ∧ RowsT H bs t
theorem TabsAt.keep {K : PySem.W.Frag} {H H' : Hp} {tt : Addr} {ts : List (List (List Int))} (h : TabsAt K H tt ts) (k : KeepT H H') (kt : ∀ a xs, SqT K H a xs → SqT K H' a xs) : TabsAt K H' tt ts := by
  obtain ⟨as, h1, h2, h3⟩ := h
  refine ⟨as, kt _ _ h1, h2, fun i a t e1 e2 => ?_⟩
  obtain ⟨bs, g1, g2⟩ := h3 i a t e1 e2
  exact ⟨bs, k _ _ g1, g2.1, fun j b q f1 f2 => k _ _ (g2.2 j b q f1 f2)⟩
abbrev sNL : Stmt := top 18
def spNL (K : PySem.W.Frag) : Sp := fun vs H Q _ => ∃ (de tt la me : Addr) (ws : List Str) (ts : List (List (List Int))) (s0 : List Int) (M B : List (List Nat)), vs = [.ref de, .ref tt, .ref la, .ref me] ∧ SqT K H de (ws.map V.str) ∧ TabsAt K H tt ts ∧
  (∀ t ∈ ts, TabOk ws.length t) ∧ StOk ts s0 ∧ DAt (runT ts s0) ws H la B ∧ DAt (runT ts s0) ws H me M ∧ la ≠ me ∧ (M.map (runT ts s0)).Nodup ∧ (∀ u ∈ B, ∀ k ∈ u, k < ws.length) ∧ ws.length * B.length ≤ 100000 ∧ ts.length ≤ 900 ∧
  ∀ (p : Addr) (N : List (List Nat)) (H' : Hp), H p = none → Same H H' → dd (runT ts s0) M (exts ws.length B) = M ++ N → DAt (runT ts s0) ws H' p N → Q (.ref p) H'
end K1
set_option Elab.async false
set_option linter.all false
set_option maxRecDepth 100000
/-! walks.next_layer keeps its promise -/
namespace K1
open PySem L2 LamX
section
variable {P : Program} {w : World} {K : PySem.W.Frag} {mg : Str → Option Value} {base : Heap}
abbrev pNL : List Str := ["deeds", "tables", "layer", "met"]
abbrev nNL : List Str := ["deeds", "tables", "layer", "met", "steps", "states", "index", "deed", "led", "table", "state"]
theorem scNL : FnScope nNL pNL (defScope sNL) := ⟨rfl, rfl, rfl, by decide +kernel, rfl, by decide +kernel, by decide +kernel⟩
theorem ok_nl {f : Addr} {fd : FuncData} (D : Df K mg "next_layer" sNL pNL f fd) (T : Bt2 mg) (hz : mg "zip" = none) : FnOk P w K mg base CX0 1 f fd pNL (spNL K) := by
  refine D.F.ok scNL (fun vs H Q E h => ?_) (fun cdv A outer s H vs Q E hr h => ?_)
  · obtain ⟨de, tt, la, me, ws, ts, s0, M, B, rfl, _⟩ := h
    rfl
  · obtain ⟨de, tt, la, me, ws, ts, s0, M, B, rfl, hde, htt, htab, hs0, hla, hme, nlm, hnd, hB, hsz, h900, k⟩ := h
    have hu := hu_of hr
    refine ⟨_, pss_cons (ps_set (i := 4) scNL.nd rfl (Or.inl rfl) pe_dnewT)
      (pss_cons (ps_lock (ps_for PassesOwn.never rfl (pi_keys (pv 2)) (pg_name (i := 5) scNL.nd rfl (Or.inl rfl))
        (pss_one (ps_for PassesOwn.never rfl (pi_enumT (by rfl) T.enumerate (pa_cons (pv 0) pa_nil)) (pg_tup (by rfl) (pgs_cons (pg_name (i := 6) scNL.nd rfl (Or.inr rfl)) (pgs_cons (pg_name (i := 7) scNL.nd rfl (Or.inl rfl)) pgs_nil)))
          (pss_cons (ps_set (i := 8) scNL.nd rfl (Or.inl rfl) (pe_callTy (r := rTu K) call_tuple_of (by rfl) T.tuple PyProof.Rows.boot_tuple (pa_cons (pe_lc (own := [("table", 9), ("state", 10)]) (g := gTup K 2 (gCons (gName 9) (gCons (gName 10) gNil))) (by rfl) scNL.nd (RZ.pi_zipA (by rfl) hz (pa_cons (pv 1) (pa_cons (pv 5) pa_nil)))
              (blkOk_by (own := [("table", 9), ("state", 10)]) (N := nNL) (sc := defScope sNL) (by decide +kernel)) (fun _ _ _ _ _ => pg_tup (by rfl) (pgs_cons (pg_name (i := 9) scNL.nd rfl (Or.inl rfl)) (pgs_cons (pg_name (i := 10) scNL.nd rfl (Or.inl rfl)) pgs_nil))) (fun _ _ _ _ _ => pts_nil)
              (fun _ _ _ _ _ => pe_ix (r := rIxT K) ix_tup (pe_ix (r := rIxT K) ix_tup (pv 9) (pv 10) (fun _ _ => rfl)) (pv 6) (fun _ _ => rfl))) pa_nil)))
          (pss_one (ps_if (PW.pt (pw_and (pt_cmp (pc_dnotin hu (pv 8) (pv 3))) (pw_and1 (pt_cmp (pc_dnotin hu (pv 8) (pv 4))))))
            (pss_one (ps_dput hu (pv 4) (pv 8) (pe_tup (pa_cons (pv 5) (pa_cons (pv 7) pa_nil))) rfl)) pss_nil)))))))
      (pss_one (ps_ret (pv 4)))), ?_⟩
    intro p hp
    obtain ⟨kB, hlaB, hEB⟩ := id hla
    obtain ⟨kM, hmeM, hEM⟩ := id hme
    have s1 := same_upd (o := .dT []) hp
    have ep1 : upd H p (.dT []) p = some (.dT []) := upd_same
    have npl : p ≠ la := (ne_of_none hlaB hp).symm
    have npm : p ≠ me := (ne_of_none hmeM hp).symm
    generalize hR : runT ts s0 = r at *
    generalize upd H p (.dT []) = H1 at s1 ep1 ⊢
    have hla1 := s1 _ _ hlaB
    have hme1 := s1 _ _ hmeM
    have tup_kx : ∀ {G : Hp}, (∀ b o, b ≠ la → b ≠ p → H1 b = some o → G b = some o) → KeepT H1 G := fun kx a xs e => kx _ _ (ne_of e hla1 (by intro z; cases z)) (ne_of e ep1 (by intro z; cases z)) e
    have sqt_kx : ∀ {G : Hp} {a : Addr} {xs : List V}, (∀ b o, b ≠ la → b ≠ p → H1 b = some o → G b = some o) → SqT K H1 a xs → SqT K G a xs := fun {G a xs} kx h => by
      rcases h with (h | ⟨o, h⟩) | h
      · exact .inl (.inl (tup_kx kx _ _ h))
      · exact .inl (.inr ⟨o, kx _ _ (ne_of h hla1 (by intro z; cases z)) (ne_of h ep1 (by intro z; cases z)) h⟩)
      · exact .inr h
    have hde1 := hde.ext s1
    have htt1 : TabsAt K H1 tt ts := htt.keep (.of s1) fun a xs h => h.ext s1
    have hEM1 := hEM.keep (.of s1)
    have hEB1 := hEB.keep (.of s1)
    have lw : ((ws.map V.str).length) = ws.length := List.length_map _
    refine ⟨la, .dT kB, hla1, trivial, fun od => ?_⟩
    refine ⟨_, rfl, la, od, rfl, .inr ⟨kB, upd_same, for_it (walk_keysT (d := la) (o := od) (kvs := kB)) (fun i σ H' => (∀ b o, b ≠ la → b ≠ p → H1 b = some o → H' b = some o) ∧ H' la = some (.frz od (.dT kB)) ∧
      (∃ kN N, H' p = some (.dT kN) ∧ Ents r ws H' kN N ∧ dd r M (exts ws.length (B.take i)) = M ++ N) ∧ ∃ v5 v6 v7 v8, σ = [some (.ref de), some (.ref tt), some (.ref la), some (.ref me), some (.ref p), v5, v6, v7, v8, none, none]) ?_ (fun i σ H' _ q => q.2.1) ?_ ?_⟩⟩
    · refine ⟨fun b o n1 n2 e => by rw [upd_ne n1]; exact e, upd_same, ⟨[], [], by rw [upd_ne npl]; exact ep1, ⟨rfl, fun i k v u e => by simp at e⟩, by simp [exts, dd_nil]⟩, none, none, none, none, rfl⟩
    · rintro i y σ H2 H2' hi ⟨kx, hla2, ⟨kN, N, hpN, hEN, hdd⟩, v5, v6, v7, v8, rfl⟩ ⟨rfl, key, v, q, hkv, rfl, hq⟩
      have hiB : i < B.length := by rw [← hEB.1]; exact hi
      have eu : B[i]? = some B[i] := List.getElem?_eq_getElem hiB
      have hub := hB _ (List.getElem_mem hiB)
      have etk : B.take (i + 1) = B.take i ++ [B[i]] := by rw [List.take_add_one, eu]; rfl
      generalize B[i] = u at eu hub etk
      obtain ⟨rfl, hev⟩ := hEB1.2 i _ _ _ hkv eu
      rw [keyI_kV] at hq
      have hst : StOk ts (r u) := by rw [← hR]; exact hs0.run htab u hub
      have hgo : ∀ j, r (u ++ [j]) = stepT ts j (r u) := fun j => by rw [← hR]; exact runT_snoc ts s0 u j
      -- the deeds
      refine ⟨_, rfl, de, _, rfl, sqt_kx kx hde1, ?_⟩
      refine for_it (walk_enumT (K := K) (a := de) (xs := ws.map V.str)) (fun j σ H' => (∀ b o, b ≠ la → b ≠ p → H1 b = some o → H' b = some o) ∧ H' la = some (.frz od (.dT kB)) ∧ H' q = some (.tup ((r u).map V.int)) ∧
        (∃ kN N, H' p = some (.dT kN) ∧ Ents r ws H' kN N ∧ dd r M (exts ws.length (B.take i) ++ (ext ws.length u).take j) = M ++ N) ∧ ∃ v6 v7 v8, σ = [some (.ref de), some (.ref tt), some (.ref la), some (.ref me), some (.ref p), some (.ref q), v6, v7, v8, none, none]) ?_ (fun j σ H' _ q => sqt_kx q.1 hde1) ?_ ?_
      · exact ⟨kx, hla2, hq, ⟨kN, N, hpN, hEN, by rw [List.take_zero, List.append_nil]; exact hdd⟩, v6, v7, v8, rfl⟩
      · rintro j y σ H3 H4 hj ⟨kx3, hla3, hq3, ⟨kN3, N3, hpN3, hEN3, hdd3⟩, v6', v7', v8', rfl⟩ ⟨t, x1, x2, rfl, ht, rfl, f1, f2⟩
        cases f1
        replace f2 : (ws.map V.str)[j]? = some x2 := f2
        rw [List.getElem?_map] at f2
        obtain ⟨z, ez, rfl⟩ := Option.map_eq_some_iff.mp f2
        have hjw : j < ws.length := by rw [List.length_map] at hj; exact hj
        have ezd : z = ws.getD j "" := by rw [List.getD_eq_getElem?_getD, ez]; rfl
        have s4 := same_upd (o := .tup [V.int (j : Nat), V.str z]) ht
        refine ⟨t, _, rfl, SqT.of upd_same, rfl, _, _, rfl, _, _, rfl, rfl, ?_⟩
        have kx4 : ∀ b o, b ≠ la → b ≠ p → H1 b = some o → upd H3 t (.tup [V.int (j : Nat), V.str z]) b = some o := fun b o n1 n2 e => s4 _ _ (kx3 b o n1 n2 e)
        have hla4 := s4 _ _ hla3
        have hq4 := s4 _ _ hq3
        have hpN4 := s4 _ _ hpN3
        have hEN4 := hEN3.keep (.of s4)
        generalize upd H3 t (.tup [V.int (j : Nat), V.str z]) = H4 at s4 kx4 hla4 hq4 hpN4 hEN4 ⊢
        obtain ⟨as, hta, hal, hab⟩ := htt1
        have hta4 := sqt_kx kx4 hta
        -- led
        refine ⟨_, rfl, _, rfl, tt, q, _, _, rfl, .inr ⟨hta4, SqT.of hq4, fun D hD => ?_⟩⟩
        have hln : ts.length = min (as.map V.ref).length ((r u).map V.int).length := by rw [List.length_map, List.length_map, hal, hst.1]; simp
        refine lc_it (walk_zipT hln) (fun m H' => Same H4 H' ∧ H' D = some (.lst (((stepT ts j (r u)).take m).map V.int))) ?_ ?_ ?_ ?_
        · exact ⟨same_upd hD, upd_same⟩
        · exact fun m H' _ pp => ⟨hta4.ext pp.1, (SqT.of hq4).ext pp.1⟩
        · rintro m y H5 H6 hm ⟨s5, hD5⟩ ⟨t5, x1, x2, rfl, ht5, rfl, e1, e2⟩
          replace e1 : (as.map V.ref)[m]? = some x1 := e1
          replace e2 : ((r u).map V.int)[m]? = some x2 := e2
          rw [List.getElem?_map] at e1 e2
          obtain ⟨a, ea, rfl⟩ := Option.map_eq_some_iff.mp e1
          obtain ⟨vi, evi, rfl⟩ := Option.map_eq_some_iff.mp e2
          have et : ts[m]? = some ts[m] := List.getElem?_eq_getElem hm
          have hT := htab _ (List.getElem_mem hm)
          generalize ts[m] = tb at et hT
          obtain ⟨bs, ha1, hrow⟩ := hab m a tb ea et
          obtain ⟨v0, v1⟩ := hst.2 m tb vi et evi
          have s56 := same_upd (o := .tup [V.ref a, V.int vi]) ht5
          have s46 := s5.trans s56
          have kx6 : KeepT H1 (upd H5 t5 (.tup [V.ref a, V.int vi])) := (tup_kx kx4).trans (.of s46)
          have hvl : vi.toNat < tb.length := by omega
          have erow := getD_get ([] : List Int) hvl
          obtain ⟨hrl, _⟩ := hT _ (List.mem_of_getElem? erow)
          have hbl : bs.length = tb.length := hrow.1
          obtain ⟨ab, eab, atb⟩ := at_ref (as := bs) (k := vi) v0 (by omega)
          have hab6 := kx6 _ _ (hrow.2 _ _ _ eab erow)
          have el : (stepT ts j (r u))[m]? = some ((tb.getD vi.toNat []).getD j 0) := by
            rw [stepT, List.getElem?_zipWith, et, evi]
          refine ⟨t5, _, rfl, SqT.of upd_same, rfl, _, _, rfl, _, _, rfl, rfl, rfl, _, rfl, _, rfl, a, _, _, _, rfl, rfl, SqT.of (kx6 _ _ ha1), atb, _, rfl, ab, _, _, _, rfl, rfl, SqT.of hab6, at_int (k := (j : Nat)) (by omega) (by omega), ?_⟩
          refine ⟨_, s56 _ _ hD5, ?_, ?_, ?_⟩
          · rw [List.length_map, List.length_take]
            exact small1000 (by omega)
          · exact fun c o e => by rw [upd_ne (ne_of_none e hD)]; exact s56 _ _ (s5 c o e)
          · rw [upd_same, List.take_add_one, el, List.map_append]; rfl
        · rintro H5 ⟨s5, hD5⟩
          have hsl : (stepT ts j (r u)).length = ts.length := by simp [stepT, hst.1]
          rw [List.take_of_length_le (by omega)] at hD5
          refine ⟨D, _, rfl, .inl ⟨SqL.of hD5, fun p8 hp8 => ?_⟩⟩
          have e8 : upd H5 p8 (.tup ((stepT ts j (r u)).map V.int)) p8 = some (.tup ((keyI (stepT ts j (r u))).map kV)) := by rw [keyI_kV]; exact upd_same
          have s8 := s5.trans (same_upd (o := .tup ((stepT ts j (r u)).map V.int)) hp8)
          generalize upd H5 p8 (.tup ((stepT ts j (r u)).map V.int)) = H8 at e8 s8 ⊢
          have kx8 : ∀ b o, b ≠ la → b ≠ p → H1 b = some o → H8 b = some o := fun b o n1 n2 e => s8 _ _ (kx4 b o n1 n2 e)
          have hme8 := kx8 _ _ nlm.symm npm.symm hme1
          have hla8 := s8 _ _ hla4
          have hq8 := s8 _ _ hq4
          have hpN8 := s8 _ _ hpN4
          have hEN8 := hEN4.keep (.of s8)
          have hnd3 : ((M ++ N3).map r).Nodup := by rw [← hdd3]; exact dd_nodup hnd
          have hndN : (N3.map r).Nodup := by rw [List.map_append] at hnd3; exact (List.nodup_append.mp hnd3).2.1
          have edd : dd r M (exts ws.length (B.take i) ++ (ext ws.length u).take (j + 1)) = dd r (M ++ N3) [u ++ [j]] := by
            rw [ext_take u hjw, ← List.append_assoc, dd_app, hdd3]
          have old : stepT ts j (r u) ∈ (M ++ N3).map r → dd r M (exts ws.length (B.take i) ++ (ext ws.length u).take (j + 1)) = M ++ N3 := fun hm => by
            rw [edd]; exact dd_noop fun v hv => by rw [List.mem_singleton.mp hv, hgo]; exact hm
          refine ⟨_, rfl, _, rfl, me, _, rfl, DGet.t hme8 e8, _, rfl, ?_⟩
          rw [hEM1.isSome hnd]
          refine ite2 (fun hno => ?_) (fun hyes => ?_)
          · have hnM : stepT ts j (r u) ∉ M.map r := by simpa using hno
            refine ⟨_, rfl, _, rfl, p, _, rfl, DGet.t hpN8 e8, _, rfl, ?_⟩
            rw [hEN8.isSome hndN]
            refine ite2 (fun hno2 => ?_) (fun hyes => ?_)
            · have hnN : stepT ts j (r u) ∉ N3.map r := by simpa using hno2
              refine ⟨_, rfl, _, rfl, Nat.le_of_ble_eq_true rfl, fun tv htv => ⟨_, rfl, _, rfl, p, _, rfl, DPut.t (same_upd htv _ _ hpN8) (same_upd htv _ _ e8) ?_, ?_⟩⟩
              · have h1 := dd_len (r := r) (exts ws.length (B.take i) ++ (ext ws.length u).take j) M
                rw [hdd3, List.length_append, List.length_append, exts_len, List.length_take, List.length_take] at h1
                have h2 : ws.length * min i B.length ≤ ws.length * B.length := Nat.mul_le_mul_left _ (Nat.min_le_right _ _)
                have h3 := hEN3.1
                have h4 : ws.length ≤ ws.length * B.length := Nat.le_mul_of_pos_right _ (by omega)
                have h5 : min j (ext ws.length u).length ≤ j := Nat.min_le_left _ _
                rw [sizeLine_eq]; omega
              have s9 := same_upd (o := .tup [V.ref q, V.str z]) htv
              have e9 : upd H8 tv (.tup [V.ref q, V.str z]) tv = some (.tup [V.ref q, V.str z]) := upd_same
              have nev : valV kN3 (keyI (stepT ts j (r u))) = none := hEN8.no hnN
              rw [putK_new _ nev]
              have hpN9 := s9 _ _ hpN8
              have hEN9 := hEN8.keep (.of s9)
              have hq9 := s9 _ _ hq8
              have hla9 := s9 _ _ hla8
              generalize upd H8 tv (.tup [V.ref q, V.str z]) = H9 at s9 e9 hpN9 hEN9 hq9 hla9 ⊢
              have hEN10 := (hEN9.snoc (u := u ++ [j]) (v := .ref tv) (.inr ⟨u, j, tv, q, rfl, rfl, by rw [← ezd]; exact e9, hq9⟩)).keep (KeepT.updT (o := .dT (kN3 ++ [(keyI (r (u ++ [j])), V.ref tv)])) hpN9)
              rw [hgo] at hEN10
              refine ⟨fun b o n1 n2 e => by rw [upd_ne n2]; exact s9 _ _ (kx8 b o n1 n2 e), by rw [upd_ne npl.symm]; exact hla9, KeepT.updT hpN9 _ _ hq9, ⟨_, N3 ++ [u ++ [j]], upd_same, hEN10, ?_⟩, _, _, _, rfl⟩
              rw [edd, dd_cons, if_neg, dd_nil, List.append_assoc]
              rw [hgo, List.map_append, List.mem_append]
              exact fun z => z.elim hnM hnN
            · have hN : stepT ts j (r u) ∈ N3.map r := by simpa using hyes
              exact ⟨kx8, hla8, hq8, ⟨kN3, N3, hpN8, hEN8, old (by rw [List.map_append]; exact List.mem_append_right _ hN)⟩, _, _, _, rfl⟩
          · have hM : stepT ts j (r u) ∈ M.map r := by simpa using hyes
            exact ⟨kx8, hla8, hq8, ⟨kN3, N3, hpN8, hEN8, old (by rw [List.map_append]; exact List.mem_append_left _ hM)⟩, _, _, _, rfl⟩
      · rintro σ H3 ⟨kx3, hla3, hq3, ⟨kN3, N3, hpN3, hEN3, hdd3⟩, v6', v7', v8', rfl⟩
        rw [lw, ext_all] at hdd3
        exact ⟨kx3, hla3, ⟨kN3, N3, hpN3, hEN3, by rw [etk, exts_app]; simpa [exts] using hdd3⟩, _, v6', v7', v8', rfl⟩
    · rintro σ H2 ⟨kx, hla2, ⟨kN, N, hpN, hEN, hdd⟩, v5, v6, v7, v8, rfl⟩
      rw [hEB.1, List.take_length] at hdd
      refine ⟨hla2, _, rfl, k p N _ hp (fun b o e => ?_) hdd ⟨kN, by rw [upd_ne npl]; exact hpN, hEN.keep (KeepT.updF hla2)⟩⟩
      by_cases hb : b = la
      · subst hb
        rw [hlaB] at e; cases e
        exact upd_same
      · rw [upd_ne hb]
        exact kx b o hb (ne_of_none e hp) (s1 _ _ e)
end
end K1
set_option Elab.async false
set_option linter.all false
set_option maxRecDepth 100000
/-! walks.row_to -/
namespace L2
open PySem PySem.Spec PyProof.Rows
/-- a while by a number that the invariant tells -/
theorem while_ix {c : TT} {tb : TS} {D : Ends} {σ : St} {H : Hp} (Pv : Nat → St → Hp → Prop) (m0 : Nat) (h0 : Pv m0 σ H)
    (hs : ∀ m σ H, Pv m σ H → c σ H fun b H1 => if b = true then tb { D with nx := fun σ' H' => ∃ m', m' < m ∧ Pv m' σ' H', ct := fun σ' H' => ∃ m', m' < m ∧ Pv m' σ' H', bk := D.nx } σ H1 else D.nx σ H1)
    (mono : ∀ σ H Q Q', (∀ b H1, Q b H1 → Q' b H1) → c σ H Q → c σ H Q') : tWhile c tb D σ H := by
  refine ⟨Pv, ⟨_, h0⟩, fun m σ H p => ?_⟩
  refine mono σ H _ _ (fun b H1 q => ?_) (hs m σ H p)
  cases b with
  | true => exact ⟨_, fun σ' H' z => z, q⟩
  | false => exact q
end L2
namespace K1
open PySem L2 LamX
abbrev sRT : Stmt := top 20
def names (ws : List Str) (u : List Nat) : List V := u.map fun k => V.str (ws.getD k "")
def spRT (K : PySem.W.Frag) : Sp := fun vs H Q _ => ∃ (fo q : Addr) (r : List Nat → List Int) (ws : List Str) (M : List (List Nat)) (u : List Nat), vs = [.ref fo, .ref q] ∧ DAt r ws H fo M ∧ (M.map r).Nodup ∧ (∀ u k, u ++ [k] ∈ M → u ∈ M) ∧ u ∈ M ∧ H q = some (.tup ((r u).map V.int)) ∧ u.length ≤ 100000 ∧
  ∀ p H', H p = none → Same H H' → H' p = some (.tup (names ws u)) → Q (.ref p) H'
section
variable {P : Program} {w : World} {K : PySem.W.Frag} {mg : Str → Option Value} {base : Heap}
abbrev pRT : List Str := ["found", "states"]
abbrev nRT : List Str := ["found", "states", "deeds", "step"]
theorem scRT : FnScope nRT pRT (defScope sRT) := ⟨rfl, rfl, rfl, by decide +kernel, rfl, by decide +kernel, by decide +kernel⟩
theorem ok_rt {f : Addr} {fd : FuncData} (D : Df K mg "row_to" sRT pRT f fd) (T : Bt2 mg) : FnOk P w K mg base CX0 1 f fd pRT (spRT K) := by
  refine D.F.ok scRT (fun vs H Q E h => ?_) (fun cdv A outer s H vs Q E hr h => ?_)
  · obtain ⟨fo, q, r, ws, M, u, rfl, _⟩ := h
    rfl
  · obtain ⟨fo, q, r, ws, M, u, rfl, ⟨kv, hfo, hE⟩, hnd, hpre, hu', hq, hlen, k⟩ := h
    have hu := hu_of hr
    refine ⟨_, pss_cons (ps_set (i := 2) scRT.nd rfl (Or.inl rfl) (pe_lst pa_nil))
      (pss_cons (ps_set (i := 3) scRT.nd rfl (Or.inl rfl) (pe_dget hu (pv 0) (pv 1) (fun _ _ => rfl)))
      (pss_cons (ps_while PassesOwn.never (pt_cmpR op_notN (pv 3) pe_non (nomark _))
        (pss_cons (ps_expr (pe_bm PySem.F.plainAttrs_list PySem.F.slot_list_append PySem.F.type_list_append mt_append (pv 2) (pa_cons (pe_ix (r := rIxT K) ix_tup (pv 3) pe_int (fun _ _ => rfl)) pa_nil)))
        (pss_one (ps_set (i := 3) scRT.nd rfl (Or.inl rfl) (pe_dget hu (pv 0) (pe_ix (r := rIxT K) ix_tup (pv 3) pe_int (fun _ _ => rfl)) (fun _ _ => rfl))))))
      (pss_one (ps_ret (pe_callTy (r := rTu K) call_tuple_of (by rfl) T.tuple PyProof.Rows.boot_tuple (pa_cons (pe_revL (pv 2)) pa_nil)))))), ?_⟩
    refine ⟨Nat.zero_le _, fun l hl => ?_⟩
    have s1 := same_upd (o := .lst []) hl
    have el1 : upd H l (.lst []) l = some (.lst []) := upd_same
    generalize upd H l (.lst []) = H1 at s1 el1 ⊢
    obtain ⟨v0, ev0, hv0⟩ := hE.at hnd hu'
    refine ⟨_, rfl, _, rfl, fo, v0, rfl, by rw [← ev0]; exact DGet.t (s1 _ _ hfo) (by rw [keyI_kV]; exact s1 _ _ hq), ?_⟩
    refine while_ix (fun m σ H' => ∃ (u1 u2 : List Nat) (v : V), u1.length = m ∧ u = u1 ++ u2 ∧ u1 ∈ M ∧ EVal r ws H v u1 ∧ Same H H' ∧ H' l = some (.lst (names ws u2.reverse)) ∧ σ = [some (.ref fo), some (.ref q), some (.ref l), some v]) u.length ?_ ?_ ?_
    · exact ⟨u, [], v0, rfl, (List.append_nil u).symm, hu', hv0, s1, el1, rfl⟩
    · rintro m σ H2 ⟨u1, u2, v, rfl, eu, hm1, hv, s2, el2, rfl⟩
      refine ⟨_, rfl, rfl, _, rfl, ?_⟩
      rcases hv with ⟨rfl, rfl⟩ | ⟨u', j, t, q', rfl, rfl, ht, hq'⟩
      · refine iteF ?_
        refine ⟨_, rfl, l, _, rfl, SqL.of el2, fun p1 hp1 => ?_⟩
        have e3 : upd H2 p1 (.lst (names ws u2.reverse).reverse) p1 = some (.lst (names ws u2.reverse).reverse) := upd_same
        have s3 := s2.trans (same_upd (o := .lst (names ws u2.reverse).reverse) hp1)
        generalize upd H2 p1 (.lst (names ws u2.reverse).reverse) = H3 at e3 s3 ⊢
        refine ⟨p1, _, rfl, .inl ⟨SqL.of e3, fun p2 hp2 => ?_⟩⟩
        refine k p2 _ (s3.free hp2) (s3.trans (same_upd hp2)) ?_
        rw [upd_same, eu, names, names, List.map_reverse, List.reverse_reverse]; rfl
      · refine iteT ?_
        have hll : (names ws u2.reverse).length < sizeLine := by
          have h1 := congrArg List.length eu
          rw [List.length_append, List.length_append] at h1
          rw [names, List.length_map, List.length_reverse, sizeLine_eq]; omega
        refine ⟨_, rfl, .inl ⟨rfl, _, SqL.of el2⟩, _, rfl, t, _, _, _, rfl, rfl, SqT.of (s2 _ _ ht), atI_nat (j := 1) rfl, l, _, _, rfl, rfl, el2, hll, ?_⟩
        have s3 : Same H (upd H2 l (.lst (names ws u2.reverse ++ [V.str (ws.getD j "")]))) := fun b o e => by rw [upd_ne (ne_of_none e hl)]; exact s2 _ _ e
        have el3 : upd H2 l (.lst (names ws u2.reverse ++ [V.str (ws.getD j "")])) l = some (.lst (names ws (j :: u2).reverse)) := by
          rw [upd_same, names, names, List.reverse_cons, List.map_append]; rfl
        generalize upd H2 l (.lst (names ws u2.reverse ++ [V.str (ws.getD j "")])) = H3 at s3 el3 ⊢
        have hm' := hpre u' j hm1
        obtain ⟨v', ev', hv'⟩ := hE.at hnd hm'
        refine ⟨_, rfl, _, rfl, t, _, _, _, rfl, rfl, SqT.of (s3 _ _ ht), atI_nat (j := 0) rfl, fo, v', rfl, by rw [← ev']; exact DGet.t (s3 _ _ hfo) (by rw [keyI_kV]; exact s3 _ _ hq'), ?_⟩
        exact ⟨u'.length, by rw [List.length_append]; exact Nat.lt_succ_self _, u', j :: u2, v', rfl, by rw [eu, List.append_assoc]; rfl, hm', hv', s3, el3, rfl⟩
    · rintro σ H Q Q' hQ ⟨v, e, h1, c, h2, h3⟩
      exact ⟨v, e, h1, c, h2, hQ _ _ h3⟩
end
end K1
set_option Elab.async false
set_option linter.all false
set_option maxRecDepth 100000
/-! machines.first_parting -/
namespace K1
open PySem L2 LamX
abbrev sFP : Stmt := top 38
theorem nodup_sub_len {α : Type} [DecidableEq α] : ∀ (l m : List α), l.Nodup → (∀ x ∈ l, x ∈ m) → l.length ≤ m.length
  | [], _, _, _ => Nat.zero_le _
  | a :: l, m, hn, hs => by
    rw [List.nodup_cons] at hn
    have ha := hs a (List.mem_cons_self ..)
    have h1 := nodup_sub_len l (m.erase a) hn.2 fun x hx => (List.mem_erase_of_ne (fun e => hn.1 (by rw [← e]; exact hx))).mpr (hs x (List.mem_cons_of_mem _ hx))
    rw [List.length_erase_of_mem ha] at h1
    have := List.length_pos_of_mem ha
    rw [List.length_cons]; omega
/-- all tuples of states -/
def prodL : List (List (List Int)) → List (List Int)
  | [] => [[]]
  | t :: ts => (List.range t.length).flatMap fun (x : Nat) => (prodL ts).map fun q => (x : Int) :: q
def prodN : List (List (List Int)) → Nat
  | [] => 1
  | t :: ts => t.length * prodN ts
theorem prodL_len : ∀ ts, (prodL ts).length = prodN ts
  | [] => rfl
  | t :: ts => by
    rw [prodL, prodN, ← prodL_len ts, List.length_flatMap]
    simp [List.map_const']
theorem prodL_mem : ∀ (ts : List (List (List Int))) (vs : List Int), StOk ts vs → vs ∈ prodL ts
  | [], vs, h => by
    have : vs = [] := List.length_eq_zero_iff.mp h.1
    rw [this]; exact List.mem_singleton.mpr rfl
  | t :: ts, [], h => by have := h.1; simp at this
  | t :: ts, v :: vs, h => by
    obtain ⟨h0, h1⟩ := h.2 0 t v rfl rfl
    rw [prodL, List.mem_flatMap]
    refine ⟨v.toNat, List.mem_range.mpr (by omega), List.mem_map.mpr ⟨vs, prodL_mem ts vs ⟨by simpa using h.1, fun i t' v' e1 e2 => h.2 (i + 1) t' v' e1 e2⟩, ?_⟩⟩
    rw [Int.toNat_of_nonneg h0]
theorem met_len {w : Nat} {ts : List (List (List Int))} {s0 : List Int} {M : List (List Nat)} (h : StOk ts s0) (ht : ∀ t ∈ ts, TabOk w t) (hn : (M.map (runT ts s0)).Nodup) (hl : ∀ u ∈ M, ∀ k ∈ u, k < w) : M.length ≤ prodN ts := by
  rw [← prodL_len, ← List.length_map (f := runT ts s0)]
  refine nodup_sub_len _ _ hn fun x hx => ?_
  obtain ⟨u, hu, rfl⟩ := List.mem_map.mp hx
  exact prodL_mem _ _ (h.run ht u (hl u hu))
/-- the two tell different things -/
def dif (s1 s2 : List Str) (vs : List Int) : Bool := decide (s1.getD (vs.getD 0 0).toNat "" ≠ s2.getD (vs.getD 1 0).toNat "")
theorem Parts.tab {ws : List Str} {rs : List (List Int)} {ss : List Str} {st : Int} (h : Parts ws rs ss st) : TabOk ws.length rs := h.row
/-- the first word, of all, for which two states are told apart; none -/
def FirstW (w : Nat) (r : List Nat → List Int) (s1 s2 : List Str) (u : List Nat) : Prop := (allU w u.length).find? (fun v => dif s1 s2 (r v)) = some u
def NoW (w : Nat) (r : List Nat → List Int) (s1 s2 : List Str) : Prop := ∀ n, (allU w n).find? (fun v => dif s1 s2 (r v)) = none
theorem MachAt.same {K : PySem.W.Frag} {C : Addr} {H H' : Hp} {x : Addr} {ws : List Str} {rs : List (List Int)} {ss : List Str} {st : Int} (h : MachAt K C H x ws rs ss st) (s : Same H H') : MachAt K C H' x ws rs ss st := by
  obtain ⟨dx, t, r, l, as, h1, h2, h3, h4, h5⟩ := h
  exact ⟨dx, t, r, l, as, s _ _ h1, h2.same s, s _ _ h3, h4.same s, s _ _ h5⟩
def spFP (K : PySem.W.Frag) (C : Addr) : Sp := fun vs H Q _ => ∃ (x y : Addr) (a b : Int) (ws : List Str) (rs1 : List (List Int)) (ss1 : List Str) (st1 : Int) (rs2 : List (List Int)) (ss2 : List Str) (st2 : Int),
  vs = [.ref x, .int a, .ref y, .int b] ∧ MachAt K C H x ws rs1 ss1 st1 ∧ MachAt K C H y ws rs2 ss2 st2 ∧ Parts ws rs1 ss1 st1 ∧ Parts ws rs2 ss2 st2 ∧ 0 ≤ a ∧ a < (rs1.length : Int) ∧ 0 ≤ b ∧ b < (rs2.length : Int) ∧
  (∀ u p H', FirstW ws.length (runT [rs1, rs2] [a, b]) ss1 ss2 u → H p = none → Same H H' → H' p = some (.tup (names ws u)) → Q (.ref p) H') ∧
  (∀ H', NoW ws.length (runT [rs1, rs2] [a, b]) ss1 ss2 → Same H H' → Q .non H')
section
variable {P : Program} {w : World} {K : PySem.W.Frag} {mg : Str → Option Value} {base : Heap}
abbrev pFP : List Str := ["one", "a", "other", "b"]
abbrev nFP : List Str := ["one", "a", "other", "b", "met", "layer", "mine", "theirs", "pair", "step"]
theorem scFP : FnScope nFP pFP (defScope sFP) := ⟨rfl, rfl, rfl, by decide +kernel, rfl, by decide +kernel, by decide +kernel⟩
theorem ok_fp {C f fN fR : Addr} {fd fdN fdR : FuncData} (D : Df K mg "first_parting" sFP pFP f fd) (DN : Df K mg "next_layer" sNL pNL fN fdN) (DR : Df K mg "row_to" sRT pRT fR fdR) (M : Tm K mg C) (T : Bt2 mg) (hz : mg "zip" = none) : FnOk P w K mg base CX0 2 f fd pFP (spFP K C) := by
  have GN : FnOk P w K mg base CX0 1 fN fdN pNL (spNL K) := ok_nl DN T hz
  have GR : FnOk P w K mg base CX0 1 fR fdR pRT (spRT K) := ok_rt DR T
  refine D.F.ok scFP (fun vs H Q E h => ?_) (fun cdv A outer s H vs Q E hr h => ?_)
  · obtain ⟨x, y, a, b, ws, rs1, ss1, st1, rs2, ss2, st2, rfl, _⟩ := h
    rfl
  · obtain ⟨x, y, a, b, ws, rs1, ss1, st1, rs2, ss2, st2, rfl, mx, my, px, py, a0, a1, b0, b1, kS, kN⟩ := h
    have hu := hu_of hr
    refine ⟨_, pss_cons (ps_set (i := 4) scFP.nd rfl (Or.inl rfl) (pe_disp1T hu (pe_tup (pa_cons (pv 1) (pa_cons (pv 3) pa_nil))) pe_non))
      (pss_cons (ps_set (i := 5) scFP.nd rfl (Or.inl rfl) (pe_disp1T hu (pe_tup (pa_cons (pv 1) (pa_cons (pv 3) pa_nil))) pe_non))
      (pss_cons (ps_while PassesOwn.never (pt_cmpR op_gt (pe_callB call_len_dT (by rfl) T.len PySem.boot_len (pa_cons (pv 5) pa_nil)) pe_int (nomark _))
        (pss_cons (ps_lock (ps_for PassesOwn.never rfl (pi_keys (pv 5)) (pg_tup (by rfl) (pgs_cons (pg_name (i := 6) scFP.nd rfl (Or.inl rfl)) (pgs_cons (pg_name (i := 7) scFP.nd rfl (Or.inl rfl)) pgs_nil)))
          (pss_one (ps_if (pt_cmpR op_ne (pe_ix (r := rIxT K) ix_tup (pe_fld (pv 0) rfl) (pv 6) (fun _ _ => rfl)) (pe_ix (r := rIxT K) ix_tup (pe_fld (pv 2) rfl) (pv 7) (fun _ _ => rfl)) (nomark _))
            (pss_one (ps_ret (pe_call GR hr rfl DR.g DR.F.kp DR.b .nil pass0 (pa_cons (pv 4) (pa_cons (pe_tup (pa_cons (pv 6) (pa_cons (pv 7) pa_nil))) pa_nil))))) pss_nil))))
        (pss_cons (ps_set (i := 5) scFP.nd rfl (Or.inl rfl) (pe_call GN hr rfl DN.g DN.F.kp DN.b .nil pass0 (pa_cons (pe_fld (pv 0) rfl) (pa_cons (pe_tup (pa_cons (pe_fld (pv 0) rfl) (pa_cons (pe_fld (pv 2) rfl) pa_nil))) (pa_cons (pv 5) (pa_cons (pv 4) pa_nil))))))
        (pss_one (ps_lock (ps_for PassesOwn.never rfl (pi_itemsT (pv 5)) (pg_tup (by rfl) (pgs_cons (pg_name (i := 8) scFP.nd rfl (Or.inl rfl)) (pgs_cons (pg_name (i := 9) scFP.nd rfl (Or.inl rfl)) pgs_nil)))
          (pss_one (ps_dput hu (pv 4) (pv 8) (pv 9) rfl))))))))
      (pss_one (ps_ret pe_non)))), ?_⟩
    have w6 := px.gd.len.2
    have hs0 : StOk [rs1, rs2] [a, b] := ⟨rfl, fun i t v e1 e2 => by
      match i, e1, e2 with
      | 0, e1, e2 => cases e1; cases e2; exact ⟨a0, a1⟩
      | 1, e1, e2 => cases e1; cases e2; exact ⟨b0, b1⟩
      | _ + 2, e1, _ => simp at e1⟩
    have htab : ∀ t ∈ [rs1, rs2], TabOk ws.length t := fun t ht => by
      simp only [List.mem_cons, List.not_mem_nil, or_false] at ht
      rcases ht with rfl | rfl
      · exact px.tab
      · exact py.tab
    have hpn : prodN [rs1, rs2] ≤ 3600 := by
      show rs1.length * (rs2.length * 1) ≤ 3600
      rw [Nat.mul_one]
      have h1 := px.many.2
      have h2 := py.many.2
      have := Nat.mul_le_mul h1 h2
      omega
    have r0 : runT [rs1, rs2] [a, b] [] = [a, b] := rfl
    have hrc := runT_c [rs1, rs2] [a, b]
    have hrun : ∀ u, (∀ k ∈ u, k < ws.length) → StOk [rs1, rs2] (runT [rs1, rs2] [a, b] u) := fun u => hs0.run htab u
    have hml : ∀ M : List (List Nat), (M.map (runT [rs1, rs2] [a, b])).Nodup → (∀ u ∈ M, ∀ k ∈ u, k < ws.length) → M.length ≤ prodN [rs1, rs2] := fun M => met_len hs0 htab
    generalize hR : runT [rs1, rs2] [a, b] = r at r0 hrc hrun hml kS kN
    have hpc : ∀ u v, r u = r v → dif ss1 ss2 (r u) = dif ss1 ss2 (r v) := fun u v e => by rw [e]
    have kvab : (keyI [a, b]).map kV = [V.int a, V.int b] := rfl
    have mk1 : ∀ {G : Hp} {p t : Addr}, G p = none → upd G p (.dT []) t = none → Same G (upd (upd (upd G p (.dT [])) t (.tup [V.int a, V.int b])) p (.dT [(keyI [a, b], V.non)])) ∧ DAt r ws (upd (upd (upd G p (.dT [])) t (.tup [V.int a, V.int b])) p (.dT [(keyI [a, b], V.non)])) p [[]] := fun {G p t} hp ht => by
      refine ⟨fun c o e => ?_, _, upd_same, rfl, fun i k v u e1 e2 => ?_⟩
      · rw [upd_ne (ne_of_none e hp)]
        exact same_upd ht _ _ (same_upd hp _ _ e)
      · match i, e1, e2 with
        | 0, e1, e2 => cases e1; cases e2; exact ⟨by rw [r0], .inl ⟨rfl, rfl⟩⟩
        | _ + 1, e1, _ => simp at e1
    -- met
    intro me hme
    refine ⟨_, rfl, _, rfl, Nat.le_of_ble_eq_true rfl, fun t1 ht1 => ?_⟩
    have nt1 : me ≠ t1 := ne_of_none upd_same ht1
    refine ⟨by rw [upd_ne nt1]; exact upd_same, t1, keyI [a, b], .non, rfl, upd_same, ?_⟩
    obtain ⟨s1, dm1⟩ := mk1 hme ht1
    generalize upd (upd (upd H me (.dT [])) t1 (.tup [V.int a, V.int b])) me (.dT [(keyI [a, b], V.non)]) = H1 at s1 dm1 ⊢
    -- layer
    intro la hla
    refine ⟨_, rfl, _, rfl, Nat.le_of_ble_eq_true rfl, fun t2 ht2 => ?_⟩
    have nt2 : la ≠ t2 := ne_of_none upd_same ht2
    refine ⟨by rw [upd_ne nt2]; exact upd_same, t2, keyI [a, b], .non, rfl, upd_same, ?_⟩
    obtain ⟨s2, dl2⟩ := mk1 hla ht2
    have nml : me ≠ la := by
      obtain ⟨kv, e, _⟩ := id dm1
      exact ne_of_none e hla
    have dm2 := dm1.same s2
    have s02 := s1.trans s2
    generalize upd (upd (upd H1 la (.dT [])) t2 (.tup [V.int a, V.int b])) la (.dT [(keyI [a, b], V.non)]) = H2 at s2 dl2 dm2 s02 ⊢
    -- the loop
    refine while_ix (fun m σ H' => ∃ (n : Nat) (M0 B : List (List Nat)) (la : Addr) (v6 v7 v8 v9 : Option V), bfs r ws.length n = (M0 ++ B, B) ∧ M0.find? (fun v => dif ss1 ss2 (r v)) = none ∧ Same H H' ∧ DAt r ws H' me (M0 ++ B) ∧ DAt r ws H' la B ∧ me ≠ la ∧ (B ≠ [] → n + 1 ≤ (M0 ++ B).length) ∧ m = 2 * (prodN [rs1, rs2] - (M0 ++ B).length) + (if B = [] then 0 else 1) ∧
      σ = [some (.ref x), some (.int a), some (.ref y), some (.int b), some (.ref me), some (.ref la), v6, v7, v8, v9]) (2 * (prodN [rs1, rs2] - 1) + 1) ?_ ?_ ?_
    · exact ⟨0, [], [[]], la, none, none, none, none, rfl, rfl, s02, dm2, dl2, nml, fun _ => Nat.le_refl _, rfl, rfl⟩
    · rintro m σ H3 ⟨n, M0, B, la, v6, v7, v8, v9, eb, hf0, s3, dm, dl, nml, hnl, rfl, rfl⟩
      obtain ⟨kM, hme3, hEM⟩ := id dm
      obtain ⟨kB, hla3, hEB⟩ := id dl
      have I := bfs_ok hrc ws.length n
      rw [eb] at I
      have hBM : ∀ u ∈ B, u ∈ M0 ++ B := fun u hu => List.mem_append_right _ hu
      have hMl : (M0 ++ B).length ≤ prodN [rs1, rs2] := hml _ I.nd I.lt
      refine ⟨_, rfl, la, kB, rfl, hla3, _, _, rfl, rfl, _, rfl, ?_⟩
      refine ite2 (fun hgt => ?_) (fun hgt => ?_)
      · have hB0 : B ≠ [] := fun e => by
          have h1 := hEB.1
          rw [e] at h1
          have h2 := of_decide_eq_true hgt
          simp at h1
          rw [h1] at h2
          exact absurd h2 (by decide)
        have hn1 := hnl hB0
        -- looked at
        refine ⟨la, .dT kB, hla3, trivial, fun od => ?_⟩
        have kf : KeepT H3 (upd H3 la (.frz od (.dT kB))) := KeepT.updT hla3
        have ef : upd H3 la (.frz od (.dT kB)) la = some (.frz od (.dT kB)) := upd_same
        have kx : ∀ b o, b ≠ la → H3 b = some o → upd H3 la (.frz od (.dT kB)) b = some o := fun b o nb e => by rw [upd_ne nb]; exact e
        have back : Same H3 (upd (upd H3 la (.frz od (.dT kB))) la (.dT kB)) := fun b o e => by
          by_cases hb : b = la
          · subst hb; rw [hla3] at e; cases e; exact upd_same
          · rw [upd_ne hb, upd_ne hb]; exact e
        have fzn : ∀ b, H3 b = none → upd H3 la (.frz od (.dT kB)) b = none := fun b e => by
          rw [upd_ne (fun z => by rw [z, hla3] at e; cases e)]; exact e
        have nzf : ∀ b, upd H3 la (.frz od (.dT kB)) b = none → H3 b = none := fun b e => by
          by_cases hb : b = la
          · rw [hb, ef] at e; cases e
          · rw [upd_ne hb] at e; exact e
        generalize upd H3 la (.frz od (.dT kB)) = Hf at kf ef kx back fzn nzf ⊢
        refine ⟨_, rfl, la, od, rfl, .inr ⟨kB, ef, for_it (walk_keysT (d := la) (o := od) (kvs := kB)) (fun i σ H' => H' = Hf ∧ (B.take i).find? (fun v => dif ss1 ss2 (r v)) = none ∧ ∃ v6 v7, σ = [some (.ref x), some (.int a), some (.ref y), some (.int b), some (.ref me), some (.ref la), v6, v7, v8, v9]) ⟨rfl, by rw [List.take_zero]; rfl, v6, v7, rfl⟩ (fun i σ H' _ q => by rw [q.1]; exact ef) ?_ ?_⟩⟩
        · rintro i yv σ H4 H4' hi ⟨rfl, hfi, v6', v7', rfl⟩ ⟨rfl, key, v, q, hkv, rfl, hq⟩
          have hiB : i < B.length := by rw [← hEB.1]; exact hi
          have eu : B[i]? = some B[i] := List.getElem?_eq_getElem hiB
          have hmem := List.getElem_mem hiB
          have etk : B.take (i + 1) = B.take i ++ [B[i]] := by rw [List.take_add_one, eu]; rfl
          have edr : B = B.take i ++ B[i] :: B.drop (i + 1) := by rw [← List.drop_eq_getElem_cons hiB, List.take_append_drop]
          generalize B[i] = u at eu hmem etk edr
          obtain ⟨rfl, hev⟩ := hEB.2 i _ _ _ hkv eu
          rw [keyI_kV] at hq
          have hst := hrun u (I.lt u (hBM u hmem))
          obtain ⟨c, e, ece⟩ : ∃ c e, r u = [c, e] := by
            have := hst.1
            match hru : r u, this with
            | [c, e], _ => exact ⟨c, e, rfl⟩
          rw [ece] at hq hst
          obtain ⟨c0, c1⟩ := hst.2 0 rs1 c rfl rfl
          obtain ⟨e0, e1⟩ := hst.2 1 rs2 e rfl rfl
          have edif : dif ss1 ss2 (r u) = decide (ss1.getD c.toNat "" ≠ ss2.getD e.toNat "") := by rw [ece]; rfl
          obtain ⟨dx, tx, rx, lx, asx, gx1, gx2, gx3, gx4, gx5⟩ := mx.same s3
          obtain ⟨dy, ty, ry, ly, asy, gy1, gy2, gy3, gy4, gy5⟩ := my.same s3
          refine ⟨q, _, rfl, SqT.of hq, rfl, _, _, rfl, _, _, rfl, rfl, ?_⟩
          refine ⟨_, rfl, x, C, dx, _, _, rfl, kx _ _ (ne_of gx1 hla3 (by intro z; cases z)) gx1, M.cl, M.nT, mf_tells _ _ _ _, _, rfl, lx, _, c, _, rfl, rfl, SqT.of (kf _ _ gx5), at_deed c0 (by rw [px.tl.1]; exact c1), ?_⟩
          refine ⟨_, rfl, y, C, dy, _, _, rfl, kx _ _ (ne_of gy1 hla3 (by intro z; cases z)) gy1, M.cl, M.nT, mf_tells _ _ _ _, _, rfl, ly, _, e, _, rfl, rfl, SqT.of (kf _ _ gy5), at_deed e0 (by rw [py.tl.1]; exact e1), rfl, _, rfl, ?_⟩
          refine ite2 (fun hd => ?_) (fun hd => ?_)
          · -- told apart
            have hdt : dif ss1 ss2 (r u) = true := by
              rw [edif]
              refine decide_eq_true fun z => ?_
              rw [z] at hd
              simp at hd
            have hfu : (M0 ++ B).find? (fun v => dif ss1 ss2 (r v)) = some u := by
              rw [List.find?_append, hf0, edr, List.find?_append, hfi, List.find?_cons, hdt]; rfl
            have hlu := I.len u hmem
            have hM' : u ∈ M0 ++ B := hBM u hmem
            refine ⟨_, rfl, _, rfl, _, rfl, Nat.le_of_ble_eq_true rfl, fun t ht => ?_⟩
            have s5 := same_upd (o := .tup [V.int c, V.int e]) ht
            have e5 : upd H4' t (.tup [V.int c, V.int e]) t = some (.tup ((r u).map V.int)) := by rw [ece]; exact upd_same
            generalize upd H4' t (.tup [V.int c, V.int e]) = H5 at s5 e5 ⊢
            refine ⟨me, t, r, ws, M0 ++ B, u, rfl, ⟨kM, s5 _ _ (kx _ _ nml hme3), hEM.keep (kf.trans (.of s5))⟩, I.nd, I.pre, hM', e5, by omega, fun p H6 hp s6 e6 => ?_⟩
            have s46 := s5.trans s6
            have npl : p ≠ la := (ne_of_none (s5 _ _ ef) hp).symm
            refine ⟨s46 _ _ ef, kS u p _ ?_ ?_ (fun b o e => ?_) (by rw [upd_ne npl]; exact e6)⟩
            · show (allU ws.length u.length).find? _ = some u
              rw [hlu, ← bfs_find hrc hpc ws.length n, eb]
              exact hfu
            · exact s3.free (nzf _ (s5.free hp))
            · by_cases hb : b = la
              · subst hb
                have := s3 _ _ e
                rw [hla3] at this; cases this
                exact upd_same
              · rw [upd_ne hb]
                exact s46 _ _ (kx _ _ hb (s3 _ _ e))
          · have hdf : dif ss1 ss2 (r u) = false := by
              rw [edif]
              refine decide_eq_false fun z => hd ?_
              rw [decide_eq_false (fun e' => z (by injection e'))]; rfl
            exact ⟨rfl, by rw [etk, List.find?_append, hfi, List.find?_cons, hdf]; rfl, _, _, rfl⟩
        · rintro σ H4 ⟨rfl, hfi, v6', v7', rfl⟩
          rw [hEB.1, List.take_length] at hfi
          refine ⟨ef, ?_⟩
          have s5 := s3.trans back
          have dm5 := dm.same back
          have dl5 := dl.same back
          generalize upd H4 la (.dT kB) = H5 at s5 dm5 dl5 ⊢
          obtain ⟨dx, tx, rx, lx, asx, gx1, gx2, gx3, gx4, gx5⟩ := mx.same s5
          obtain ⟨dy, ty, ry, ly, asy, gy1, gy2, gy3, gy4, gy5⟩ := my.same s5
          refine ⟨_, rfl, x, C, dx, _, _, rfl, gx1, M.cl, M.nD, mf_deeds _ _ _ _, _, rfl, x, C, dx, _, _, rfl, gx1, M.cl, M.nR, mf_rows _ _ _ _, _, rfl, y, C, dy, _, _, rfl, gy1, M.cl, M.nR, mf_rows _ _ _ _, Nat.le_of_ble_eq_true rfl, fun tt htt => ?_⟩
          have s6 := same_upd (o := .tup [V.ref rx, V.ref ry]) htt
          have e6 : upd H5 tt (.tup [V.ref rx, V.ref ry]) tt = some (.tup ([rx, ry].map V.ref)) := upd_same
          generalize upd H5 tt (.tup [V.ref rx, V.ref ry]) = H6 at s6 e6 ⊢
          refine ⟨_, rfl, _, rfl, tx, tt, la, me, ws, [rs1, rs2], [a, b], M0 ++ B, B, rfl, (gx2.same s6).sq, ⟨[rx, ry], SqT.of e6, rfl, fun i a' t' e1 e2 => ?_⟩, htab, hs0, by rw [hR]; exact dl5.same s6, by rw [hR]; exact dm5.same s6, nml.symm, by rw [hR]; exact I.nd, fun u hu => I.lt u (hBM u hu), ?_, by simp, fun p N H7 hp s7 edd dN => ?_⟩
          · match i, e1, e2 with
            | 0, e1, e2 => cases e1; cases e2; exact ⟨asx, s6 _ _ gx3, gx4.1, fun j b' q' f1 f2 => s6 _ _ (gx4.2 j b' q' f1 f2)⟩
            | 1, e1, e2 => cases e1; cases e2; exact ⟨asy, s6 _ _ gy3, gy4.1, fun j b' q' f1 f2 => s6 _ _ (gy4.2 j b' q' f1 f2)⟩
            | _ + 2, e1, _ => simp at e1
          · have h1 : B.length ≤ 3600 := by rw [List.length_append] at hMl; omega
            have := Nat.mul_le_mul w6 h1
            omega
          rw [hR] at edd dN
          have s57 := s6.trans s7
          have s07 := s5.trans s57
          have dm7 := dm5.same s57
          obtain ⟨kN, hpN, hEN⟩ := id dN
          obtain ⟨kM7, hme7, hEM7⟩ := id dm7
          have nmp : me ≠ p := by
            obtain ⟨kv, e, _⟩ := id dm5
            exact ne_of_none (s6 _ _ e) hp
          have ebs : bfs r ws.length (n + 1) = (M0 ++ B ++ N, N) := by
            show (dd r (bfs r ws.length n).1 (exts ws.length (bfs r ws.length n).2), (dd r (bfs r ws.length n).1 (exts ws.length (bfs r ws.length n).2)).drop (bfs r ws.length n).1.length) = _
            rw [eb]
            show (dd r (M0 ++ B) (exts ws.length B), (dd r (M0 ++ B) (exts ws.length B)).drop (M0 ++ B).length) = _
            rw [edd, List.drop_left]
          have I2 := bfs_ok hrc ws.length (n + 1)
          rw [ebs] at I2
          have hMl2 : (M0 ++ B ++ N).length ≤ prodN [rs1, rs2] := hml _ I2.nd I2.lt
          -- what is new is met
          refine ⟨p, .dT kN, hpN, trivial, fun od2 => ?_⟩
          have ef8 : upd H7 p (.frz od2 (.dT kN)) p = some (.frz od2 (.dT kN)) := upd_same
          have kf8 : KeepT H7 (upd H7 p (.frz od2 (.dT kN))) := KeepT.updT hpN
          have kx8 : ∀ b o, b ≠ p → H7 b = some o → upd H7 p (.frz od2 (.dT kN)) b = some o := fun b o nb e => by rw [upd_ne nb]; exact e
          generalize upd H7 p (.frz od2 (.dT kN)) = H8 at ef8 kf8 kx8 ⊢
          have hEN8 := hEN.keep kf8
          refine ⟨_, rfl, p, od2, kN, rfl, ef8, for_it (walk_itemsT (d := p) (o := od2) (kvs := kN)) (fun j σ H' => (∀ b o, b ≠ p → b ≠ me → H8 b = some o → H' b = some o) ∧ H' p = some (.frz od2 (.dT kN)) ∧ (∃ kM', H' me = some (.dT kM') ∧ Ents r ws H' kM' (M0 ++ B ++ N.take j)) ∧ ∃ v8 v9, σ = [some (.ref x), some (.int a), some (.ref y), some (.int b), some (.ref me), some (.ref p), v6', v7', v8, v9]) ?_ (fun j σ H' _ q => q.2.1) ?_ ?_⟩
          · exact ⟨fun b o _ _ e => e, ef8, ⟨kM7, kx8 _ _ nmp hme7, by rw [List.take_zero, List.append_nil]; exact hEM7.keep kf8⟩, v8, v9, rfl⟩
          · rintro j yv σ H9 H10 hj ⟨kx9, hp9, ⟨kM', hme9, hEM9⟩, v8', v9', rfl⟩ ⟨T', key, v, q, hkv, hq, rfl, hT', rfl⟩
            have hjN : j < N.length := by rw [← hEN.1]; exact hj
            have eu : N[j]? = some N[j] := List.getElem?_eq_getElem hjN
            have etk : N.take (j + 1) = N.take j ++ [N[j]] := by rw [List.take_add_one, eu]; rfl
            have edr : N = N.take j ++ N[j] :: N.drop (j + 1) := by rw [← List.drop_eq_getElem_cons hjN, List.take_append_drop]
            generalize N[j] = u at eu etk edr
            obtain ⟨rfl, hev⟩ := hEN8.2 j _ _ _ hkv eu
            have s10 := same_upd (o := .tup [V.ref q, v]) hT'
            have e10 : upd H9 T' (.tup [V.ref q, v]) T' = some (.tup [V.ref q, v]) := upd_same
            have kt89 : KeepT H8 H9 := fun c xs e => kx9 _ _ (ne_of e ef8 (by intro z; cases z)) (ne_of e (kx8 _ _ nmp hme7) (by intro z; cases z)) e
            refine ⟨T', _, rfl, SqT.of upd_same, rfl, _, _, rfl, _, _, rfl, rfl, ?_⟩
            have kx10 : ∀ b o, b ≠ p → b ≠ me → H8 b = some o → upd H9 T' (.tup [V.ref q, v]) b = some o := fun b o n1 n2 e => s10 _ _ (kx9 b o n1 n2 e)
            have hp10 := s10 _ _ hp9
            have hme10 := s10 _ _ hme9
            have hEM10 := hEM9.keep (.of s10)
            have hev10 := (hev.keep kt89).keep (.of s10)
            have hq10 := s10 _ _ hq
            generalize upd H9 T' (.tup [V.ref q, v]) = H10 at kx10 hp10 hme10 hEM10 hev10 hq10 ⊢
            have hnew : r u ∉ (M0 ++ B ++ N.take j).map r := by
              have h1 := I2.nd
              rw [edr, ← List.append_assoc, List.map_append] at h1
              intro hz
              exact (List.nodup_append.mp h1).2.2 _ hz _ (by rw [List.map_cons]; exact List.mem_cons_self ..) rfl
            have hkl : kM'.length < sizeLine := by
              rw [hEM10.1, List.length_append, List.length_take]
              rw [List.length_append] at hMl2
              rw [sizeLine_eq]; omega
            refine ⟨_, rfl, _, rfl, _, rfl, me, _, rfl, DPut.t hme10 hq10 hkl, ?_⟩
            rw [putK_new _ (hEM10.no hnew)]
            have hE11 := (hEM10.snoc hev10).keep (KeepT.updT (o := .dT (kM' ++ [(keyI (r u), v)])) hme10)
            exact ⟨fun b o n1 n2 e => by rw [upd_ne n2]; exact kx10 b o n1 n2 e, by rw [upd_ne nmp.symm]; exact hp10, ⟨_, upd_same, by rw [etk, ← List.append_assoc]; exact hE11⟩, _, _, rfl⟩
          · rintro σ H9 ⟨kx9, hp9, ⟨kM', hme9, hEM9⟩, v8', v9', rfl⟩
            rw [hEN.1, List.take_length] at hEM9
            have kf9 := KeepT.updF (o := .dT kN) hp9
            have s9 : Same H (upd H9 p (.dT kN)) := fun b o e => by
              have e7 := s07 _ _ e
              have nbm : b ≠ me := ne_of_none e hme
              by_cases hb : b = p
              · subst hb; rw [hpN] at e7; cases e7; exact upd_same
              · rw [upd_ne hb]; exact kx9 _ _ hb nbm (kx8 _ _ hb e7)
            have kt79 : KeepT H7 H9 := fun c xs e => kx9 _ _ (ne_of e hpN (by intro z; cases z)) (ne_of e hme7 (by intro z; cases z)) (kf8 _ _ e)
            refine ⟨hp9, _, ?_, n + 1, M0 ++ B, N, p, _, _, _, _, ebs, ?_, s9, ⟨kM', by rw [upd_ne nmp]; exact hme9, hEM9.keep kf9⟩, ⟨kN, upd_same, (hEN.keep kt79).keep kf9⟩, nmp, ?_, rfl, rfl⟩
            · rw [if_neg hB0]
              have h1 : (M0 ++ B ++ N).length = (M0 ++ B).length + N.length := List.length_append
              by_cases hN0 : N = []
              · rw [if_pos hN0, hN0, List.append_nil]; omega
              · have h2 := List.length_pos_iff.mpr hN0
                rw [if_neg hN0]; omega
            · rw [List.find?_append, hf0, hfi]; rfl
            · intro hN0
              have h2 := List.length_pos_iff.mpr hN0
              rw [List.length_append]; omega
      · have hB0 : B = [] := by
          have h1 := hEB.1
          refine List.length_eq_zero_iff.mp ?_
          rw [← h1]
          have h2 : ¬ ((kB.length : Nat) : Int) > 0 := fun z => hgt (decide_eq_true z)
          omega
        subst hB0
        rw [List.append_nil] at eb
        refine kN H3 (fun n' => ?_) s3
        rw [← bfs_find hrc hpc]
        by_cases hn' : n ≤ n'
        · rw [bfs_end hrc (by rw [eb]) n' hn', eb]; exact hf0
        · obtain ⟨R, eR⟩ := allU_pre ws.length (show n' ≤ n by omega)
          have h1 := bfs_find hrc hpc ws.length n
          rw [eb, eR, List.find?_append] at h1
          rw [bfs_find hrc hpc]
          have h2 : ((allU ws.length n').find? fun v => dif ss1 ss2 (r v)).or (R.find? fun v => dif ss1 ss2 (r v)) = none := by rw [← h1]; exact hf0
          cases hz : (allU ws.length n').find? fun v => dif ss1 ss2 (r v) with
          | none => rfl
          | some z => rw [hz] at h2; cases h2
    · rintro σ H Q Q' hQ ⟨v, e, d, kvs, h1, h2, i, j, h3, h4, c, h5, h6⟩
      exact ⟨v, e, d, kvs, h1, h2, i, j, h3, h4, c, h5, hQ _ _ h6⟩
end
end K1
set_option Elab.async false
set_option linter.all false
set_option maxRecDepth 100000
/-! walks.first_steps -/
namespace K1
open PySem L2 LamX
abbrev sFS : Stmt := top 19
/-- no bound, or one -/
def MostV (v : V) (o : Option Int) : Prop := (v = .non ∧ o = none) ∨ ∃ m : Int, v = .int m ∧ o = some m
def spFS (K : PySem.W.Frag) : Sp := fun vs H Q _ => ∃ (de tt be : Addr) (mo : V) (om : Option Int) (ws : List Str) (ts : List (List (List Int))) (s0 : List Int), vs = [.ref de, .ref tt, .ref be, mo] ∧ MostV mo om ∧ SqT K H de (ws.map V.str) ∧ TabsAt K H tt ts ∧ H be = some (.tup (s0.map V.int)) ∧
  (∀ t ∈ ts, TabOk ws.length t) ∧ StOk ts s0 ∧ ws.length ≤ 6 ∧ prodN ts ≤ 3600 ∧ ts.length ≤ 900 ∧
  ∀ (fo : Addr) (H' : Hp) (n : Nat) (M0 B : List (List Nat)), bfs (runT ts s0) ws.length n = (M0 ++ B, B) → (B = [] ∨ ∃ m, om = some m ∧ m < ((M0 ++ B).length : Int)) → H fo = none → Same H H' → DAt (runT ts s0) ws H' fo (M0 ++ B) → Q (.ref fo) H'
section
variable {P : Program} {w : World} {K : PySem.W.Frag} {mg : Str → Option Value} {base : Heap}
abbrev pFS : List Str := ["deeds", "tables", "begin", "most"]
abbrev nFS : List Str := ["deeds", "tables", "begin", "most", "found", "layer", "states", "step"]
theorem scFS : FnScope nFS pFS (defScope sFS) := ⟨rfl, rfl, rfl, by decide +kernel, rfl, by decide +kernel, by decide +kernel⟩
theorem ok_fs {f fN : Addr} {fd fdN : FuncData} (F : FunD K "first_steps" "first_steps" (defArgs sFS) (defBody sFS) (defScope sFS) [.non] [] f fd) (DN : Df K mg "next_layer" sNL pNL fN fdN) (T : Bt2 mg) (hz : mg "zip" = none) : FnOk P w K mg base CX0 2 f fd pFS (spFS K) := by
  have GN : FnOk P w K mg base CX0 1 fN fdN pNL (spNL K) := ok_nl DN T hz
  refine F.ok scFS (fun vs H Q E h => ?_) (fun cdv A outer s H vs Q E hr h => ?_)
  · obtain ⟨de, tt, be, mo, om, ws, ts, s0, rfl, _⟩ := h
    rfl
  · obtain ⟨de, tt, be, mo, om, ws, ts, s0, rfl, hmo, hde, htt, hbe, htab, hs0, w6, hpn, htl, k⟩ := h
    have hu := hu_of hr
    refine ⟨_, pss_cons (ps_set (i := 4) scFS.nd rfl (Or.inl rfl) (pe_disp1T hu (pv 2) pe_non))
      (pss_cons (ps_set (i := 5) scFS.nd rfl (Or.inl rfl) (pe_disp1T hu (pv 2) pe_non))
      (pss_cons (ps_while (passes_of rfl) (PW.pt (pw_and (pt_cmpR op_gt (pe_callB call_len_dT (by rfl) T.len PySem.boot_len (pa_cons (pv 5) pa_nil)) pe_int (nomark _))
          (pw_and1 (PW.pt (pw_or (pt_cmpR op_isN (pv 3) pe_non (nomark _)) (pw_or1 (pt_cmpR op_le (pe_callB call_len_dT (by rfl) T.len PySem.boot_len (pa_cons (pv 4) pa_nil)) (pv 3) (nomark _))))))))
        (pss_cons (ps_set (i := 5) scFS.nd rfl (Or.inl rfl) (pe_call GN hr rfl DN.g DN.F.kp DN.b .nil pass0 (pa_cons (pv 0) (pa_cons (pv 1) (pa_cons (pv 5) (pa_cons (pv 4) pa_nil))))))
        (pss_one (ps_lock (ps_for (passes_of rfl) rfl (pi_itemsT (pv 5)) (pg_tup (by rfl) (pgs_cons (pg_name (i := 6) scFS.nd rfl (Or.inl rfl)) (pgs_cons (pg_name (i := 7) scFS.nd rfl (Or.inl rfl)) pgs_nil)))
          (pss_one (ps_dput hu (pv 4) (pv 6) (pv 7) rfl)))))))
      (pss_one (ps_ret (pv 4))))), ?_⟩
    have r0 : runT ts s0 [] = s0 := rfl
    have hrc := runT_c ts s0
    have hml : ∀ M : List (List Nat), (M.map (runT ts s0)).Nodup → (∀ u ∈ M, ∀ k ∈ u, k < ws.length) → M.length ≤ prodN ts := fun M => met_len hs0 htab
    generalize hR : runT ts s0 = r at r0 hrc hml k
    have mk1 : ∀ {G : Hp} {p : Addr}, G p = none → Same G (upd (upd G p (.dT [])) p (.dT [(keyI s0, V.non)])) ∧ DAt r ws (upd (upd G p (.dT [])) p (.dT [(keyI s0, V.non)])) p [[]] := fun {G p} hp => by
      refine ⟨fun c o e => ?_, _, upd_same, rfl, fun i k v u e1 e2 => ?_⟩
      · rw [upd_ne (ne_of_none e hp)]
        exact same_upd hp _ _ e
      · match i, e1, e2 with
        | 0, e1, e2 => cases e1; cases e2; exact ⟨by rw [r0], .inl ⟨rfl, rfl⟩⟩
        | _ + 1, e1, _ => simp at e1
    -- found
    intro me hme
    refine ⟨_, rfl, upd_same, be, keyI s0, .non, rfl, by rw [keyI_kV]; exact same_upd hme _ _ hbe, ?_⟩
    obtain ⟨s1, dm1⟩ := mk1 hme
    generalize upd (upd H me (.dT [])) me (.dT [(keyI s0, V.non)]) = H1 at s1 dm1 ⊢
    -- layer
    intro la hla
    refine ⟨_, rfl, upd_same, be, keyI s0, .non, rfl, by rw [keyI_kV]; exact same_upd hla _ _ (s1 _ _ hbe), ?_⟩
    obtain ⟨s2, dl2⟩ := mk1 hla
    have nml : me ≠ la := by
      obtain ⟨kv, e, _⟩ := id dm1
      exact ne_of_none e hla
    have dm2 := dm1.same s2
    have s02 := s1.trans s2
    generalize upd (upd H1 la (.dT [])) la (.dT [(keyI s0, V.non)]) = H2 at s2 dl2 dm2 s02 ⊢
    -- the loop
    refine while_ix (fun m σ H' => ∃ (n : Nat) (M0 B : List (List Nat)) (la : Addr) (v6 v7 : Option V), bfs r ws.length n = (M0 ++ B, B) ∧ Same H H' ∧ DAt r ws H' me (M0 ++ B) ∧ DAt r ws H' la B ∧ me ≠ la ∧ m = 2 * (prodN ts - (M0 ++ B).length) + (if B = [] then 0 else 1) ∧
      σ = [some (.ref de), some (.ref tt), some (.ref be), some mo, some (.ref me), some (.ref la), v6, v7]) (2 * (prodN ts - 1) + 1) ?_ ?_ ?_
    · exact ⟨0, [], [[]], la, none, none, rfl, s02, dm2, dl2, nml, rfl, rfl⟩
    · rintro m σ H3 ⟨n, M0, B, la, v6, v7, eb, s3, dm, dl, nml, rfl, rfl⟩
      obtain ⟨kM, hme3, hEM⟩ := id dm
      obtain ⟨kB, hla3, hEB⟩ := id dl
      have I := bfs_ok hrc ws.length n
      rw [eb] at I
      have hBM : ∀ u ∈ B, u ∈ M0 ++ B := fun u hu => List.mem_append_right _ hu
      have hMl : (M0 ++ B).length ≤ prodN ts := hml _ I.nd I.lt
      refine ⟨_, rfl, la, kB, rfl, hla3, _, _, rfl, rfl, _, rfl, ?_⟩
      refine ite2 (fun hgt => ?_) (fun hgt => ?_)
      · have hB0 : B ≠ [] := fun e => by
          have h1 := hEB.1
          rw [e] at h1
          have h2 := of_decide_eq_true hgt
          simp at h1
          rw [h1] at h2
          exact absurd h2 (by decide)
        rcases hmo with ⟨em, eo⟩ | ⟨m0, em, eo⟩
        · refine ⟨_, rfl, rfl, _, rfl, ?_⟩
          refine ite2 (fun _ => ?_) (fun h => absurd (decide_eq_true em) h)
          refine ⟨_, rfl, _, rfl, _, rfl, _, rfl, de, tt, la, me, ws, ts, s0, M0 ++ B, B, rfl, hde.ext s3, htt.keep (.of s3) (fun a xs h => h.ext s3), htab, hs0, by rw [hR]; exact dl, by rw [hR]; exact dm, nml.symm, by rw [hR]; exact I.nd, fun u hu => I.lt u (hBM u hu), ?_, htl, fun p N H7 hp s7 edd dN => ?_⟩
          · have h1 : B.length ≤ 3600 := by rw [List.length_append] at hMl; omega
            have := Nat.mul_le_mul w6 h1
            omega
          rw [hR] at edd dN
          have s07 := s3.trans s7
          have dm7 := dm.same s7
          obtain ⟨kN, hpN, hEN⟩ := id dN
          obtain ⟨kM7, hme7, hEM7⟩ := id dm7
          have nmp : me ≠ p := ne_of_none hme3 hp
          have ebs : bfs r ws.length (n + 1) = (M0 ++ B ++ N, N) := by
            show (dd r (bfs r ws.length n).1 (exts ws.length (bfs r ws.length n).2), (dd r (bfs r ws.length n).1 (exts ws.length (bfs r ws.length n).2)).drop (bfs r ws.length n).1.length) = _
            rw [eb]
            show (dd r (M0 ++ B) (exts ws.length B), (dd r (M0 ++ B) (exts ws.length B)).drop (M0 ++ B).length) = _
            rw [edd, List.drop_left]
          have I2 := bfs_ok hrc ws.length (n + 1)
          rw [ebs] at I2
          have hMl2 : (M0 ++ B ++ N).length ≤ prodN ts := hml _ I2.nd I2.lt
          refine ⟨p, .dT kN, hpN, trivial, fun od2 => ?_⟩
          have ef8 : upd H7 p (.frz od2 (.dT kN)) p = some (.frz od2 (.dT kN)) := upd_same
          have kf8 : KeepT H7 (upd H7 p (.frz od2 (.dT kN))) := KeepT.updT hpN
          have kx8 : ∀ b o, b ≠ p → H7 b = some o → upd H7 p (.frz od2 (.dT kN)) b = some o := fun b o nb e => by rw [upd_ne nb]; exact e
          generalize upd H7 p (.frz od2 (.dT kN)) = H8 at ef8 kf8 kx8 ⊢
          have hEN8 := hEN.keep kf8
          refine ⟨_, rfl, p, od2, kN, rfl, ef8, for_it (walk_itemsT (d := p) (o := od2) (kvs := kN)) (fun j σ H' => (∀ b o, b ≠ p → b ≠ me → H8 b = some o → H' b = some o) ∧ H' p = some (.frz od2 (.dT kN)) ∧ (∃ kM', H' me = some (.dT kM') ∧ Ents r ws H' kM' (M0 ++ B ++ N.take j)) ∧ ∃ v6 v7, σ = [some (.ref de), some (.ref tt), some (.ref be), some mo, some (.ref me), some (.ref p), v6, v7]) ?_ (fun j σ H' _ q => q.2.1) ?_ ?_⟩
          · exact ⟨fun b o _ _ e => e, ef8, ⟨kM7, kx8 _ _ nmp hme7, by rw [List.take_zero, List.append_nil]; exact hEM7.keep kf8⟩, v6, v7, rfl⟩
          · rintro j yv σ H9 H10 hj ⟨kx9, hp9, ⟨kM', hme9, hEM9⟩, v6', v7', rfl⟩ ⟨T', key, v, q, hkv, hq, rfl, hT', rfl⟩
            have hjN : j < N.length := by rw [← hEN.1]; exact hj
            have eu : N[j]? = some N[j] := List.getElem?_eq_getElem hjN
            have etk : N.take (j + 1) = N.take j ++ [N[j]] := by rw [List.take_add_one, eu]; rfl
            have edr : N = N.take j ++ N[j] :: N.drop (j + 1) := by rw [← List.drop_eq_getElem_cons hjN, List.take_append_drop]
            generalize N[j] = u at eu etk edr
            obtain ⟨rfl, hev⟩ := hEN8.2 j _ _ _ hkv eu
            have s10 := same_upd (o := .tup [V.ref q, v]) hT'
            have kt89 : KeepT H8 H9 := fun c xs e => kx9 _ _ (ne_of e ef8 (by intro z; cases z)) (ne_of e (kx8 _ _ nmp hme7) (by intro z; cases z)) e
            refine ⟨T', _, rfl, SqT.of upd_same, rfl, _, _, rfl, _, _, rfl, rfl, ?_⟩
            have kx10 : ∀ b o, b ≠ p → b ≠ me → H8 b = some o → upd H9 T' (.tup [V.ref q, v]) b = some o := fun b o n1 n2 e => s10 _ _ (kx9 b o n1 n2 e)
            have hp10 := s10 _ _ hp9
            have hme10 := s10 _ _ hme9
            have hEM10 := hEM9.keep (.of s10)
            have hev10 := (hev.keep kt89).keep (.of s10)
            have hq10 := s10 _ _ hq
            generalize upd H9 T' (.tup [V.ref q, v]) = H10 at kx10 hp10 hme10 hEM10 hev10 hq10 ⊢
            have hnew : r u ∉ (M0 ++ B ++ N.take j).map r := by
              have h1 := I2.nd
              rw [edr, ← List.append_assoc, List.map_append] at h1
              intro hz
              exact (List.nodup_append.mp h1).2.2 _ hz _ (by rw [List.map_cons]; exact List.mem_cons_self ..) rfl
            have hkl : kM'.length < sizeLine := by
              rw [hEM10.1, List.length_append, List.length_take]
              rw [List.length_append] at hMl2
              rw [sizeLine_eq]; omega
            refine ⟨_, rfl, _, rfl, _, rfl, me, _, rfl, DPut.t hme10 hq10 hkl, ?_⟩
            rw [putK_new _ (hEM10.no hnew)]
            have hE11 := (hEM10.snoc hev10).keep (KeepT.updT (o := .dT (kM' ++ [(keyI (r u), v)])) hme10)
            exact ⟨fun b o n1 n2 e => by rw [upd_ne n2]; exact kx10 b o n1 n2 e, by rw [upd_ne nmp.symm]; exact hp10, ⟨_, upd_same, by rw [etk, ← List.append_assoc]; exact hE11⟩, _, _, rfl⟩
          · rintro σ H9 ⟨kx9, hp9, ⟨kM', hme9, hEM9⟩, v6', v7', rfl⟩
            rw [hEN.1, List.take_length] at hEM9
            have kf9 := KeepT.updF (o := .dT kN) hp9
            have s9 : Same H (upd H9 p (.dT kN)) := fun b o e => by
              have e7 := s07 _ _ e
              have nbm : b ≠ me := ne_of_none e hme
              by_cases hb : b = p
              · subst hb; rw [hpN] at e7; cases e7; exact upd_same
              · rw [upd_ne hb]; exact kx9 _ _ hb nbm (kx8 _ _ hb e7)
            have kt79 : KeepT H7 H9 := fun c xs e => kx9 _ _ (ne_of e hpN (by intro z; cases z)) (ne_of e hme7 (by intro z; cases z)) (kf8 _ _ e)
            refine ⟨hp9, _, ?_, n + 1, M0 ++ B, N, p, _, _, ebs, s9, ⟨kM', by rw [upd_ne nmp]; exact hme9, hEM9.keep kf9⟩, ⟨kN, upd_same, (hEN.keep kt79).keep kf9⟩, nmp, rfl, rfl⟩
            rw [if_neg hB0]
            have h1 : (M0 ++ B ++ N).length = (M0 ++ B).length + N.length := List.length_append
            by_cases hN0 : N = []
            · rw [if_pos hN0, hN0, List.append_nil]; omega
            · have h2 := List.length_pos_iff.mpr hN0
              rw [if_neg hN0]; omega
        · refine ⟨_, rfl, rfl, _, rfl, ?_⟩
          refine ite2 (fun h => absurd (of_decide_eq_true h) (by rw [em]; intro z; cases z)) (fun _ => ?_)
          refine ⟨_, rfl, me, kM, rfl, hme3, _, rfl, _, m0, rfl, em, _, rfl, ?_⟩
          refine ite2 (fun hle => ?_) (fun hle => ?_)
          · skip
            refine ⟨_, rfl, _, rfl, _, rfl, _, rfl, de, tt, la, me, ws, ts, s0, M0 ++ B, B, rfl, hde.ext s3, htt.keep (.of s3) (fun a xs h => h.ext s3), htab, hs0, by rw [hR]; exact dl, by rw [hR]; exact dm, nml.symm, by rw [hR]; exact I.nd, fun u hu => I.lt u (hBM u hu), ?_, htl, fun p N H7 hp s7 edd dN => ?_⟩
            · have h1 : B.length ≤ 3600 := by rw [List.length_append] at hMl; omega
              have := Nat.mul_le_mul w6 h1
              omega
            rw [hR] at edd dN
            have s07 := s3.trans s7
            have dm7 := dm.same s7
            obtain ⟨kN, hpN, hEN⟩ := id dN
            obtain ⟨kM7, hme7, hEM7⟩ := id dm7
            have nmp : me ≠ p := ne_of_none hme3 hp
            have ebs : bfs r ws.length (n + 1) = (M0 ++ B ++ N, N) := by
              show (dd r (bfs r ws.length n).1 (exts ws.length (bfs r ws.length n).2), (dd r (bfs r ws.length n).1 (exts ws.length (bfs r ws.length n).2)).drop (bfs r ws.length n).1.length) = _
              rw [eb]
              show (dd r (M0 ++ B) (exts ws.length B), (dd r (M0 ++ B) (exts ws.length B)).drop (M0 ++ B).length) = _
              rw [edd, List.drop_left]
            have I2 := bfs_ok hrc ws.length (n + 1)
            rw [ebs] at I2
            have hMl2 : (M0 ++ B ++ N).length ≤ prodN ts := hml _ I2.nd I2.lt
            refine ⟨p, .dT kN, hpN, trivial, fun od2 => ?_⟩
            have ef8 : upd H7 p (.frz od2 (.dT kN)) p = some (.frz od2 (.dT kN)) := upd_same
            have kf8 : KeepT H7 (upd H7 p (.frz od2 (.dT kN))) := KeepT.updT hpN
            have kx8 : ∀ b o, b ≠ p → H7 b = some o → upd H7 p (.frz od2 (.dT kN)) b = some o := fun b o nb e => by rw [upd_ne nb]; exact e
            generalize upd H7 p (.frz od2 (.dT kN)) = H8 at ef8 kf8 kx8 ⊢
            have hEN8 := hEN.keep kf8
            refine ⟨_, rfl, p, od2, kN, rfl, ef8, for_it (walk_itemsT (d := p) (o := od2) (kvs := kN)) (fun j σ H' => (∀ b o, b ≠ p → b ≠ me → H8 b = some o → H' b = some o) ∧ H' p = some (.frz od2 (.dT kN)) ∧ (∃ kM', H' me = some (.dT kM') ∧ Ents r ws H' kM' (M0 ++ B ++ N.take j)) ∧ ∃ v6 v7, σ = [some (.ref de), some (.ref tt), some (.ref be), some mo, some (.ref me), some (.ref p), v6, v7]) ?_ (fun j σ H' _ q => q.2.1) ?_ ?_⟩
            · exact ⟨fun b o _ _ e => e, ef8, ⟨kM7, kx8 _ _ nmp hme7, by rw [List.take_zero, List.append_nil]; exact hEM7.keep kf8⟩, v6, v7, rfl⟩
            · rintro j yv σ H9 H10 hj ⟨kx9, hp9, ⟨kM', hme9, hEM9⟩, v6', v7', rfl⟩ ⟨T', key, v, q, hkv, hq, rfl, hT', rfl⟩
              have hjN : j < N.length := by rw [← hEN.1]; exact hj
              have eu : N[j]? = some N[j] := List.getElem?_eq_getElem hjN
              have etk : N.take (j + 1) = N.take j ++ [N[j]] := by rw [List.take_add_one, eu]; rfl
              have edr : N = N.take j ++ N[j] :: N.drop (j + 1) := by rw [← List.drop_eq_getElem_cons hjN, List.take_append_drop]
              generalize N[j] = u at eu etk edr
              obtain ⟨rfl, hev⟩ := hEN8.2 j _ _ _ hkv eu
              have s10 := same_upd (o := .tup [V.ref q, v]) hT'
              have kt89 : KeepT H8 H9 := fun c xs e => kx9 _ _ (ne_of e ef8 (by intro z; cases z)) (ne_of e (kx8 _ _ nmp hme7) (by intro z; cases z)) e
              refine ⟨T', _, rfl, SqT.of upd_same, rfl, _, _, rfl, _, _, rfl, rfl, ?_⟩
              have kx10 : ∀ b o, b ≠ p → b ≠ me → H8 b = some o → upd H9 T' (.tup [V.ref q, v]) b = some o := fun b o n1 n2 e => s10 _ _ (kx9 b o n1 n2 e)
              have hp10 := s10 _ _ hp9
              have hme10 := s10 _ _ hme9
              have hEM10 := hEM9.keep (.of s10)
              have hev10 := (hev.keep kt89).keep (.of s10)
              have hq10 := s10 _ _ hq
              generalize upd H9 T' (.tup [V.ref q, v]) = H10 at kx10 hp10 hme10 hEM10 hev10 hq10 ⊢
              have hnew : r u ∉ (M0 ++ B ++ N.take j).map r := by
                have h1 := I2.nd
                rw [edr, ← List.append_assoc, List.map_append] at h1
                intro hz
                exact (List.nodup_append.mp h1).2.2 _ hz _ (by rw [List.map_cons]; exact List.mem_cons_self ..) rfl
              have hkl : kM'.length < sizeLine := by
                rw [hEM10.1, List.length_append, List.length_take]
                rw [List.length_append] at hMl2
                rw [sizeLine_eq]; omega
              refine ⟨_, rfl, _, rfl, _, rfl, me, _, rfl, DPut.t hme10 hq10 hkl, ?_⟩
              rw [putK_new _ (hEM10.no hnew)]
              have hE11 := (hEM10.snoc hev10).keep (KeepT.updT (o := .dT (kM' ++ [(keyI (r u), v)])) hme10)
              exact ⟨fun b o n1 n2 e => by rw [upd_ne n2]; exact kx10 b o n1 n2 e, by rw [upd_ne nmp.symm]; exact hp10, ⟨_, upd_same, by rw [etk, ← List.append_assoc]; exact hE11⟩, _, _, rfl⟩
            · rintro σ H9 ⟨kx9, hp9, ⟨kM', hme9, hEM9⟩, v6', v7', rfl⟩
              rw [hEN.1, List.take_length] at hEM9
              have kf9 := KeepT.updF (o := .dT kN) hp9
              have s9 : Same H (upd H9 p (.dT kN)) := fun b o e => by
                have e7 := s07 _ _ e
                have nbm : b ≠ me := ne_of_none e hme
                by_cases hb : b = p
                · subst hb; rw [hpN] at e7; cases e7; exact upd_same
                · rw [upd_ne hb]; exact kx9 _ _ hb nbm (kx8 _ _ hb e7)
              have kt79 : KeepT H7 H9 := fun c xs e => kx9 _ _ (ne_of e hpN (by intro z; cases z)) (ne_of e hme7 (by intro z; cases z)) (kf8 _ _ e)
              refine ⟨hp9, _, ?_, n + 1, M0 ++ B, N, p, _, _, ebs, s9, ⟨kM', by rw [upd_ne nmp]; exact hme9, hEM9.keep kf9⟩, ⟨kN, upd_same, (hEN.keep kt79).keep kf9⟩, nmp, rfl, rfl⟩
              rw [if_neg hB0]
              have h1 : (M0 ++ B ++ N).length = (M0 ++ B).length + N.length := List.length_append
              by_cases hN0 : N = []
              · rw [if_pos hN0, hN0, List.append_nil]; omega
              · have h2 := List.length_pos_iff.mpr hN0
                rw [if_neg hN0]; omega
          · refine ⟨_, rfl, k me H3 n M0 B eb (.inr ⟨m0, eo, ?_⟩) hme s3 dm⟩
            have h1 : ¬ ((kM.length : Nat) : Int) ≤ m0 := fun z => hle (decide_eq_true z)
            rw [← hEM.1]; omega
      · have hB0 : B = [] := by
          have h1 := hEB.1
          refine List.length_eq_zero_iff.mp ?_
          rw [← h1]
          have h2 : ¬ ((kB.length : Nat) : Int) > 0 := fun z => hgt (decide_eq_true z)
          omega
        exact ⟨_, rfl, k me H3 n M0 B eb (.inl hB0) hme s3 dm⟩
    · rintro σ H Q Q' hQ ⟨v, e, d, kvs, h1, h2, i, j, h3, h4, c, h5, h6⟩
      refine ⟨v, e, d, kvs, h1, h2, i, j, h3, h4, c, h5, ?_⟩
      cases c with
      | false => exact hQ _ _ h6
      | true =>
        obtain ⟨v3, e3, hn, c2, h7, h8⟩ := h6
        refine ⟨v3, e3, hn, c2, h7, ?_⟩
        cases c2 with
        | true => exact hQ _ _ h8
        | false =>
          obtain ⟨v4, e4, d4, k4, g1, g2, v5, e5, i5, j5, g3, g4, c5, g5, g6⟩ := h8
          exact ⟨v4, e4, d4, k4, g1, g2, v5, e5, i5, j5, g3, g4, c5, g5, hQ _ _ g6⟩
end
end K1
set_option Elab.async false
set_option linter.all false
set_option maxRecDepth 100000
/-! row_to of a dict that is walked; Machine.reached -/
namespace L2
open PySem
theorem DGet.tR {H : Hp} {a b : Addr} {kvs : List (List Key × V)} {k : List Key} (e : Rd H a (.dT kvs)) (eb : H b = some (.tup (k.map kV))) : DGet H a (.ref b) (valV kvs k) := .inr ⟨kvs, k, b, e, rfl, eb, rfl⟩
theorem Rd.same {H H' : Hp} {a : Addr} {u : HO} (r : Rd H a u) (s : Same H H') : Rd H' a u := r.imp (s _ _) fun ⟨o, e⟩ => ⟨o, s _ _ e⟩
end L2
namespace K1
open PySem L2 LamX
abbrev sMReach : Stmt := inClass (top 35) 8
def DRt (r : List Nat → List Int) (ws : List Str) (H : Hp) (d : Addr) (M : List (List Nat)) : Prop := ∃ kvs, Rd H d (.dT kvs) ∧ Ents r ws H kvs M
def spRTR (K : PySem.W.Frag) : Sp := fun vs H Q _ => ∃ (fo q : Addr) (r : List Nat → List Int) (ws : List Str) (M : List (List Nat)) (u : List Nat), vs = [.ref fo, .ref q] ∧ DRt r ws H fo M ∧ (M.map r).Nodup ∧ (∀ u k, u ++ [k] ∈ M → u ∈ M) ∧ u ∈ M ∧ H q = some (.tup ((r u).map V.int)) ∧ u.length ≤ 100000 ∧
  ∀ p H', H p = none → Same H H' → H' p = some (.tup (names ws u)) → Q (.ref p) H'
/-- what reached gives: states and rows, in the order in which they are met -/
def ReachAt (r : List Nat → List Int) (ws : List Str) (H : Hp) (l : Addr) (M : List (List Nat)) : Prop := ∃ ts : List Addr, H l = some (.lst (ts.map V.ref)) ∧ ts.length = M.length ∧
  ∀ (i : Nat) (t : Addr) (u : List Nat), ts[i]? = some t → M[i]? = some u → ∃ q, H t = some (.tup [.int ((r u).getD 0 0), .ref q]) ∧ H q = some (.tup (names ws u))
theorem ReachAt.same {r : List Nat → List Int} {ws : List Str} {H H' : Hp} {l : Addr} {M : List (List Nat)} (h : ReachAt r ws H l M) (s : Same H H') : ReachAt r ws H' l M := by
  obtain ⟨ts, h1, h2, h3⟩ := h
  exact ⟨ts, s _ _ h1, h2, fun i t u e1 e2 => by obtain ⟨q, g1, g2⟩ := h3 i t u e1 e2; exact ⟨q, s _ _ g1, s _ _ g2⟩⟩
/-- a word that is met is shorter than what is met -/
theorem pre_len {M : List (List Nat)} (pre : ∀ u k, u ++ [k] ∈ M → u ∈ M) {u : List Nat} (hu : u ∈ M) : u.length < M.length := by
  have hp : ∀ n, u.take (u.length - n) ∈ M := fun n => by
    induction n with
    | zero => rw [Nat.sub_zero, List.take_length]; exact hu
    | succ n ih =>
      by_cases h : u.length ≤ n
      · rw [show u.length - (n + 1) = u.length - n by omega]; exact ih
      · have hl : u.length - (n + 1) < u.length := by omega
        have e : u.take (u.length - n) = u.take (u.length - (n + 1)) ++ [u[u.length - (n + 1)]] := by
          rw [show u.length - n = u.length - (n + 1) + 1 by omega, List.take_add_one, List.getElem?_eq_getElem hl]; rfl
        rw [e] at ih
        exact pre _ _ ih
  have h1 := nodup_sub_len ((List.range (u.length + 1)).map fun n => u.take n) M ?_ ?_
  · rw [List.length_map, List.length_range] at h1; omega
  · refine List.pairwise_map.mpr (List.Pairwise.imp_of_mem (fun {x y} hx hy hne e => ?_) (List.nodup_range (n := u.length + 1)))
    have h1 := congrArg List.length e
    rw [List.length_take, List.length_take] at h1
    have h2 := List.mem_range.mp hx
    have h3 := List.mem_range.mp hy
    exact hne (by omega)
  · intro x hx
    obtain ⟨n, hn, rfl⟩ := List.mem_map.mp hx
    have := List.mem_range.mp hn
    have := hp (u.length - n)
    rwa [show u.length - (u.length - n) = n by omega] at this
def spReach (K : PySem.W.Frag) (C : Addr) : Sp := fun vs H Q _ => ∃ (x : Addr) (ws : List Str) (rs : List (List Int)) (ss : List Str) (st : Int), vs = [.ref x] ∧ MachAt K C H x ws rs ss st ∧ Parts ws rs ss st ∧
  ∀ (l : Addr) (H' : Hp) (n : Nat) (M : List (List Nat)), bfs (runT [rs] [st]) ws.length n = (M, []) → H l = none → Same H H' → ReachAt (runT [rs] [st]) ws H' l M → Q (.ref l) H'
section
variable {P : Program} {w : World} {K : PySem.W.Frag} {mg : Str → Option Value} {base : Heap}
theorem ok_rtR {f : Addr} {fd : FuncData} (D : Df K mg "row_to" sRT pRT f fd) (T : Bt2 mg) : FnOk P w K mg base CX0 1 f fd pRT (spRTR K) := by
  refine D.F.ok scRT (fun vs H Q E h => ?_) (fun cdv A outer s H vs Q E hr h => ?_)
  · obtain ⟨fo, q, r, ws, M, u, rfl, _⟩ := h
    rfl
  · obtain ⟨fo, q, r, ws, M, u, rfl, ⟨kv, hfo, hE⟩, hnd, hpre, hu', hq, hlen, k⟩ := h
    have hu := hu_of hr
    refine ⟨_, pss_cons (ps_set (i := 2) scRT.nd rfl (Or.inl rfl) (pe_lst pa_nil))
      (pss_cons (ps_set (i := 3) scRT.nd rfl (Or.inl rfl) (pe_dget hu (pv 0) (pv 1) (fun _ _ => rfl)))
      (pss_cons (ps_while PassesOwn.never (pt_cmpR op_notN (pv 3) pe_non (nomark _))
        (pss_cons (ps_expr (pe_bm PySem.F.plainAttrs_list PySem.F.slot_list_append PySem.F.type_list_append mt_append (pv 2) (pa_cons (pe_ix (r := rIxT K) ix_tup (pv 3) pe_int (fun _ _ => rfl)) pa_nil)))
        (pss_one (ps_set (i := 3) scRT.nd rfl (Or.inl rfl) (pe_dget hu (pv 0) (pe_ix (r := rIxT K) ix_tup (pv 3) pe_int (fun _ _ => rfl)) (fun _ _ => rfl))))))
      (pss_one (ps_ret (pe_callTy (r := rTu K) call_tuple_of (by rfl) T.tuple PyProof.Rows.boot_tuple (pa_cons (pe_revL (pv 2)) pa_nil)))))), ?_⟩
    refine ⟨Nat.zero_le _, fun l hl => ?_⟩
    have s1 := same_upd (o := .lst []) hl
    have el1 : upd H l (.lst []) l = some (.lst []) := upd_same
    generalize upd H l (.lst []) = H1 at s1 el1 ⊢
    obtain ⟨v0, ev0, hv0⟩ := hE.at hnd hu'
    refine ⟨_, rfl, _, rfl, fo, v0, rfl, by rw [← ev0]; exact DGet.tR (hfo.same s1) (by rw [keyI_kV]; exact s1 _ _ hq), ?_⟩
    refine while_ix (fun m σ H' => ∃ (u1 u2 : List Nat) (v : V), u1.length = m ∧ u = u1 ++ u2 ∧ u1 ∈ M ∧ EVal r ws H v u1 ∧ Same H H' ∧ H' l = some (.lst (names ws u2.reverse)) ∧ σ = [some (.ref fo), some (.ref q), some (.ref l), some v]) u.length ?_ ?_ ?_
    · exact ⟨u, [], v0, rfl, (List.append_nil u).symm, hu', hv0, s1, el1, rfl⟩
    · rintro m σ H2 ⟨u1, u2, v, rfl, eu, hm1, hv, s2, el2, rfl⟩
      refine ⟨_, rfl, rfl, _, rfl, ?_⟩
      rcases hv with ⟨rfl, rfl⟩ | ⟨u', j, t, q', rfl, rfl, ht, hq'⟩
      · refine iteF ?_
        refine ⟨_, rfl, l, _, rfl, SqL.of el2, fun p1 hp1 => ?_⟩
        have e3 : upd H2 p1 (.lst (names ws u2.reverse).reverse) p1 = some (.lst (names ws u2.reverse).reverse) := upd_same
        have s3 := s2.trans (same_upd (o := .lst (names ws u2.reverse).reverse) hp1)
        generalize upd H2 p1 (.lst (names ws u2.reverse).reverse) = H3 at e3 s3 ⊢
        refine ⟨p1, _, rfl, .inl ⟨SqL.of e3, fun p2 hp2 => ?_⟩⟩
        refine k p2 _ (s3.free hp2) (s3.trans (same_upd hp2)) ?_
        rw [upd_same, eu, names, names, List.map_reverse, List.reverse_reverse]; rfl
      · refine iteT ?_
        have hll : (names ws u2.reverse).length < sizeLine := by
          have h1 := congrArg List.length eu
          rw [List.length_append, List.length_append] at h1
          rw [names, List.length_map, List.length_reverse, sizeLine_eq]; omega
        refine ⟨_, rfl, .inl ⟨rfl, _, SqL.of el2⟩, _, rfl, t, _, _, _, rfl, rfl, SqT.of (s2 _ _ ht), atI_nat (j := 1) rfl, l, _, _, rfl, rfl, el2, hll, ?_⟩
        have s3 : Same H (upd H2 l (.lst (names ws u2.reverse ++ [V.str (ws.getD j "")]))) := fun b o e => by rw [upd_ne (ne_of_none e hl)]; exact s2 _ _ e
        have el3 : upd H2 l (.lst (names ws u2.reverse ++ [V.str (ws.getD j "")])) l = some (.lst (names ws (j :: u2).reverse)) := by
          rw [upd_same, names, names, List.reverse_cons, List.map_append]; rfl
        generalize upd H2 l (.lst (names ws u2.reverse ++ [V.str (ws.getD j "")])) = H3 at s3 el3 ⊢
        have hm' := hpre u' j hm1
        obtain ⟨v', ev', hv'⟩ := hE.at hnd hm'
        refine ⟨_, rfl, _, rfl, t, _, _, _, rfl, rfl, SqT.of (s3 _ _ ht), atI_nat (j := 0) rfl, fo, v', rfl, by rw [← ev']; exact DGet.tR (hfo.same s3) (by rw [keyI_kV]; exact s3 _ _ hq'), ?_⟩
        exact ⟨u'.length, by rw [List.length_append]; exact Nat.lt_succ_self _, u', j :: u2, v', rfl, by rw [eu, List.append_assoc]; rfl, hm', hv', s3, el3, rfl⟩
    · rintro σ H Q Q' hQ ⟨v, e, h1, c, h2, h3⟩
      exact ⟨v, e, h1, c, h2, hQ _ _ h3⟩
abbrev nRe : List Str := ["self", "found", "states"]
theorem scRe : FnScope nRe ["self"] (defScope sMReach) := ⟨rfl, rfl, rfl, by decide +kernel, rfl, by decide +kernel, by decide +kernel⟩
theorem ok_reach {C f fS fN fR : Addr} {fd fdS fdN fdR : FuncData} {ds : List Value} (F : Fun K "reached" "Machine.reached" sMReach f fd) (M : Tm K mg C) (T : Bt2 mg) (hz : mg "zip" = none) (FS : FunD K "first_steps" "first_steps" (defArgs sFS) (defBody sFS) (defScope sFS) [.non] [] fS fdS) (gS : mg "first_steps" = some (.ref fS)) (bS : Binds K fdS pFS ds) (vS : Vals [.non] ds)
    (DN : Df K mg "next_layer" sNL pNL fN fdN) (DR : Df K mg "row_to" sRT pRT fR fdR) : FnOk P w K mg base CX0 3 f fd ["self"] (spReach K C) := by
  have GS : FnOk P w K mg base CX0 2 fS fdS pFS (spFS K) := ok_fs FS DN T hz
  have GR : FnOk P w K mg base CX0 1 fR fdR pRT (spRTR K) := ok_rtR DR T
  refine F.ok scRe (fun vs H Q E h => ?_) (fun cdv A outer s H vs Q E hr h => ?_)
  · obtain ⟨x, ws, rs, ss, st, rfl, _⟩ := h
    rfl
  · obtain ⟨x, ws, rs, ss, st, rfl, mx, px, k⟩ := h
    have hr1 : Room 1 _ := hr.mono (by decide)
    refine ⟨_, pss_cons (ps_set (i := 1) scRe.nd rfl (Or.inr rfl) (pe_call GS hr rfl gS FS.kp bS vS pass0 (pa_cons (pe_fld (pv 0) rfl) (pa_cons (pe_tup (pa_cons (pe_fld (pv 0) rfl) pa_nil)) (pa_cons (pe_tup (pa_cons (pe_fld (pv 0) rfl) pa_nil)) pa_nil)))))
      (pss_one (ps_ret (pe_lock (pe_lc (own := [("states", 2)]) (g := gName 2) (by rfl) scRe.nd (pi_keys (pv 1))
          (blkOk_by (own := [("states", 2)]) (N := nRe) (sc := defScope sMReach) (by decide +kernel)) (fun _ _ _ _ _ => pg_name (i := 2) scRe.nd rfl (Or.inl rfl)) (fun _ _ _ _ _ => pts_nil)
          (fun _ _ _ _ _ => pe_tup (pa_cons (pe_ix (r := rIxT K) ix_tup (pv 2) pe_int (fun _ _ => rfl)) (pa_cons (pe_call GR hr1 rfl DR.g DR.F.kp DR.b .nil pass0 (pa_cons (pv 1) (pa_cons (pv 2) pa_nil))) pa_nil))))))), ?_⟩
    obtain ⟨dx, tx, rx, lx, asx, gx1, gx2, gx3, gx4, gx5⟩ := id mx
    have w6 := px.gd.len.2
    have h60 := px.many.2
    have hs0 : StOk [rs] [st] := ⟨rfl, fun i t v e1 e2 => by
      match i, e1, e2 with
      | 0, e1, e2 => cases e1; cases e2; exact px.st
      | _ + 1, e1, _ => simp at e1⟩
    have htab : ∀ t ∈ [rs], TabOk ws.length t := fun t ht => by rw [List.mem_singleton.mp ht]; exact px.tab
    have hpn : prodN [rs] ≤ 3600 := by
      show rs.length * 1 ≤ 3600
      omega
    refine ⟨_, rfl, x, C, dx, _, _, rfl, gx1, M.cl, M.nD, mf_deeds _ _ _ _, _, rfl, x, C, dx, _, _, rfl, gx1, M.cl, M.nR, mf_rows _ _ _ _, Nat.le_of_ble_eq_true rfl, fun t1 ht1 => ?_⟩
    have s1 := same_upd (o := .tup [V.ref rx]) ht1
    have e1 : upd H t1 (.tup [V.ref rx]) t1 = some (.tup ([rx].map V.ref)) := upd_same
    generalize upd H t1 (.tup [V.ref rx]) = H1 at s1 e1 ⊢
    refine ⟨_, rfl, x, C, dx, _, _, rfl, s1 _ _ gx1, M.cl, M.nS, mf_start _ _ _ _, Nat.le_of_ble_eq_true rfl, fun t2 ht2 => ?_⟩
    have s2 := same_upd (o := .tup [V.int st]) ht2
    have e2 : upd H1 t2 (.tup [V.int st]) t2 = some (.tup ([st].map V.int)) := upd_same
    generalize upd H1 t2 (.tup [V.int st]) = H2 at s2 e2 ⊢
    have s12 := s1.trans s2
    refine ⟨tx, t1, t2, .non, none, ws, [rs], [st], rfl, .inl ⟨rfl, rfl⟩, (gx2.same s12).sq, ⟨[rx], SqT.of (s2 _ _ e1), rfl, fun i a' t' f1 f2 => ?_⟩, e2, htab, hs0, w6, hpn, by simp, fun fo H3 n M0 B eb hB hfo s3 dfo => ?_⟩
    · match i, f1, f2 with
      | 0, f1, f2 => cases f1; cases f2; exact ⟨asx, s12 _ _ gx3, gx4.1, fun j b' q' g1 g2 => s12 _ _ (gx4.2 j b' q' g1 g2)⟩
      | _ + 1, f1, _ => simp at f1
    have hB0 : B = [] := by
      rcases hB with h | ⟨m, h, _⟩
      · exact h
      · cases h
    subst hB0
    rw [List.append_nil] at eb dfo
    have I : BfsI (runT [rs] [st]) ws.length n M0 [] := by
      have := bfs_ok (runT_c [rs] [st]) ws.length n
      rw [eb] at this
      exact this
    have hml : M0.length ≤ prodN [rs] := met_len hs0 htab I.nd I.lt
    have hrun : ∀ u, (∀ k ∈ u, k < ws.length) → StOk [rs] (runT [rs] [st] u) := fun u => hs0.run htab u
    generalize hR : runT [rs] [st] = r at *
    obtain ⟨kv, hfo3, hE⟩ := id dfo
    have s03 := s12.trans s3
    refine ⟨fo, .dT kv, hfo3, trivial, fun od => ?_⟩
    have ef : upd H3 fo (.frz od (.dT kv)) fo = some (.frz od (.dT kv)) := upd_same
    have kf : KeepT H3 (upd H3 fo (.frz od (.dT kv))) := KeepT.updT hfo3
    have kx : ∀ b o, b ≠ fo → H3 b = some o → upd H3 fo (.frz od (.dT kv)) b = some o := fun b o nb e => by rw [upd_ne nb]; exact e
    generalize upd H3 fo (.frz od (.dT kv)) = Hf at ef kf kx ⊢
    have hEf := hE.keep kf
    refine ⟨_, rfl, fo, od, rfl, .inr ⟨kv, ef, fun D hD => ?_⟩⟩
    refine lc_it (walk_keysT (d := fo) (o := od) (kvs := kv)) (fun i H' => Same Hf H' ∧ ∃ ts : List Addr, H' D = some (.lst (ts.map V.ref)) ∧ ts.length = i ∧ ∀ (j : Nat) (t : Addr) (u : List Nat), ts[j]? = some t → M0[j]? = some u → t ≠ D ∧ ∃ q, q ≠ D ∧ H' t = some (.tup [.int ((r u).getD 0 0), .ref q]) ∧ H' q = some (.tup (names ws u))) ?_ ?_ ?_ ?_
    · exact ⟨same_upd hD, [], upd_same, rfl, fun j t u e => by simp at e⟩
    · exact fun i H' _ p => p.1 _ _ ef
    · rintro i y H4 H5 hi ⟨sm, ts, hD4, hts, hj⟩ ⟨rfl, key, v, q, hkv, rfl, hq⟩
      have hiM : i < M0.length := by rw [← hE.1]; exact hi
      have eu : M0[i]? = some M0[i] := List.getElem?_eq_getElem hiM
      have hmem := List.getElem_mem hiM
      generalize M0[i] = u at eu hmem
      obtain ⟨rfl, hev⟩ := hEf.2 i _ _ _ hkv eu
      rw [keyI_kV] at hq
      obtain ⟨cc, ece⟩ : ∃ cc, r u = [cc] := by
        have := (hrun u (I.lt u hmem)).1
        match hru : r u, this with
        | [cc], _ => exact ⟨cc, rfl⟩
      have hlu := pre_len I.pre hmem
      refine ⟨rfl, _, rfl, q, _, 0, _, rfl, rfl, SqT.of hq, atI_nat (j := 0) (v := V.int ((r u).getD 0 0)) (by rw [ece]; rfl), _, rfl, _, rfl, fo, q, r, ws, M0, u, rfl, ⟨kv, .inr ⟨od, sm _ _ ef⟩, hEf.keep (.of sm)⟩, I.nd, I.pre, hmem, hq, by omega, fun p H6 hp s6 e6 => ?_⟩
      refine ⟨Nat.le_of_ble_eq_true rfl, fun t ht => ?_⟩
      have s7 := s6.trans (same_upd (o := .tup [V.int ((r u).getD 0 0), V.ref p]) ht)
      have et : upd H6 t (.tup [V.int ((r u).getD 0 0), V.ref p]) t = some (.tup [V.int ((r u).getD 0 0), V.ref p]) := upd_same
      have ep := (same_upd (o := .tup [V.int ((r u).getD 0 0), V.ref p]) ht) _ _ e6
      have nDp : p ≠ D := (ne_of_none hD4 hp).symm
      have nDt : t ≠ D := (ne_of_none (s6 _ _ hD4) ht).symm
      generalize upd H6 t (.tup [V.int ((r u).getD 0 0), V.ref p]) = H7 at s7 et ep ⊢
      refine ⟨_, s7 _ _ hD4, ?_, fun b o e => by rw [upd_ne (ne_of_none e hD)]; exact s7 _ _ (sm _ _ e), ts ++ [t], by rw [upd_same]; simp, by simp [hts], fun j t' u' f1 f2 => ?_⟩
      · rw [List.length_map, hts, sizeLine_eq]; omega
      · by_cases hjl : j < ts.length
        · rw [List.getElem?_append_left hjl] at f1
          obtain ⟨n1, q', n2, g1, g2⟩ := hj j t' u' f1 f2
          exact ⟨n1, q', n2, by rw [upd_ne n1]; exact s7 _ _ g1, by rw [upd_ne n2]; exact s7 _ _ g2⟩
        · rw [List.getElem?_append_right (by omega)] at f1
          cases hjz : j - ts.length with
          | zero =>
            rw [hjz] at f1
            simp at f1
            subst f1
            have ej : j = i := by omega
            rw [ej, eu] at f2
            cases f2
            exact ⟨nDt, p, nDp, by rw [upd_ne nDt]; exact et, by rw [upd_ne nDp]; exact ep⟩
          | succ z => rw [hjz] at f1; simp at f1
    · rintro H4 ⟨sm, ts, hD4, hts, hj⟩
      have ef4 := sm _ _ ef
      have nDf : D ≠ fo := (ne_of_none ef hD).symm
      refine ⟨ef4, k D _ n M0 eb ?_ (fun b o e => ?_) ⟨ts, by rw [upd_ne nDf]; exact hD4, by rw [hts, hE.1], fun j t u f1 f2 => ?_⟩⟩
      · refine s12.free (s3.free ?_)
        cases hz : H3 D with
        | none => rfl
        | some z => rw [kx D z nDf hz] at hD; cases hD
      · have nb : b ≠ fo := ne_of_none (s12 _ _ e) hfo
        rw [upd_ne nb]
        exact sm _ _ (kx _ _ nb (s03 _ _ e))
      · obtain ⟨n1, q, n2, g1, g2⟩ := hj j t u f1 f2
        exact ⟨q, by rw [upd_ne (ne_of g1 ef4 (by intro z; cases z))]; exact g1, by rw [upd_ne (ne_of g2 ef4 (by intro z; cases z))]; exact g2⟩
end
end K1
set_option Elab.async false
set_option linter.all false
set_option maxRecDepth 100000
/-! a sign, some times -/
namespace L2
open PySem PySem.Spec PyProof.Rows
def repZ (z : Str) (n : Nat) : Str := if n = 1 then z else ⟨(List.replicate n z.cps).foldl (· ++ ·) #[]⟩
theorem fold_app : ∀ (l : List (Array Nat)) (a : Array Nat), (l.foldl (· ++ ·) a).toList = a.toList ++ (l.map Array.toList).flatten
  | [], a => by simp
  | b :: l, a => by rw [List.foldl_cons, fold_app l]; simp
theorem repZ_tl (z : Str) (n : Nat) : (repZ z n).cps.toList = (List.replicate n z.cps.toList).flatten := by
  unfold repZ
  by_cases h : n = 1
  · rw [if_pos h, h]; simp
  · rw [if_neg h]
    show ((List.replicate n z.cps).foldl (· ++ ·) #[]).toList = _
    rw [fold_app]; simp
theorem op_repStr {X : Cx} : OpR X (binaryOp .Mult) (fun x y H Q => ∃ (z : Str) (n : Nat), x = .str z ∧ y = .int (n : Int) ∧ z.length = 1 ∧ 1 ≤ n ∧ n ≤ 1000 ∧ Q (.str (repZ z n)) H) := by
  intro pins s σ H x y v u Q I rx ry h
  obtain ⟨z, n, rfl, rfl, hz, h1, h2, q⟩ := h
  obtain ⟨t, rfl⟩ := rx
  obtain ⟨t', rfl⟩ := ry
  have hn : ¬ ((n : Int) < 1) := by omega
  refine P.mul_str ?_ ?_ ?_ ?_
  · rw [decide_eq_false (by omega), decide_eq_false (by omega)]; rfl
  · intro _ _
    rw [hz]
    have : (1 : Int) ≤ (2 ^ 63 - 1) / (n : Int) := by
      rw [Int.le_ediv_iff_mul_le (by omega)]; omega
    omega
  · intro _ _
    rw [hz, Int.toNat_natCast, Nat.one_mul]
    exact decide_eq_false (by rw [sizeLine_eq]; omega)
  · rw [if_neg hn]
    by_cases e : n = 1
    · subst e
      rw [if_pos (by rfl)]
      have e2 : repZ z 1 = z := rfl
      rw [e2] at q
      exact ⟨.str z, H, I, ⟨_, rfl⟩, q⟩
    · have : ((n : Int) == 1 || z.length == 0) = false := by
        rw [hz]; simp; omega
      rw [if_neg (by rw [this]; simp)]
      have e2 : repZ z n = ⟨(List.replicate (n : Int).toNat z.cps).foldl (· ++ ·) #[]⟩ := by unfold repZ; rw [if_neg e, Int.toNat_natCast]
      rw [e2] at q
      refine ⟨?_, .str _, H, I.tok _, ⟨_, rfl⟩, q⟩
      rw [← e2]
      have e3 := repZ_tl z n
      have e4 : (repZ z n).cps.size = n := by
        have h5 := congrArg List.length e3
        rw [Array.length_toList] at h5
        rw [h5]
        have h6 : z.cps.toList.length = 1 := by rw [Array.length_toList]; exact hz
        simp [h6]
      show (repZ z n).cps.size ≤ sizeLine
      rw [e4, sizeLine_eq]; omega
end L2
set_option Elab.async false
set_option linter.all false
set_option maxRecDepth 100000
/-! _law_ring -/
namespace K1
open PySem L2 LamX
abbrev sRing : Stmt := top 51
def rgR (m w : Nat) : List (List Int) := (List.range m).map fun (k : Nat) => List.replicate w (((k : Int) + 1).fmod (m : Int))
def rgS (m : Nat) (z : Str) : List Str := (List.range m).map fun (k : Nat) => z ++ Str.ofString (toString ((k : Nat) : Int))
theorem dig_ok : ∀ k, k < 60 → 1 ≤ (Str.ofString (toString ((k : Nat) : Int))).cps.toList.length ∧ (Str.ofString (toString ((k : Nat) : Int))).cps.toList.length ≤ 2 ∧ ∀ x ∈ (Str.ofString (toString ((k : Nat) : Int))).cps.toList, x ∈ AL := by decide +kernel
def Stem (z : Str) : Prop := z.cps.toList.length ≤ 50 ∧ ∀ x ∈ z.cps.toList, x ∈ AL
theorem ring_parts {ws : List Str} (gd : GoodD ws) {m : Nat} (h1 : 1 ≤ m) (h60 : m ≤ 60) {z : Str} (hz : Stem z) : Parts ws (rgR m ws.length) (rgS m z) 0 := by
  have l1 : (rgR m ws.length).length = m := by simp [rgR]
  refine ⟨gd, by rw [l1]; exact ⟨h1, h60⟩, fun r hr => ?_, ⟨by rw [l1]; simp [rgS], fun y hy => ?_⟩, by rw [l1]; omega⟩
  · obtain ⟨k, hk, rfl⟩ := List.mem_map.mp hr
    refine ⟨List.length_replicate .., fun x hx => ?_⟩
    rw [List.eq_of_mem_replicate hx, l1]
    exact ⟨Int.fmod_nonneg_of_pos _ (by omega), Int.fmod_lt_of_pos _ (by omega)⟩
  · obtain ⟨k, hk, rfl⟩ := List.mem_map.mp hy
    obtain ⟨d1, d2, d3⟩ := dig_ok k (by have := List.mem_range.mp hk; omega)
    have e1 := TL.tl_append z (Str.ofString (toString ((k : Nat) : Int)))
    unfold TL.tl at e1
    refine ⟨by rw [e1, List.length_append]; omega, by rw [e1, List.length_append]; have := hz.1; omega, fun x hx => ?_⟩
    rw [e1] at hx
    rcases List.mem_append.mp hx with h | h
    · exact List.mem_append_left _ (hz.2 x h)
    · exact List.mem_append_left _ (d3 x h)
def spRing (K : PySem.W.Frag) : Sp := fun vs H Q _ => ∃ (d dl : Addr) (ws : List Str) (m : Nat) (z : Str), vs = [.ref d, .ref dl, .int (m : Int), .str z] ∧ SqL K H dl (ws.map V.str) ∧ ws.length ≤ 26 ∧ 1 ≤ m ∧ m ≤ 60 ∧ z.cps.toList.length ≤ 50 ∧
  ∀ (p : Addr) (H' : Hp), H p = none → Same H H' → PlainAt H' p ws (rgR m ws.length) (rgS m z) 0 → Q (.ref p) H'
section
variable {P : Program} {w : World} {K : PySem.W.Frag} {mg : Str → Option Value} {base : Heap}
abbrev pRing : List Str := ["_law_pen_here", "_law_deeds", "_law_many", "_law_stem"]
abbrev nRing : List Str := ["_law_pen_here", "_law_deeds", "_law_many", "_law_stem", "_law_rows", "_law_state", "_law_deed"]
theorem scRing : FnScope nRing pRing (defScope sRing) := ⟨rfl, rfl, rfl, by decide +kernel, rfl, by decide +kernel, by decide +kernel⟩
abbrev eRg : Expr := valOf (stOf sRing 0)
theorem ok_ring {f : Addr} {fd : FuncData} (D : Df K mg "_law_ring" sRing pRing f fd) (T : Bt2 mg) : FnOk P w K mg base CX0 1 f fd pRing (spRing K) := by
  refine D.F.ok scRing (fun vs H Q E h => ?_) (fun cdv A outer s H vs Q E hr h => ?_)
  · obtain ⟨d, dl, ws, m, z, rfl, _⟩ := h
    rfl
  · obtain ⟨d, dl, ws, m, z, rfl, hdl, hw, h1, h60, hz, k⟩ := h
    have hin : ∀ (s' : Shared) (H' : Hp) (C' : Addr) (cl' : List (Str × Addr)) (fp' : List Addr), PE (Cx.blk (cxOf CX0 P w K mg base nRing "_law_ring" (defScope sRing) f cdv A outer s H E).nox s' H' (compScope eRg) (compEnvC (compScope eRg) cl' C' (cxOf CX0 P w K mg base nRing "_law_ring" (defScope sRing) f cdv A outer s H E).nox.env) fp')
        (eltOf eRg) (tLc (iList K (tVar 1)) (gName 6) tYes _ [6]) := fun s' H' C' cl' fp' =>
      pe_lc (own := [("_law_deed", 6)]) (g := gName 6) (by rfl) scRing.nd (pi_list (pv 1))
          (blkOk_by (own := [("_law_deed", 6)]) (N := nRing) (sc := relS (compScope eRg) (defScope sRing)) (by decide +kernel)) (fun _ _ _ _ _ => pg_name (i := 6) scRing.nd rfl (Or.inl rfl)) (fun _ _ _ _ _ => pts_nil)
          (fun _ _ _ _ _ => pe_op op_modN (pe_callTy call_int1 (by rfl) T.int (by decide +kernel) (pa_cons (pe_op op_add (pv 5) pe_int) pa_nil)) (pv 2))
    refine ⟨_, pss_cons (ps_setLc (i := 4) (own := [("_law_state", 5)]) (g := gName 5) (by rfl) scRing.nd rfl rfl (sw_true rfl rfl rfl (by decide +kernel)) (pi_range1 rfl T.range (pa_cons (pv 2) pa_nil))
          (blkOk_by (own := [("_law_state", 5)]) (N := nRing) (sc := defScope sRing) (by decide +kernel)) (fun _ _ _ _ _ => pg_name (i := 5) scRing.nd rfl (Or.inr rfl)) (fun _ _ _ _ _ => pts_nil) hin)
      (pss_one (ps_ret (pe_disp (pps_cons pe_str (pe_callTy (r := rTuF K) call_tuple_F (by rfl) T.tuple (by decide +kernel) (pa_cons (pv 1) pa_nil))
        (pps_cons pe_str (pv 4) (pps_cons pe_str (pe_lc (own := [("_law_state", 5)]) (g := gName 5) (by rfl) scRing.nd (pi_range1 rfl T.range (pa_cons (pv 2) pa_nil))
            (blkOk_by (own := [("_law_state", 5)]) (N := nRing) (sc := defScope sRing) (by decide +kernel)) (fun _ _ _ _ _ => pg_name (i := 5) scRing.nd rfl (Or.inl rfl)) (fun _ _ _ _ _ => pts_nil)
            (fun _ _ _ _ _ => pe_op op_add_str (pv 3) (pe_callTy call_str_int (by rfl) T.str PyProof.Rows.boot_str (pa_cons (pv 5) pa_nil)))) (pps_cons pe_str pe_int pps_nil)))) (by rfl) (by rfl) (fun z => by cases z) (by decide)))), ?_⟩
    refine ⟨_, rfl, (m : Int), rfl, by omega, by omega, fun D1 hD1 => ?_⟩
    rw [Int.toNat_natCast]
    refine lc_range (lo := 0) (n := m) (fun i H' => Same H H' ∧ ∃ as : List Addr, as.length = i ∧ H' D1 = some (.lst (as.map V.ref)) ∧ (∀ b ∈ as, b ≠ D1) ∧ RowsAt H' as ((rgR m ws.length).take i)) ?_ ?_ ?_
    · exact ⟨same_upd hD1, [], rfl, upd_same, (fun b h => nomatch h), by simp, fun i a r e => by simp at e⟩
    · rintro i H2 hi ⟨s2, as, has, hD, hne, hR⟩
      refine ⟨rfl, _, rfl, dl, rfl, ⟨_, s2.seq hdl⟩, fun D2 hD2 => ?_⟩
      refine lc_list (K := K) (a := dl) (xs := ws.map V.str) (fun j H' => Same H2 H' ∧ H' D2 = some (.lst ((List.replicate j (((i : Int) + 1).fmod (m : Int))).map V.int))) ?_ ?_ ?_ ?_
      · exact ⟨same_upd hD2, upd_same⟩
      · exact fun j H' _ q => q.1.seq (s2.seq hdl)
      · rintro j x H3 hj ⟨s3, hD3⟩
        have hj2 : j < ws.length := by
          have := (List.getElem?_eq_some_iff.mp hj).1
          rwa [List.length_map] at this
        refine ⟨rfl, _, rfl, _, _, rfl, rfl, .inl ⟨_, rfl, _, rfl, _, _, rfl, rfl, by omega, ?_⟩⟩
        refine ⟨_, hD3, ?_, fun b o e => by rw [upd_ne (ne_of_none e hD2)]; exact s3 b o e, ?_⟩
        · rw [List.length_map, List.length_replicate, sizeLine_eq]; omega
        · rw [upd_same, List.replicate_succ', List.map_append, Int.zero_add]; rfl
      · rintro H3 ⟨s3, hD3⟩
        rw [List.length_map] at hD3
        have n12 : D2 ≠ D1 := (ne_of_none hD hD2).symm
        refine ⟨_, s3 _ _ hD, ?_, fun b o e => by rw [upd_ne (ne_of_none e hD1)]; exact s3 _ _ (s2 _ _ e), as ++ [D2], by simp [has], by rw [upd_same]; simp, fun b hb => ?_, ?_⟩
        · rw [List.length_map, has, sizeLine_eq]; omega
        · rcases List.mem_append.mp hb with h | h
          · exact hne b h
          · rw [List.mem_singleton.mp h]; exact n12
        · have en : (rgR m ws.length)[i]? = some (List.replicate ws.length (((i : Int) + 1).fmod (m : Int))) := by unfold rgR; rw [List.getElem?_map, List.getElem?_range hi]; rfl
          rw [List.take_add_one, en]
          have e7 := (hR.same s3).snoc hD3
          refine ⟨e7.1, fun j c q f1 f2 => ?_⟩
          have hc : c ≠ D1 := by
            rcases List.mem_append.mp (List.mem_of_getElem? f1) with h | h
            · exact hne c h
            · rw [List.mem_singleton.mp h]; exact n12
          rw [upd_ne hc]
          exact e7.2 j c q f1 f2
    · rintro H2 ⟨s2, as, has, hD, hne, hR⟩
      have lR : (rgR m ws.length).length = m := by simp [rgR]
      rw [List.take_of_length_le (by rw [lR]; exact Nat.le_refl _)] at hR
      intro p hp
      have zp : H p = none := s2.free hp
      have s3 : Same H2 (upd H2 p (.dK [])) := same_upd hp
      have ep3 : upd H2 p (.dK []) p = some (.dK []) := upd_same
      have hD3 := s3 _ _ hD
      have hR3 := hR.same s3
      generalize upd H2 p (.dK []) = H3 at s3 ep3 hD3 hR3 ⊢
      refine ⟨_, rfl, dl, _, rfl, .inl ⟨(s2.trans s3).seq hdl, fun t ob ht hob => ?_⟩⟩
      have s4 := same_upd (o := .frz ob (.tup (ws.map V.str))) ht
      have et4 : upd H3 t (.frz ob (.tup (ws.map V.str))) t = some (.frz ob (.tup (ws.map V.str))) := upd_same
      generalize upd H3 t (.frz ob (.tup (ws.map V.str))) = H4 at s4 et4 ⊢
      refine ⟨_, rfl, _, rfl, (m : Int), rfl, by omega, by omega, fun D3 hD4 => ?_⟩
      rw [Int.toNat_natCast]
      refine lc_range (lo := 0) (n := m) (fun i H' => Same H4 H' ∧ H' D3 = some (.lst (((rgS m z).take i).map V.str))) ?_ ?_ ?_
      · exact ⟨same_upd hD4, upd_same⟩
      · rintro i H5 hi ⟨s5, hD5⟩
        have en : (rgS m z)[i]? = some (z ++ Str.ofString (toString ((i : Nat) : Int))) := by unfold rgS; rw [List.getElem?_map, List.getElem?_range hi]; rfl
        obtain ⟨d1, d2, _⟩ := dig_ok i (by omega)
        refine ⟨rfl, _, rfl, _, rfl, _, rfl, ?_, _, _, rfl, rfl, ?_, ?_⟩
        · rw [Int.zero_add]
          have : ((i : Int)).natAbs = i := by omega
          rw [this]
          exact Nat.lt_of_le_of_lt (Nat.log2_le_self i) (by omega)
        · rw [Int.zero_add, len_tl, len_tl, sizeLine_eq]
          have : (Str.ofString (toString ((i : Nat) : Int))).cps.toList.length ≤ 2 := d2
          omega
        · refine ⟨_, hD5, ?_, fun b o e => by rw [upd_ne (ne_of_none e hD4)]; exact s5 b o e, ?_⟩
          · rw [List.length_map, List.length_take, sizeLine_eq]; omega
          · rw [upd_same, List.take_add_one, en, List.map_append, Int.zero_add]; rfl
      · rintro H5 ⟨s5, hD5⟩
        have lS : (rgS m z).length = m := by simp [rgS]
        rw [List.take_of_length_le (by rw [lS]; exact Nat.le_refl _)] at hD5
        refine ⟨s5 _ _ (s4 _ _ ep3), plainK t D1 D3 0, rfl, by show 4 ≤ 15; decide, ?_⟩
        rw [plainK_merge]
        have ep5 := s5 _ _ (s4 _ _ ep3)
        have s6 : ∀ b o, H2 b = some o → upd H5 p (.dK (plainK t D1 D3 0)) b = some o := fun b o e => by rw [upd_ne (ne_of_none e hp)]; exact s5 _ _ (s4 _ _ (s3 _ _ e))
        have tn : t ≠ p := (ne_of_none ep3 ht).symm
        have n3p : D3 ≠ p := ne_of hD5 ep5 (by intro z; cases z)
        exact k p _ zp (fun b o e => s6 b o (s2 b o e)) ⟨t, D1, D3, as, upd_same, ⟨ob, by rw [upd_ne tn]; exact s5 _ _ et4, hob⟩, s6 _ _ hD, by rw [upd_ne n3p]; exact hD5, hR.1, fun i a q e1 e2 => s6 _ _ (hR.2 i a q e1 e2)⟩
end
end K1
set_option Elab.async false
set_option linter.all false
set_option maxRecDepth 100000
namespace L2
open PySem PySem.Spec PyProof.Rows
/-- len of an instance by its own __len__ -/
structure OwnL (K : PySem.W.Frag) (C f : Addr) : Prop where
  len : PySem.W.findIn K (.ref C) "__len__" = some (some (.ref f))
  fn : PySem.W.isFn K (.ref f) = true
def rLenOwn (C : Addr) (sp : Sp) (E : XK) : List V → Hp → VK → Prop := fun xs H Q => ∃ a dx fs, xs = [.ref a] ∧ H a = some (.ins C dx fs) ∧ sp [.ref a] H (fun v H' => ∃ n : Nat, v = .int (n : Int) ∧ n ≤ sizeLine ∧ Q (.int (n : Int)) H') E
theorem call_lenOwn {X : Cx} {n : Nat} {CX : CXT} {C f : Addr} {fd : FuncData} {ps : List Str} {sp : Sp} {E : XK} (O : OwnL X.K C f) (F : FnOk X.prog X.w X.K X.mg X.base CX n f fd ps sp) (hr : Room (n + 1) X.A) (hb : Binds X.K fd ps []) (hx : Passes CX X E) :
    CallR X (.builtin "len") (rLenOwn C sp E) := by
  intro pins s σ H xs us Q I r h
  obtain ⟨a, dx, fs, rfl, ha, hs⟩ := h
  obtain ⟨u, rfl, rx⟩ := vals1 r
  cases rx
  obtain ⟨mA, J, _⟩ := ins_get I.hok ha
  obtain ⟨od, J, _⟩ := J.look
  obtain ⟨m, hF⟩ := I.fr
  refine PySem.W.len_K hF I.ok.mod.kin J O.len O.fn ?_
  refine wpAny_mono (own_call (vs := [V.ref a]) F hb hx hr.in1 rfl I (.cons rfl .nil) hs) (fun u s' q => ?_) fun _ _ e => e
  obtain ⟨z, H', I', rz, n, rfl, hn, q⟩ := q
  obtain ⟨t, rfl⟩ := rz
  have hl := line63
  have : (sizeLine : Nat) = 16777216 := sizeLine_eq
  exact ⟨⟨by omega, by omega⟩, ⟨.int (n : Int), H', I'.tok _, ⟨_, rfl⟩, q⟩⟩
end L2
namespace K1
open PySem L2
def pdRow (r : List Int) : PyData := .tuple (r.map PyData.int)
theorem eqv_rows : ∀ ws ws2 : List (List Int), PyData.eqvAll (ws.map pdRow) (ws2.map pdRow) = decide (ws = ws2)
  | [], [] => by simp [PyData.eqvAll]
  | [], _ :: _ => by simp [PyData.eqvAll]
  | _ :: _, [] => by simp [PyData.eqvAll]
  | a :: r, b :: q => by
    simp only [List.map_cons, PyData.eqvAll, eqv_rows r q]
    have : PyData.eqv (pdRow a) (pdRow b) = decide (a = b) := by unfold pdRow; rw [PyData.eqv, eqv_ints]
    rw [this]
    by_cases e : a = b
    · subst e; simp
    · simp [e]
theorem ok_tl {ws : List Str} (h : ∀ z ∈ ws, Tl z) : OkS ws := fun z hz => ok_chars (h z hz).2.2
theorem canLay_rows : ∀ rs : List (List Int), PyData.canLayAll0 (rs.map pdRow) = true
  | [] => rfl
  | n :: r => by simp [PyData.canLayAll0, PyData.canLay0, canLay_rows r, pdRow, canLay_ints]
theorem depth_rows : ∀ rs : List (List Int), PyData.depthAll (rs.map pdRow) ≤ 2
  | [] => by decide
  | n :: r => by
    have := depth_rows r
    have := depth_ints n
    simp only [List.map_cons, PyData.depthAll, PyData.depth, pdRow]
    omega
theorem shaped_rows (rs : List (List Int)) : SeqAt.shaped (.tuple (rs.map pdRow)) = true := shaped_of (by rw [PyData.canLay0, canLay_rows]) (by rw [PyData.depth]; have := depth_rows rs; omega)
theorem dp_rows {K : PySem.W.Frag} {H : Hp} : ∀ {as : List Addr} {rs : List (List Int)}, RowsT H as rs → DpAll K H (as.map V.ref) (rs.map pdRow)
  | [], [], _ => .nil
  | [], _ :: _, h => by cases h.1
  | _ :: _, [], h => by cases h.1
  | a :: as, r :: rs, h => .cons (.tup (SqT.of (h.2 0 a r rfl rfl)) (dp_ints r)) (dp_rows ⟨by have := h.1; simpa using this, fun i b q e1 e2 => h.2 (i + 1) b q e1 e2⟩)
abbrev pEq : List Str := ["self", "other"]
/-- what of a class isinstance asks -/
structure Ti (K : PySem.W.Frag) (C : Addr) : Prop where
  ca : PySem.W.findIn K (.ref C) "__class__" = some (some (.builtin "object.__class__"))
  cs : PySem.W.specialIn K (.builtin "object.__class__") "__get__" = some (some (.builtin "getset_descriptor.__get__"))
  ct : PySem.W.takesIn K (.builtin "object.__class__") = some true
  cm : PySem.W.mroIn K C (.type "object") = some true
def spMLen (K : PySem.W.Frag) (C : Addr) : Sp := fun vs H Q _ => ∃ (x : Addr) (ws : List Str) (rs : List (List Int)) (ss : List Str) (st : Int), vs = [.ref x] ∧ MachAt K C H x ws rs ss st ∧ Q (.int (rs.length : Int)) H
def spMEq (K : PySem.W.Frag) (C : Addr) : Sp := fun vs H Q _ => ∃ (x y : Addr) (ws ws2 : List Str) (rs rs2 : List (List Int)) (ss ss2 : List Str) (st st2 : Int), vs = [.ref x, .ref y] ∧ MachAt K C H x ws rs ss st ∧ MachAt K C H y ws2 rs2 ss2 st2 ∧
  OkS ws ∧ OkS ws2 ∧ OkS ss ∧ OkS ss2 ∧ Q (.bl (decide (ws = ws2 ∧ rs = rs2 ∧ ss = ss2 ∧ st = st2))) H
/-- the other one is no machine -/
def preNI (C : Addr) : List V → Hp → Prop := fun vs H => ∃ (x dx : Addr) (fs : List (Str × V)) (v : V), vs = [.ref x, v] ∧ H x = some (.ins C dx fs) ∧ (v = .non ∨ (∃ i, v = .int i) ∨ ∃ l xs, v = .ref l ∧ H l = some (.lst xs))
section
variable {P : Program} {w : World} {K : PySem.W.Frag} {mg : Str → Option Value} {base : Heap}
theorem scMLen : FnScope ["self"] ["self"] (defScope sMLen) := ⟨rfl, rfl, rfl, by decide +kernel, rfl, by decide +kernel, by decide +kernel⟩
theorem ok_mlen {C f : Addr} {fd : FuncData} (F : Fun K "__len__" "Machine.__len__" sMLen f fd) (M : Tm K mg C) (T : Bt2 mg) : FnOk P w K mg base CX0 1 f fd ["self"] (spMLen K C) := by
  refine F.ok scMLen (fun vs H Q E h => ?_) (fun cdv A outer s H vs Q E hr h => ?_)
  · obtain ⟨x, ws, rs, ss, st, rfl, _⟩ := h
    rfl
  · obtain ⟨x, ws, rs, ss, st, rfl, ⟨dx, t, r, l, as, hx, ht, hr', hR, hl⟩, k⟩ := h
    refine ⟨_, pss_one (ps_ret (pe_callB call_len (by rfl) T.len PySem.boot_len (pa_cons (pe_fld (pv 0) rfl) pa_nil))), ?_⟩
    exact ⟨_, rfl, x, C, dx, _, _, rfl, hx, M.cl, M.nR, mf_rows _ _ _ _, _, rs.length, rfl, .inr ⟨_, SqT.of hr', by rw [List.length_map, hR.1]⟩, k⟩
theorem scMEq : FnScope pEq pEq (defScope sMEq) := ⟨rfl, rfl, rfl, by decide +kernel, rfl, by decide +kernel, by decide +kernel⟩
theorem ok_meq {C f : Addr} {fd : FuncData} (F : Fun K "__eq__" "Machine.__eq__" sMEq f fd) (M : Tm K mg C) (I : Ti K C) (T : Bt2 mg) : FnOk P w K mg base CX0 1 f fd pEq (spMEq K C) := by
  refine F.ok scMEq (fun vs H Q E h => ?_) (fun cdv A outer s H vs Q E hr h => ?_)
  · obtain ⟨x, y, ws, ws2, rs, rs2, ss, ss2, st, st2, rfl, _⟩ := h
    rfl
  · obtain ⟨x, y, ws, ws2, rs, rs2, ss, ss2, st, st2, rfl, ⟨dx, t, r, l, as, hx, ht, hr', hR, hl⟩, ⟨dy, t2, r2, l2, as2, hy, ht2, hr2, hR2, hl2⟩, ow, ow2, os, os2, k⟩ := h
    refine ⟨_, pss_cons (ps_if (pt_not (pt_val (pe_callB call_isi (by rfl) T.isinstance PyProof.Rows.boot_isinstance (pa_cons (pv 1) (pa_cons (pe_glob (v := .ref C) rfl M.mgC rfl) pa_nil))))) pss_never pss_nil)
      (pss_cons (ps_if (PW.pt (pw_or (pt_cmpR (op_neD hr.units) (pe_fld (pv 0) rfl) (pe_fld (pv 1) rfl) (nomark _)) (pw_or1 (pt_cmpR (op_neD hr.units) (pe_fld (pv 0) rfl) (pe_fld (pv 1) rfl) (nomark _))))) (pss_one (ps_ret pe_bl)) pss_nil)
      (pss_one (ps_ret (pe_and (pe_cmpR (op_eqD hr.units) (pe_fld (pv 0) rfl) (pe_fld (pv 1) rfl) (nomark _)) (pe_one (pe_cmpR op_eq (pe_fld (pv 0) rfl) (pe_fld (pv 1) rfl) (nomark _))))))), ?_⟩
    refine ⟨_, rfl, _, _, .ref C, .ref C, true, rfl, .own C, .base (.ins hy M.cl I.ca I.cs I.ct I.cm), by simp [PySem.W.kitOne], true, rfl, ?_⟩
    refine iteF ?_
    refine ⟨_, rfl, x, C, dx, _, _, rfl, hx, M.cl, M.nD, mf_deeds _ _ _ _, _, rfl, y, C, dy, _, _, rfl, hy, M.cl, M.nD, mf_deeds _ _ _ _, _, _, .tup ht.sq (dp_strs ws), .tup ht2.sq (dp_strs ws2), shaped_strs ow, shaped_strs ow2, _, rfl, ?_⟩
    rw [PyData.eqv, eqv_strs]
    refine ite2 (fun h => ?_) (fun h => ?_)
    · have hne : ¬ ws = ws2 := by simpa using h
      refine iteT ?_
      have : decide (ws = ws2 ∧ rs = rs2 ∧ ss = ss2 ∧ st = st2) = false := decide_eq_false fun e => hne e.1
      rw [this] at k
      exact k
    · have e1 : ws = ws2 := by simpa using h
      refine ⟨_, rfl, x, C, dx, _, _, rfl, hx, M.cl, M.nR, mf_rows _ _ _ _, _, rfl, y, C, dy, _, _, rfl, hy, M.cl, M.nR, mf_rows _ _ _ _, _, _, .tup (SqT.of hr') (dp_rows hR), .tup (SqT.of hr2) (dp_rows hR2), shaped_rows rs, shaped_rows rs2, _, rfl, ?_⟩
      rw [PyData.eqv, eqv_rows]
      refine ite2 (fun h => ?_) (fun h => ?_)
      · have hne : ¬ rs = rs2 := by simpa using h
        have : decide (ws = ws2 ∧ rs = rs2 ∧ ss = ss2 ∧ st = st2) = false := decide_eq_false fun e => hne e.2.1
        rw [this] at k
        exact k
      · have e2 : rs = rs2 := by simpa using h
        refine ⟨_, rfl, x, C, dx, _, _, rfl, hx, M.cl, M.nT, mf_tells _ _ _ _, _, rfl, y, C, dy, _, _, rfl, hy, M.cl, M.nT, mf_tells _ _ _ _, _, _, .tup (SqT.of hl) (dp_strs ss), .tup (SqT.of hl2) (dp_strs ss2), shaped_strs os, shaped_strs os2, _, rfl, ?_⟩
        rw [PyData.eqv, eqv_strs]
        refine ite2 (fun h => ?_) (fun h => ?_)
        · have e3 : ss = ss2 := by simpa using h
          refine ⟨_, rfl, x, C, dx, _, _, rfl, hx, M.cl, M.nS, mf_start _ _ _ _, _, rfl, y, C, dy, _, _, rfl, hy, M.cl, M.nS, mf_start _ _ _ _, rfl, ?_⟩
          have : decide (ws = ws2 ∧ rs = rs2 ∧ ss = ss2 ∧ st = st2) = decide (V.int st = V.int st2) := by
            simp [e1, e2, e3]
          rw [this] at k
          exact k
        · have hne : ¬ ss = ss2 := by simpa using h
          have : decide (ws = ws2 ∧ rs = rs2 ∧ ss = ss2 ∧ st = st2) = false := decide_eq_false fun e => hne e.2.2.1
          rw [this] at k
          exact k
end
end K1
set_option Elab.async false
set_option linter.all false
set_option maxRecDepth 100000
/-! what stays while the pen draws -/
namespace K1
open PySem L2 LamX
theorem made_pre {H : Hp} {x dx C : Addr} (hx : H x = none) (hd : H dx = none) : Same H (upd (upd H dx (.own x)) x (.ins C dx [])) := fun b o e => by
  rw [upd_ne (ne_of_none e hx), upd_ne (ne_of_none e hd)]; exact e
theorem made_same {H G : Hp} {x dx C : Addr} (hx : H x = none) (hd : H dx = none) (k : Kept x (upd (upd H dx (.own x)) x (.ins C dx [])) G) : Same H G := fun b o e => by
  have n1 : b ≠ x := ne_of_none e hx
  have n2 : b ≠ dx := ne_of_none e hd
  exact k b o (by rw [upd_ne n1, upd_ne n2]; exact e) n1
theorem MachAt.kd {K : PySem.W.Frag} {C d : Addr} {kv : List (Key × V)} {H H' : Hp} {x : Addr} {ws : List Str} {rs : List (List Int)} {ss : List Str} {st : Int} (h : MachAt K C H x ws rs ss st) (hd : H d = some (.dK kv)) (k : Kept d H H') : MachAt K C H' x ws rs ss st := by
  obtain ⟨dx, t2, r2, l2, as2, f1, f2, f3, f4, f5⟩ := h
  have ne : ∀ {a : Addr} {u : HO}, H a = some u → (∀ kv, u ≠ .dK kv) → a ≠ d := fun e n z => by rw [z, hd] at e; cases e; exact n _ rfl
  have kt : ∀ {a : Addr} {u : HO}, H a = some u → (∀ kv, u ≠ .dK kv) → H' a = some u := fun h n => k _ _ h (ne h n)
  exact ⟨dx, t2, r2, l2, as2, kt f1 (fun _ z => by cases z), k.seqF hd (fun o ys e => by cases e) f2, kt f3 (fun _ z => by cases z), ⟨f4.1, fun i a r g1 g2 => kt (f4.2 i a r g1 g2) (fun _ z => by cases z)⟩, kt f5 (fun _ z => by cases z)⟩
theorem PenAt.dk {H : Hp} {d c : Addr} {n : Nat} (h : PenAt H d c n) : ∃ kv, H d = some (.dK kv) := by
  obtain ⟨_, _, _, hd, _⟩ := h
  exact ⟨_, hd⟩
theorem PlainAt.same {H H' : Hp} {p : Addr} {ws : List Str} {rs : List (List Int)} {ss : List Str} {st : Int} (h : PlainAt H p ws rs ss st) (s : Same H H') : PlainAt H' p ws rs ss st := by
  obtain ⟨t, r, l, as, h1, h2, h3, h4, h5⟩ := h
  exact ⟨t, r, l, as, s _ _ h1, h2.same s, s _ _ h3, s _ _ h4, h5.same s⟩
theorem PlainAt.kd {H H' : Hp} {d p : Addr} {kv : List (Key × V)} {ws : List Str} {rs : List (List Int)} {ss : List Str} {st : Int} (h : PlainAt H p ws rs ss st) (hd : H d = some (.dK kv)) (n : p ≠ d) (k : Kept d H H') : PlainAt H' p ws rs ss st := by
  obtain ⟨t, r, l, as, h1, h2, h3, h4, h5⟩ := h
  have ne : ∀ {a : Addr} {xs : List V}, H a = some (.lst xs) → a ≠ d := fun e => ne_of e hd (by intro z; cases z)
  exact ⟨t, r, l, as, k _ _ h1 n, k.seqF hd (fun o ys e => by cases e) h2, k _ _ h3 (ne h3), k _ _ h4 (ne h4), ⟨h5.1, fun i a q e1 e2 => k _ _ (h5.2 i a q e1 e2) (ne (h5.2 i a q e1 e2))⟩⟩
theorem GoodP.parts {ws : List Str} {rs : List (List Int)} {ss : List Str} {st : Int} {ts : List Str} (g : GoodP ws rs ss st ts) (gd : GoodD ws) (ht : ∀ z ∈ ts, Tl z) : Parts ws rs ss st :=
  ⟨gd, ⟨g.many.1, by have := g.many.2; omega⟩, g.row, ⟨g.tl.1, fun z hz => ht z (g.tl.2 z hz)⟩, g.st⟩
/-- a list of pairs, written -/
def tPairsI : List (Int × Int) → TA
  | [] => tNil
  | p :: r => tCons (tTup (tCons (tC (.int p.1)) (tCons (tC (.int p.2)) tNil))) (tPairsI r)
theorem pairsI_read {σ : L2.St} : ∀ (l : List (Int × Int)) (H : Hp) {Q : List V → Hp → Prop}, (∀ (ts : List Addr) (H' : Hp), Same H H' → ts.length = l.length → (∀ t ∈ ts, H t = none) → (∀ (i : Nat) (t : Addr) (p : Int × Int), ts[i]? = some t → l[i]? = some p → H' t = some (.tup [.int p.1, .int p.2])) → Q (ts.map V.ref) H') → tPairsI l σ H Q
  | [], H, Q, k => k [] H (Same.refl H) rfl (fun t h => nomatch h) (fun i t p e => by simp at e)
  | p :: r, H, Q, k => by
    refine ⟨Nat.le_of_ble_eq_true rfl, fun t ht => ?_⟩
    have s1 := same_upd (o := .tup [V.int p.1, V.int p.2]) ht
    have et : upd H t (.tup [V.int p.1, V.int p.2]) t = some (.tup [V.int p.1, V.int p.2]) := upd_same
    refine pairsI_read r _ (fun ts H' s2 hl hn hi => ?_)
    refine k (t :: ts) H' (s1.trans s2) (by simp [hl]) (fun t' ht' => ?_) (fun i t' p' e1 e2 => ?_)
    · rcases List.mem_cons.mp ht' with rfl | h
      · exact ht
      · exact s1.free (hn t' h)
    · match i, e1, e2 with
      | 0, e1, e2 => cases e1; cases e2; exact s2 _ _ et
      | i + 1, e1, e2 => exact hi i t' p' e1 e2
end K1
set_option Elab.async false
set_option linter.all false
set_option maxRecDepth 100000
/-! _law_shuffled of texts -/
namespace K1
open PySem L2 LamX
abbrev sShufL : Stmt := top 44
theorem map_erase {α β : Type} (f : α → β) : ∀ (l : List α) (j : Nat), (l.map f).eraseIdx j = (l.eraseIdx j).map f
  | [], _ => rfl
  | _ :: _, 0 => rfl
  | a :: l, j + 1 => by
    show f a :: (l.map f).eraseIdx j = f a :: (l.eraseIdx j).map f
    rw [map_erase f l j]
theorem erase_perm {α : Type} : ∀ (l : List α) (j : Nat) (h : j < l.length), (l[j] :: l.eraseIdx j).Perm l
  | a :: l, 0, _ => List.Perm.refl _
  | a :: l, j + 1, h => (List.Perm.swap a (l[j]'(by simpa using h)) (l.eraseIdx j)).trans ((erase_perm l j (by simpa using h)).cons a)
/-- two machines whose states go along with one another -/
def spShufL (K : PySem.W.Frag) : Sp := fun vs H Q _ => ∃ (d c p : Addr) (n : Nat) (xs : List Str), vs = [.ref d, .ref p] ∧ PenAt H d c n ∧ n ≤ 800000 ∧ p ≠ d ∧ SqL K H p (xs.map V.str) ∧ xs.length ≤ 100 ∧
  ∀ (q : Addr) (ys : List Str) (H' : Hp), ys.Perm xs → H q = none → H' q = some (.lst (ys.map V.str)) → PenAt H' d c (n + xs.length) → Kept d H H' → Q (.ref q) H'
section
variable {P : Program} {w : World} {K : PySem.W.Frag} {mg : Str → Option Value} {base : Heap}
abbrev pShuf : List Str := ["_law_pen_here", "_law_some"]
abbrev nShuf : List Str := ["_law_pen_here", "_law_some", "_law_left", "_law_found", "_law_k"]
theorem scShuf : FnScope nShuf pShuf (defScope sShufL) := ⟨rfl, rfl, rfl, by decide +kernel, rfl, by decide +kernel, by decide +kernel⟩
theorem ok_shufL {f fD : Addr} {fd fdD : FuncData} (D : Df K mg "_law_shuffled" sShufL pShuf f fd) (DD : Df K mg "_law_draw" sDraw pDraw fD fdD) (T : Bt mg) : FnOk P w K mg base CX0 2 f fd pShuf (spShufL K) := by
  have GD : FnOk P w K mg base CX0 1 fD fdD pDraw spDraw := ok_draw DD.F T
  refine D.F.ok scShuf (fun vs H Q E h => ?_) (fun cdv A outer s H vs Q E hr h => ?_)
  · obtain ⟨d, c, p, n, xs, rfl, _⟩ := h
    rfl
  · obtain ⟨d, c, p, n, xs, rfl, hpen, hn, npd, hx, hl, k⟩ := h
    refine ⟨_, pss_cons (ps_par (i := 2) (j := 3) (by rfl) scShuf.nd rfl rfl (by decide) rfl rfl
          (pa_cons (pe_callTy call_list_of (by rfl) T.list PyProof.Rows.boot_list (pa_cons (pv 1) pa_nil)) (pa_cons (pe_lst pa_nil) pa_nil)) (by rfl))
      (pss_cons (ps_for PassesOwn.never rfl (pi_range1 rfl T.range (pa_cons (pe_callB call_len (by rfl) T.len PySem.boot_len (pa_cons (pv 2) pa_nil)) pa_nil)) (pg_name (i := 4) scShuf.nd rfl (Or.inl rfl))
        (pss_one (ps_expr (pe_bm PySem.F.plainAttrs_list PySem.F.slot_list_append PySem.F.type_list_append mt_append (pv 3)
          (pa_cons (pe_bm PySem.F.plainAttrs_list PySem.F.slot_list_pop PySem.F.type_list_pop mt_popAt (pv 2) (pa_cons (pe_call GD hr rfl DD.g DD.F.kp DD.b .nil pass0 (pa_cons (pv 0) (pa_cons (pe_callB call_len (by rfl) T.len PySem.boot_len (pa_cons (pv 2) pa_nil)) pa_nil))) pa_nil)) pa_nil)))))
      (pss_one (ps_ret (pv 3)))), ?_⟩
    refine ⟨_, rfl, p, _, rfl, .inl hx, fun l1 hl1 => ⟨Nat.le_of_ble_eq_true rfl, fun l2 hl2 => ⟨_, _, rfl, ?_⟩⟩⟩
    have s1 := same_upd (o := .lst (xs.map V.str)) hl1
    have e1 : upd H l1 (.lst (xs.map V.str)) l1 = some (.lst (xs.map V.str)) := upd_same
    generalize upd H l1 (.lst (xs.map V.str)) = H1 at s1 e1 hl2 ⊢
    have s2 := same_upd (o := .lst []) hl2
    have e2 : upd H1 l2 (.lst []) l2 = some (.lst (([] : List Str).map V.str)) := upd_same
    have e12 := s2 _ _ e1
    generalize upd H1 l2 (.lst []) = H2 at s2 e2 e12 ⊢
    have s02 := s1.trans s2
    have zl2 : H l2 = none := s1.free hl2
    have n12 : l1 ≠ l2 := ne_of_none e1 hl2
    have n1d := (hpen.ne hl1)
    have n2d := (hpen.ne zl2)
    refine ⟨_, rfl, _, xs.length, rfl, .inl ⟨_, SqL.of e12, (List.length_map _).symm⟩, (xs.length : Int), rfl, by omega, by omega, ?_⟩
    rw [Int.toNat_natCast]
    refine for_range (lo := 0) (n := xs.length) (fun i σ H' => ∃ (v4 : Option V) (as bs : List Str), σ = [some (.ref d), some (.ref p), some (.ref l1), some (.ref l2), v4] ∧ PenAt H' d c (n + i) ∧ Kept d H H' ∧ H' l1 = some (.lst (as.map V.str)) ∧ H' l2 = some (.lst (bs.map V.str)) ∧ (bs ++ as).Perm xs ∧ bs.length = i) ?_ ?_ ?_
    · exact ⟨_, xs, [], rfl, hpen.same s02, .same s02, e12, e2, List.Perm.refl _, rfl⟩
    · rintro i σ H3 hi ⟨v4, as, bs, rfl, pen3, k3, ea, eb, hperm, hbl⟩
      have hlen := hperm.length_eq
      rw [List.length_append] at hlen
      have hpos : 0 < as.length := by omega
      refine ⟨_, rfl, .inl ⟨rfl, _, SqL.of eb⟩, _, rfl, .inl ⟨rfl, _, SqL.of ea⟩, _, rfl, _, rfl, _, as.length, rfl, .inl ⟨_, SqL.of ea, (List.length_map _).symm⟩, d, c, _, (as.length : Int), rfl, pen3, by omega, by omega, by omega, fun x H4 x0 x1 pen4 k4 => ?_⟩
      obtain ⟨j, rfl, hj⟩ : ∃ j : Nat, x = (j : Int) ∧ j < as.length := ⟨x.toNat, by omega, by omega⟩
      have ea4 := k4 _ _ ea n1d.1
      have eb4 := k4 _ _ eb n2d.1
      have ej : as[j]? = some as[j] := List.getElem?_eq_getElem hj
      refine ⟨l1, _, _, j, V.str as[j], rfl, rfl, ea4, by omega, by omega, ?_, by rw [List.getElem?_map, ej]; rfl, ?_⟩
      · rw [List.length_map]
        exact (ixN_seq (n := as.length) (i := (j : Int)) (j := j) (by unfold ixN; rw [if_pos (by omega), if_pos (by omega)]; rfl)).1
      refine ⟨l2, _, _, rfl, rfl, by rw [upd_ne n12.symm]; exact eb4, by rw [List.length_map, sizeLine_eq]; omega, ?_⟩
      refine ⟨_, as.eraseIdx j, bs ++ [as[j]], rfl, ?_, ?_, ?_, ?_, ?_, by simp [hbl]⟩
      · exact ((pen4.upd n1d.1 n1d.2).upd n2d.1 n2d.2).mono (by omega)
      · exact ((k3.trans k4).upd hl1).upd zl2
      · rw [upd_ne n12, upd_same, map_erase]
      · rw [upd_same, List.map_append]; rfl
      · refine List.Perm.trans ?_ hperm
        rw [List.append_assoc]
        refine List.Perm.append_left bs ?_
        exact erase_perm as j hj
    · rintro σ H3 ⟨v4, as, bs, rfl, pen3, k3, ea, eb, hperm, hbl⟩
      have hlen := hperm.length_eq
      rw [List.length_append] at hlen
      have : as = [] := List.length_eq_zero_iff.mp (by omega)
      subst this
      rw [List.append_nil] at hperm
      exact ⟨_, rfl, k l2 bs H3 hperm zl2 eb pen3 k3⟩
end
end K1
set_option Elab.async false
set_option linter.all false
set_option maxRecDepth 100000
/-! a queue of words: the mathematics -/
namespace K1
open PySem L2 LamX
section
variable {r : List Nat → List Int} {w : Nat}
theorem exts_allU (w : Nat) : ∀ m, allU w (m + 1) = [] :: exts w (allU w m)
  | 0 => rfl
  | m + 1 => by
    show allU w (m + 1) ++ allW w (m + 2) = [] :: exts w (allU w m ++ allW w (m + 1))
    rw [exts_app, exts_allU w m]; rfl
theorem dd_one (l : List (List Nat)) : dd r [] ([] :: l) = dd r [[]] l := by rw [dd_cons]; rfl
theorem len_bound : ∀ M : List (List Nat), ∃ n0, ∀ u ∈ M, u.length ≤ n0
  | [] => ⟨0, fun u h => nomatch h⟩
  | a :: M => by
    obtain ⟨n, h⟩ := len_bound M
    refine ⟨max a.length n, fun u hu => ?_⟩
    rcases List.mem_cons.mp hu with rfl | hu
    · exact Nat.le_max_left _ _
    · exact Nat.le_trans (h u hu) (Nat.le_max_right _ _)
/-- a queue that has taken all its words' followers is all that is met -/
theorem queue_dd (hr : ∀ u v k, r u = r v → r (u ++ [k]) = r (v ++ [k])) {M : List (List Nat)} (hM : M = dd r [[]] (exts w M)) (hlt : ∀ u ∈ M, ∀ k ∈ u, k < w) : ∃ n0, ∀ m, n0 ≤ m → dd r [] (allU w m) = M := by
  obtain ⟨n0, hn0⟩ := len_bound M
  have hnd : (M.map r).Nodup := by rw [hM]; exact dd_nodup (by simp)
  have step : ∀ m, dd r [] (allU w (m + 1)) = dd r [[]] (exts w (dd r [] (allU w m))) := fun m => by
    rw [exts_allU, dd_one]
    exact exts_dd hr (allU w m) [] [[]] _ (by rw [List.nil_append]) (fun u hu => nomatch hu)
  have pre : ∀ m, ∃ N, M = dd r [] (allU w m) ++ N := by
    intro m
    induction m with
    | zero =>
      obtain ⟨N, e⟩ := dd_pre (r := r) (exts w M) [[]]
      exact ⟨N, by rw [← hM] at e; exact e⟩
    | succ m ih =>
      obtain ⟨N, e⟩ := ih
      have h1 : M = dd r [[]] (exts w (dd r [] (allU w m) ++ N)) := by rw [← e]; exact hM
      rw [exts_app, dd_app, ← step] at h1
      obtain ⟨N', e'⟩ := dd_pre (r := r) (exts w N) (dd r [] (allU w (m + 1)))
      exact ⟨N', h1.trans e'⟩
  refine ⟨n0, fun m hm => ?_⟩
  obtain ⟨N, e⟩ := pre m
  have hN : N = [] := by
    cases N with
    | nil => rfl
    | cons u N =>
      exfalso
      have hu : u ∈ M := by rw [e]; exact List.mem_append_right _ (List.mem_cons_self ..)
      have h1 : r u ∈ (dd r [] (allU w m)).map r := dd_mem ((allU_mem w m u).mpr ⟨Nat.le_trans (hn0 u hu) hm, hlt u hu⟩)
      rw [e, List.map_append] at hnd
      exact (List.nodup_append.mp hnd).2.2 _ h1 (r u) (by rw [List.map_cons]; exact List.mem_cons_self ..) rfl
  rw [hN, List.append_nil] at e
  exact e.symm
/-- .. and is what the layers end with -/
theorem queue_bfs (hr : ∀ u v k, r u = r v → r (u ++ [k]) = r (v ++ [k])) {M : List (List Nat)} (hM : M = dd r [[]] (exts w M)) (hlt : ∀ u ∈ M, ∀ k ∈ u, k < w) : ∃ n, bfs r w n = (M, []) := by
  obtain ⟨n0, h⟩ := queue_dd hr hM hlt
  have h1 : (bfs r w n0).1 = M := (bfs_ok hr w n0).all.trans (h n0 (Nat.le_refl _))
  have h2 : (bfs r w (n0 + 1)).1 = M := (bfs_ok hr w (n0 + 1)).all.trans (h _ (by omega))
  have h3 : (bfs r w (n0 + 1)).2 = [] := by
    show (dd r (bfs r w n0).1 (exts w (bfs r w n0).2)).drop (bfs r w n0).1.length = []
    have : dd r (bfs r w n0).1 (exts w (bfs r w n0).2) = M := h2
    rw [this, h1, List.drop_length]
  exact ⟨n0 + 1, Prod.ext h2 h3⟩
/-- a queue in the midst of it -/
structure Qu (r : List Nat → List Int) (w : Nat) (M : List (List Nat)) (i j : Nat) : Prop where
  eq : M = dd r [[]] (exts w (M.take i) ++ (ext w (M.getD i [])).take j)
  lt : ∀ u ∈ M, ∀ k ∈ u, k < w
  nd : (M.map r).Nodup
  hd : ∃ T, M = [] :: T
theorem Qu.init : Qu r w [[]] 0 0 := by
  refine ⟨by simp [exts, dd_nil], fun u hu k hk => ?_, by simp, ⟨[], rfl⟩⟩
  rw [List.mem_singleton.mp hu] at hk
  exact nomatch hk
theorem Qu.step {M : List (List Nat)} {i j : Nat} (q : Qu r w M i j) (hi : i < M.length) (hj : j < w) : Qu r w (dd r M [M.getD i [] ++ [j]]) i (j + 1) ∧ (dd r M [M.getD i [] ++ [j]]).take (i + 1) = M.take (i + 1) := by
  obtain ⟨N, e⟩ := dd_pre (r := r) [M.getD i [] ++ [j]] M
  have ht : ∀ n, n ≤ i + 1 → (M ++ N).take n = M.take n := fun n hn => by rw [List.take_append_of_le_length (by omega)]
  have hg : (M ++ N).getD i [] = M.getD i [] := by rw [List.getD_eq_getElem?_getD, List.getElem?_append_left hi, ← List.getD_eq_getElem?_getD]
  have hex : (ext w (M.getD i [])).take (j + 1) = (ext w (M.getD i [])).take j ++ [M.getD i [] ++ [j]] := by
    rw [List.take_add_one]
    unfold ext
    rw [List.getElem?_map, List.getElem?_range hj]; rfl
  refine ⟨⟨?_, ?_, dd_nodup q.nd, ?_⟩, by rw [e]; exact ht _ (Nat.le_refl _)⟩
  · rw [e, ht i (by omega), hg, hex, ← List.append_assoc, dd_app, ← q.eq, e]
  · intro u hu k hk
    rcases dd_sub hu with h | h
    · exact q.lt u h k hk
    · rw [List.mem_singleton.mp h] at hk
      rcases List.mem_append.mp hk with hk | hk
      · exact q.lt _ (List.mem_of_getElem? (getD_get ([] : List Nat) hi)) k hk
      · rw [List.mem_singleton.mp hk]; exact hj
  · obtain ⟨T, eT⟩ := q.hd
    exact ⟨T ++ N, by rw [e, eT]; rfl⟩
theorem Qu.next {M : List (List Nat)} {i : Nat} (q : Qu r w M i w) (hi : i < M.length) : Qu r w M (i + 1) 0 := by
  refine ⟨?_, q.lt, q.nd, q.hd⟩
  have h1 : (ext w (M.getD i [])).take w = ext w (M.getD i []) := List.take_of_length_le (by unfold ext; rw [List.length_map, List.length_range]; exact Nat.le_refl _)
  have h2 : M.take (i + 1) = M.take i ++ [M.getD i []] := by rw [List.take_add_one, getD_get ([] : List Nat) hi]; rfl
  have e := q.eq
  rw [h1] at e
  rw [h2, exts_app, List.take_zero, List.append_nil]
  rw [show exts w [M.getD i []] = ext w (M.getD i []) from by rw [exts_cons]; simp [exts]]
  exact e
theorem Qu.skip {M : List (List Nat)} {i : Nat} (q : Qu r w M i 0) (hi : M.length ≤ i) : Qu r w M (i + 1) 0 := by
  refine ⟨?_, q.lt, q.nd, q.hd⟩
  have e := q.eq
  rw [List.take_of_length_le hi] at e
  rw [List.take_of_length_le (by omega)]
  rw [List.take_zero] at e ⊢
  exact e
theorem Qu.fin {M : List (List Nat)} {i : Nat} (q : Qu r w M i 0) (hi : M.length ≤ i) : M = dd r [[]] (exts w M) := by
  have e := q.eq
  rw [List.take_of_length_le hi, List.take_zero, List.append_nil] at e
  exact e
end
end K1
set_option Elab.async false
set_option linter.all false
set_option maxRecDepth 100000
/-! two machines side by side: the mathematics -/
namespace K1
open PySem L2 LamX
section
variable {α : Type} [DecidableEq α]
def idxD (U : List α) (x : α) : Nat := U.idxOf x
theorem idxD_lt {U : List α} {x : α} (h : x ∈ U) : idxD U x < U.length := List.idxOf_lt_length_of_mem h
theorem idxD_get {U : List α} {x : α} (h : x ∈ U) : U[idxD U x]'(idxD_lt h) = x := List.getElem_idxOf (idxD_lt h)
theorem idxD_last {U : List α} {x : α} (h : x ∉ U) : idxD (U ++ [x]) x = U.length := by unfold idxD; rw [List.idxOf_append, if_neg h]; simp
end
/-- the entries of a dict of numbered tuples -/
def entP (U : List (List Int)) : List (List Key × V) := (List.range U.length).map fun i => (keyI (U.getD i []), V.int (i : Int))
theorem entP_len (U : List (List Int)) : (entP U).length = U.length := by unfold entP; rw [List.length_map, List.length_range]
theorem valV_entP {U : List (List Int)} (hn : U.Nodup) {z : List Int} : valV (entP U) (keyI z) = if z ∈ U then some (V.int (idxD U z : Nat)) else none := by
  by_cases h : z ∈ U
  · rw [if_pos h]
    have hlt := idxD_lt h
    refine valV_mem ?_ ?_
    · unfold entP
      rw [List.map_map]
      refine List.pairwise_map.mpr (List.Pairwise.imp_of_mem (fun {x y} hx hy hne e => ?_) (List.nodup_range (n := U.length)))
      have hx' := List.mem_range.mp hx
      have hy' := List.mem_range.mp hy
      have e' : U.getD x [] = U.getD y [] := keyI_inj e
      rw [List.getD_eq_getElem?_getD, List.getElem?_eq_getElem hx', List.getD_eq_getElem?_getD, List.getElem?_eq_getElem hy'] at e'
      exact hne ((List.getElem_inj hn).mp e')
    · refine List.mem_map.mpr ⟨idxD U z, List.mem_range.mpr hlt, ?_⟩
      rw [List.getD_eq_getElem?_getD, List.getElem?_eq_getElem hlt]
      show (keyI U[idxD U z], _) = _
      rw [idxD_get h]
  · rw [if_neg h]
    refine valV_no fun hm => h ?_
    unfold entP at hm
    rw [List.map_map] at hm
    obtain ⟨i, hi, e⟩ := List.mem_map.mp hm
    have hi' := List.mem_range.mp hi
    have e' : U.getD i [] = z := keyI_inj e
    rw [← e', List.getD_eq_getElem?_getD, List.getElem?_eq_getElem hi']
    exact List.getElem_mem hi'
theorem entP_snoc (U : List (List Int)) (z : List Int) : entP (U ++ [z]) = entP U ++ [(keyI z, V.int (U.length : Nat))] := by
  unfold entP
  rw [List.length_append, List.length_singleton, List.range_succ, List.map_append]
  congr 1
  · refine List.map_congr_left fun i hi => ?_
    have := List.mem_range.mp hi
    rw [List.getD_eq_getElem?_getD, List.getElem?_append_left this, ← List.getD_eq_getElem?_getD]
  · rw [List.map_singleton, List.getD_eq_getElem?_getD, List.getElem?_append_right (Nat.le_refl _), Nat.sub_self]; rfl
section
variable {r : List Nat → List Int} {w : Nat}
theorem bfs_step (n : Nat) : ∃ N, (bfs r w (n + 1)).1 = (bfs r w n).1 ++ N := dd_pre _ _
theorem bfs_mono : ∀ {n m : Nat}, n ≤ m → ∃ N, (bfs r w m).1 = (bfs r w n).1 ++ N
  | n, 0, h => ⟨[], by rw [Nat.le_zero.mp h]; simp⟩
  | n, m + 1, h => by
    by_cases e : n = m + 1
    · exact ⟨[], by rw [e]; simp⟩
    · obtain ⟨N, eN⟩ := bfs_mono (show n ≤ m by omega)
      obtain ⟨N', eN'⟩ := bfs_step (r := r) (w := w) m
      exact ⟨N ++ N', by rw [eN', eN, List.append_assoc]⟩
/-- a search that was cut beside one that went to its end -/
theorem bfs_two (hr : ∀ u v k, r u = r v → r (u ++ [k]) = r (v ++ [k])) {n n' : Nat} {M M' B' : List (List Nat)} (h : bfs r w n = (M, [])) (h' : bfs r w n' = (M', B')) : (B' = [] → M' = M) ∧ M'.length ≤ M.length := by
  by_cases hn : n ≤ n'
  · have e := bfs_end hr (n := n) (by rw [h]) n' hn
    rw [h, h'] at e
    injection e with e1 e2
    exact ⟨fun _ => e1, by rw [e1]; exact Nat.le_refl _⟩
  · have hn' : n' ≤ n := by omega
    obtain ⟨N, eN⟩ := bfs_mono (r := r) (w := w) hn'
    rw [h, h'] at eN
    have eN' : M = M' ++ N := eN
    refine ⟨fun e => ?_, by rw [eN', List.length_append]; omega⟩
    have e2 := bfs_end hr (n := n') (by rw [h']; exact e) n hn'
    rw [h, h'] at e2
    injection e2 with e3 _
    exact e3.symm
end
/-! the product's parts -/
def prR (w : Nat) (r : List Nat → List Int) (M : List (List Nat)) : List (List Int) := M.map fun u => (List.range w).map fun k => ((idxD (M.map r) (r (u ++ [k])) : Nat) : Int)
def prS (ss1 ss2 : List Str) (s : List Int) : Str := ss1.getD (s.getD 0 0).toNat "" ++ "/" ++ ss2.getD (s.getD 1 0).toNat ""
def prT (ss1 ss2 : List Str) (r : List Nat → List Int) (M : List (List Nat)) : List Str := M.map fun u => prS ss1 ss2 (r u)
theorem prR_len (w : Nat) (r : List Nat → List Int) (M : List (List Nat)) : (prR w r M).length = M.length := List.length_map _
theorem prT_len (ss1 ss2 : List Str) (r : List Nat → List Int) (M : List (List Nat)) : (prT ss1 ss2 r M).length = M.length := List.length_map _
theorem two_st {ws : List Str} {rs1 rs2 : List (List Int)} {ss1 ss2 : List Str} {st1 st2 : Int} (p1 : Parts ws rs1 ss1 st1) (p2 : Parts ws rs2 ss2 st2) : StOk [rs1, rs2] [st1, st2] ∧ ∀ t ∈ [rs1, rs2], TabOk ws.length t := by
  refine ⟨⟨rfl, fun i t v e1 e2 => ?_⟩, fun t ht => ?_⟩
  · match i, e1, e2 with
    | 0, e1, e2 => cases e1; cases e2; exact p1.st
    | 1, e1, e2 => cases e1; cases e2; exact p2.st
    | _ + 2, e1, _ => simp at e1
  · rcases List.mem_cons.mp ht with rfl | h
    · exact p1.tab
    · rw [List.mem_singleton.mp h]; exact p2.tab
theorem two_at {rs1 rs2 : List (List Int)} {s : List Int} (h : StOk [rs1, rs2] s) : ∃ a b : Int, s = [a, b] ∧ 0 ≤ a ∧ a < (rs1.length : Int) ∧ 0 ≤ b ∧ b < (rs2.length : Int) := by
  match s, h with
  | [a, b], h =>
    obtain ⟨a0, a1⟩ := h.2 0 rs1 a rfl rfl
    obtain ⟨b0, b1⟩ := h.2 1 rs2 b rfl rfl
    exact ⟨a, b, rfl, a0, a1, b0, b1⟩
  | [], h => exact absurd h.1 (by simp)
  | [_], h => exact absurd h.1 (by simp)
  | _ :: _ :: _ :: _, h => exact absurd h.1 (by simp)
theorem tl_two (x y : Str) : (x ++ "/" ++ y).cps.toList = x.cps.toList ++ ("/" : Str).cps.toList ++ y.cps.toList := by
  have e1 := TL.tl_append (x ++ "/") y
  have e2 := TL.tl_append x "/"
  unfold TL.tl at e1 e2
  rw [e1, e2]
theorem pr_parts {ws : List Str} {rs1 rs2 : List (List Int)} {ss1 ss2 : List Str} {st1 st2 : Int} (p1 : Parts ws rs1 ss1 st1) (p2 : Parts ws rs2 ss2 st2) {n : Nat} {M : List (List Nat)} (h : bfs (runT [rs1, rs2] [st1, st2]) ws.length n = (M, [])) (h60 : M.length ≤ 60)
    (hl : ∀ z ∈ prT ss1 ss2 (runT [rs1, rs2] [st1, st2]) M, z.length ≤ 60) : Parts ws (prR ws.length (runT [rs1, rs2] [st1, st2]) M) (prT ss1 ss2 (runT [rs1, rs2] [st1, st2]) M) 0 := by
  have I := bfs_ok (runT_c [rs1, rs2] [st1, st2]) ws.length n
  rw [h] at I
  obtain ⟨hs, ht⟩ := two_st p1 p2
  have hrun : ∀ u ∈ M, StOk [rs1, rs2] (runT [rs1, rs2] [st1, st2] u) := fun u hu => hs.run ht u (I.lt u hu)
  obtain ⟨M0, hM0, _, hcl⟩ := I.ex
  have e0 : M = M0 := by simpa using hM0
  have hM1 : 1 ≤ M.length := by
    obtain ⟨T, eT⟩ := I.hd
    have eT' : M = [] :: T := eT
    rw [eT']; simp
  generalize runT [rs1, rs2] [st1, st2] = r at *
  refine ⟨p1.gd, by rw [prR_len]; exact ⟨hM1, h60⟩, fun q hq => ?_, ⟨by rw [prT_len, prR_len], fun z hz => ?_⟩, by rw [prR_len]; omega⟩
  · obtain ⟨u, hu, rfl⟩ := List.mem_map.mp hq
    refine ⟨by rw [List.length_map, List.length_range], fun x hx => ?_⟩
    obtain ⟨k, hk, rfl⟩ := List.mem_map.mp hx
    have h1 : r (u ++ [k]) ∈ M.map r := hcl u (by rw [← e0]; exact hu) k (List.mem_range.mp hk)
    have h2 := idxD_lt h1
    rw [List.length_map] at h2
    rw [prR_len]
    omega
  · have hz60 := hl z hz
    obtain ⟨u, hu, rfl⟩ := List.mem_map.mp hz
    obtain ⟨a, b, e, a0, a1, b0, b1⟩ := two_at (hrun u hu)
    have l1 := p1.tl.1
    have l2 := p2.tl.1
    have t1 := p1.tl.2 _ (List.mem_of_getElem? (getD_get ("" : Str) (xs := ss1) (n := a.toNat) (by omega)))
    have t2 := p2.tl.2 _ (List.mem_of_getElem? (getD_get ("" : Str) (xs := ss2) (n := b.toNat) (by omega)))
    have ez : prS ss1 ss2 (r u) = ss1.getD a.toNat "" ++ "/" ++ ss2.getD b.toNat "" := by rw [e]; rfl
    rw [ez] at hz60 ⊢
    rw [len_tl] at hz60
    refine ⟨?_, hz60, fun x hx => ?_⟩
    · rw [tl_two, List.length_append]
      have := t2.1
      omega
    · rw [tl_two] at hx
      rcases List.mem_append.mp hx with hx | hx
      · rcases List.mem_append.mp hx with hx | hx
        · exact t1.2.2 x hx
        · exact List.mem_append_right _ hx
      · exact t2.2.2 x hx
end K1
set_option Elab.async false
set_option linter.all false
set_option maxRecDepth 100000
/-! a new dict, locked as soon as it is told; an own * -/
namespace L2
open PySem PySem.Spec PyProof.Rows
section
variable {X : Cx}
/-- an expression's dict, locked from then on -/
def tLockD (t : TE) : TE := fun σ H Q => t σ H fun v H1 => ∃ d u, v = .ref d ∧ H1 d = some u ∧ Mut (some u) ∧ ∀ od, Q v (upd H1 d (.frz od u))
theorem pe_lockD {e : Expr} {t : TE} (h : PE X e t) : PE X e (tLockD t) := by
  refine ⟨fun pins s σ H Q I hw => ?_⟩
  refine thn (h.run pins s σ H _ I hw) fun v s1 ⟨x, H1, I1, r, d, u, ex, hd, mu, q⟩ => ?_
  obtain ⟨od, I2⟩ := I1.lock hd mu
  exact ⟨x, _, I2, r, q od⟩
/-- .. and unlocked behind the statement: a thing that was not there when the def began -/
def tUnlock (H0 : Hp) (t : TS) : TS := fun D σ H => t ⟨fun σ' H' => ∃ d od u, H0 d = none ∧ H' d = some (.frz od u) ∧ D.nx σ' (upd H' d u), fun v H' => ∃ d od u, H0 d = none ∧ H' d = some (.frz od u) ∧ D.rt v (upd H' d u),
  fun σ' H' => ∃ d od u, H0 d = none ∧ H' d = some (.frz od u) ∧ D.bk σ' (upd H' d u), fun σ' H' => ∃ d od u, H0 d = none ∧ H' d = some (.frz od u) ∧ D.ct σ' (upd H' d u)⟩ σ H
theorem ps_unlock {st : Stmt} {t : TS} (h : PS X st t) : PS X st (tUnlock X.H_0 t) := by
  refine ⟨fun pins s σ H D I hw => ?_⟩
  have no : ∀ {d : Addr}, X.H_0 d = none → ∀ o' u', X.H_0 d ≠ some (.frz o' u') := fun e o' u' z => by rw [e] at z; cases z
  refine thn (h.run pins s σ _ _ I hw) fun f s1 q => ?_
  cases f with
  | next => obtain ⟨σ', H', I2, d, od, u, e0, e, q⟩ := q; exact ⟨σ', _, I2.unlock e (no e0), q⟩
  | brk => obtain ⟨σ', H', I2, d, od, u, e0, e, q⟩ := q; exact ⟨σ', _, I2.unlock e (no e0), q⟩
  | cont => obtain ⟨σ', H', I2, d, od, u, e0, e, q⟩ := q; exact ⟨σ', _, I2.unlock e (no e0), q⟩
  | ret v => obtain ⟨x, σ', H', I2, r, d, od, u, e0, e, q⟩ := q; exact ⟨x, σ', _, I2.unlock e (no e0), r, q⟩
end
/-- a binary operator of two instances of the class at C, by the text's own def, that gives a thing -/
structure OwnB (K : PySem.W.Frag) (C f : Addr) (name : Str) : Prop where
  one : PySem.W.selfFirst K C = true
  has : PySem.W.findIn K (.ref C) name = some (some (.ref f))
  fn : PySem.W.isFn K (.ref f) = true
def rOwnB (C : Addr) (sp : Sp) (E : XK) : R2 := fun x y H Q => ∃ a b dx dy fs gs, x = .ref a ∧ y = .ref b ∧ H a = some (.ins C dx fs) ∧ H b = some (.ins C dy gs) ∧ sp [x, y] H (fun v H' => ∃ c, v = .ref c ∧ Q (.ref c) H') E
section
variable {X : Cx} {n : Nat} {CX : CXT} {C f : Addr} {fd : FuncData} {ps : List Str} {sp : Sp} {E : St → XK}
theorem own_callS {A : Around} {pins : List (Addr × Obj)} {s : Shared} {σ : St} {H : Hp} {vs : List V} {us : List Value} {Q : VK} (F : FnOk X.prog X.w X.K X.mg X.base CX n f fd ps sp) (hb : Binds X.K fd ps []) (hx : PassesAt CX X σ (E σ)) (hr : Room n A) (hfr : A.frames = X.A.frames)
    (I : Inv X pins σ H s) (r : Vals vs us) (h : sp vs H Q (E σ)) : wpAny (model X.prog X.w) A (call (.ref f) us) (fun u s' => ∃ v H', Inv X pins σ H' s' ∧ RelV v u ∧ Q v H') X.xe s := by
  have e0 : Env0 X.prog X.w X.K X.mg X.base A X.stack s H := by
    have e := I.env0
    exact ⟨by rw [hfr]; exact e.frames, e.mod, e.bs, e.bsz, e.funs, e.frf, e.hok, e.bare⟩
  have hl := F.len _ _ _ _ h
  refine wpAny_call (codeAny_mono (F.run A X.stack s H ⟨us, []⟩ us vs _ (E σ) hr e0 (by
    have := hb s us I.kIn (by have := r.length; rw [List.append_nil, ← this, hl])
    simpa using this) r h) fun r s' hq => ?_)
  cases r with
  | error e => exact hx pins _ _ e s' I hq
  | ok fl =>
    cases fl with
    | ret w =>
      obtain ⟨z, H', I', rz, q⟩ := I.after hq
      exact ⟨z, H', I', rz, q⟩
    | next => exact False.elim hq
    | brk => exact False.elim hq
    | cont => exact False.elim hq
def tOwnB (C : Addr) (sp : Sp) (E : St → XK) (ta tb : TE) : TE := fun σ H Q => ta σ H fun x H1 => tb σ H1 fun y H2 => rOwnB C sp (E σ) x y H2 Q
theorem pe_ownB {a b : Expr} {ta tb : TE} {pos : Pos} {op : Operator} (O : OwnB X.K C f (PySem.dunder op.info.2)) (F : FnOk X.prog X.w X.K X.mg X.base CX n f fd ps sp) (hr : Room n X.A) (hb : Binds X.K fd ps []) (hx : ∀ σ, PassesAt CX X σ (E σ))
    (ha : PE X a ta) (hbb : PE X b tb) : PE X (.BinOp a op b pos) (tOwnB C sp E ta tb) := by
  refine ⟨fun pins s σ H Q I h => ?_⟩
  refine wpAny_BinOp (binT ha hbb I h fun v u s2 x y H2 I2 rx ry q => ?_)
  obtain ⟨p, q', dx, dy, fs, gs, rfl, rfl, hp, hq', hs⟩ := q
  cases rx
  cases ry
  obtain ⟨mA, J, _⟩ := ins_get I2.hok hp
  obtain ⟨mB, J', _⟩ := ins_get I2.hok hq'
  obtain ⟨od, J, _⟩ := J.look
  obtain ⟨od', J', _⟩ := J'.look
  obtain ⟨m, hF⟩ := I2.fr
  refine PySem.W.binop_K hF I2.ok.mod.kin J J'.type O.one O.has O.fn ?_
  refine wpAny_mono (own_callS (vs := [V.ref p, V.ref q']) F hb (hx σ) hr rfl I2 (.cons rfl (.cons rfl .nil)) hs) (fun u s' q => ?_) fun _ _ e => e
  obtain ⟨z, H', I', rz, c, rfl, q⟩ := q
  cases rz
  exact ⟨.ref c, H', I', rfl, q⟩
end
end L2
set_option Elab.async false
set_option linter.all false
set_option maxRecDepth 100000
set_option maxHeartbeats 1000000
/-! zip of two tuples whose pairs are kept whole (for p in zip(a, b)) -/
namespace RZ
open PySem
open PySem.Sem (wp)
section
variable {prog : Program} {w : World} {A : Around} {E : Value → Shared → Prop} {s : Shared}
/-- a zip object whose last pair may be out -/
def ZipG (h : Heap) (z TI TO : Addr) (f0 : Value) (f1 : Bool) : Prop := h.get? z = some { cls := .type "zip", data := .fields #[f0, .bool f1, .bool false, .ref TI, .ref TO] }
def Owned (f0 : Value) : Prop := f0 = .none ∨ ∃ t : Nat, f0 = rawInt t
theorem own_free {z TI TO : Addr} {f0 : Value} {f1 : Bool} {Q : Bool → Shared → Prop} (hz : ZipG s.heap z TI TO f0 f1) (hf : Owned f0) (k1 : Q true s)
    (k2 : ∀ h', ZipG h' z TI TO f0 true → Heap.SameBut z s.heap h' → Q false { s with heap := h' }) : wpAny (model prog w) A (Builtin.SmallTypes.ownedTupleIsFree (.ref z)) Q E s := by
  unfold Builtin.SmallTypes.ownedTupleIsFree
  refine wpAny_bind (wpAny_field hz rfl (x := f0) rfl ?_)
  rcases hf with rfl | ⟨t, rfl⟩
  · exact wpAny_pure k1
  · show wpAny _ _ (loadIfAlive ((t : Int).toNat) >>= _) _ _ _
    rw [Int.toNat_natCast]
    refine wpAny_bind ?_
    cases ht : s.heap.get? t with
    | none =>
      have go : ∀ {R : Option Obj → Shared → Prop}, R none s → wpAny (model prog w) A (loadIfAlive t) R E s := fun {R} h => by
        have h' : R (s.heap.get? t) s := by rw [ht]; exact h
        exact fun _ _ _ => h'
      refine go ?_
      simp only [Option.isNone_none, if_true]
      exact wpAny_pure k1
    | some o =>
      have go : ∀ {R : Option Obj → Shared → Prop}, R (some o) s → wpAny (model prog w) A (loadIfAlive t) R E s := fun {R} h => by
        have h' : R (s.heap.get? t) s := by rw [ht]; exact h
        exact fun _ _ _ => h'
      refine go ?_
      simp only [Option.isNone_some, Bool.false_eq_true, if_false]
      refine wpAny_bind (wpAny_field hz rfl (x := .bool f1) rfl ?_)
      cases f1 with
      | true =>
        rw [if_neg (show ¬ ((Value.bool true != Value.bool true) = true) from Bool.false_ne_true)]
        exact wpAny_pure (k2 s.heap hz (Heap.SameBut.refl _ _))
      | false =>
        rw [if_pos (show (Value.bool false != Value.bool true) = true from rfl)]
        refine wpAny_bind (wpAny_setField_rec hz (by simp) fun h₁ hz₁ hs₁ => ?_)
        exact wpAny_pure (k2 h₁ hz₁ hs₁)
theorem zipN_next_item {z TI TO i1 i2 l1 l2 : Addr} {k1 k2 : Nat} {xs ys : Array Value} {x y a b f0 : Value} {f1 : Bool} {Q : Value → Shared → Prop} (D : ZipApart z TI TO i1 i2 l1 l2)
    (hz : ZipG s.heap z TI TO f0 f1) (hf : Owned f0) (hTI : IsPair s.heap TI (.ref i1) (.ref i2)) (hTO : IsPair s.heap TO a b)
    (h1 : s.heap.IsTupleIter i1 l1 k1) (h2 : s.heap.IsTupleIter i2 l2 k2) (hl1 : s.heap.IsTuple l1 xs) (hl2 : s.heap.IsTuple l2 ys) (hx : xs[k1]? = some x) (hy : ys[k2]? = some y)
    (hQ : ∀ h' f0' f1', ZipG h' z TI TO f0' f1' → Owned f0' → (∃ a b, IsPair h' TO a b) → h'.IsTupleIter i1 l1 (k1 + 1) → h'.IsTupleIter i2 l2 (k2 + 1) → IsPair h' s.heap.objs.size x y → h'.objs.size = s.heap.objs.size + 1 →
      (∀ c o, c ≠ z → c ≠ TO → c ≠ i1 → c ≠ i2 → s.heap.get? c = some o → h'.get? c = some o) → Q (.ref s.heap.objs.size) { s with heap := h' }) :
    wpAny (model prog w) A (Builtin.«zip.__next__» ⟨[.ref z], []⟩) (fun fin s' => ∃ v, fin = .done (.ret v) ∧ Q v s') E s := by
  show wpAny _ _ (field (.ref z) 2 >>= _) _ _ _
  refine wpAny_bind (wpAny_field hz rfl (x := .bool false) rfl ?_)
  show wpAny _ _ (field (.ref z) 3 >>= _) _ _ _
  refine wpAny_bind (wpAny_field hz rfl (x := .ref TI) rfl ?_)
  refine wpAny_bind (wpAny_seqItems hTI rfl ?_)
  show wpAny _ _ (Builtin.SmallTypes.ownedTupleIsFree (.ref z) >>= _) _ _ _
  refine wpAny_bind (own_free hz hf ?_ fun h₁ hz₁ hs₁ => ?_)
  · simp only [if_true]
    refine wpAny_bind (wpAny_rule ?_)
    refine wpAny_bind (wpAny_field hz rfl (x := .ref TO) rfl ?_)
    refine wpAny_bind (wpAny_setField_rec hz (by simp) fun h₁ hz₁ hs₁ => ?_)
    replace hz₁ : ZipG h₁ z TI TO .ellipsis f1 := hz₁
    refine wpAny_bind ?_
    simp only [List.zipIdx_cons, List.zipIdx_nil, List.forIn_cons, List.forIn_nil]
    refine wpAny_bind (wpAny_bind (wpAny_onRaise ?_))
    show wpAny _ _ (Builtin.SmallTypes.nextOf (.ref i1) >>= _) _ _ _
    refine wpAny_bind (nextOf_tuple_item (h1.extBut hs₁.extBut D.i1z) (hl1.extBut hs₁.extBut D.l1z) hx fun h₂ h1₂ hs₂ => wpAny_pure ?_)
    have hTO₂ : IsPair h₂ TO a b := hs₂.extBut _ _ D.TOi1 (hs₁.extBut _ _ D.TOz hTO)
    refine wpAny_bind (wpAny_seqItems hTO₂ rfl ?_)
    refine wpAny_bind (wpAny_updateSeq_pair hTO₂ fun h₃ hTO₃ hs₃ => ?_)
    replace hTO₃ : IsPair h₃ TO x b := hTO₃
    refine wpAny_bind (wpAny_letGo (wpAny_pure ?_))
    refine wpAny_bind (wpAny_bind (wpAny_onRaise ?_))
    show wpAny _ _ (Builtin.SmallTypes.nextOf (.ref i2) >>= _) _ _ _
    refine wpAny_bind (nextOf_tuple_item (((h2.extBut hs₁.extBut D.i2z).extBut hs₂.extBut D.i12.symm).extBut hs₃.extBut D.TOi2.symm)
      (((hl2.extBut hs₁.extBut D.l2z).extBut hs₂.extBut D.l2i1).extBut hs₃.extBut D.l2TO) hy fun h₄ h2₄ hs₄ => wpAny_pure ?_)
    have hTO₄ : IsPair h₄ TO x b := hs₄.extBut _ _ D.TOi2 hTO₃
    refine wpAny_bind (wpAny_seqItems hTO₄ rfl ?_)
    refine wpAny_bind (wpAny_updateSeq_pair hTO₄ fun h₅ hTO₅ hs₅ => ?_)
    replace hTO₅ : IsPair h₅ TO x y := hTO₅
    refine wpAny_bind (wpAny_letGo (wpAny_pure (wpAny_pure ?_)))
    refine wpAny_bind (wpAny_seqItems hTO₅ rfl ?_)
    refine wpAny_bind (wpAny_newTuple ?_)
    have hsz : h₅.objs.size = s.heap.objs.size := by rw [hs₅.1, hs₄.1, hs₃.1, hs₂.1, hs₁.1]
    have hz₅ : ZipG h₅ z TI TO .ellipsis f1 := hs₅.extBut _ _ D.TOz.symm (hs₄.extBut _ _ D.i2z.symm (hs₃.extBut _ _ D.TOz.symm (hs₂.extBut _ _ D.i1z.symm hz₁)))
    have hk₅ : ∀ c o, c ≠ z → c ≠ TO → c ≠ i1 → c ≠ i2 → s.heap.get? c = some o → h₅.get? c = some o := fun c o c1 c2 c3 c4 e =>
      hs₅.extBut _ _ c2 (hs₄.extBut _ _ c4 (hs₃.extBut _ _ c2 (hs₂.extBut _ _ c3 (hs₁.extBut _ _ c1 e))))
    have h1₅ : h₅.IsTupleIter i1 l1 (k1 + 1) := ((h1₂.extBut hs₃.extBut D.TOi1.symm).extBut hs₄.extBut D.i12).extBut hs₅.extBut D.TOi1.symm
    have h2₅ : h₅.IsTupleIter i2 l2 (k2 + 1) := h2₄.extBut hs₅.extBut D.TOi2.symm
    have hzlt : z < h₅.objs.size := Heap.lt_size hz₅
    show wpAny _ _ (Builtin.SmallTypes.ownedTupleHandOut (.ref z) (.ref h₅.objs.size) >>= _) _ _ _
    refine wpAny_bind ?_
    unfold Builtin.SmallTypes.ownedTupleHandOut
    have hz₆ : ZipG (h₅.push { cls := .type "tuple", data := .seq #[x, y] }) z TI TO .ellipsis f1 := Heap.get?_push_of_some _ hz₅
    refine wpAny_bind (wpAny_setField_rec hz₆ (by simp) fun h₇ hz₇ hs₇ => ?_)
    replace hz₇ : ZipG h₇ z TI TO (rawInt h₅.objs.size) f1 := hz₇
    refine wpAny_setField_rec hz₇ (by simp) fun h₈ hz₈ hs₈ => ?_
    replace hz₈ : ZipG h₈ z TI TO (rawInt h₅.objs.size) false := hz₈
    have up : ∀ c o, c ≠ z → h₅.get? c = some o → h₈.get? c = some o := fun c o c1 e => hs₈.extBut _ _ c1 (hs₇.extBut _ _ c1 (Heap.get?_push_of_some _ e))
    have hT₈ : IsPair h₈ h₅.objs.size x y := hs₈.extBut _ _ (Nat.ne_of_gt hzlt) (hs₇.extBut _ _ (Nat.ne_of_gt hzlt) (Heap.get?_push_size _ rfl))
    have hz8 : h₈.objs.size = h₅.objs.size + 1 := by rw [hs₈.1, hs₇.1, Heap.size_push]
    rw [hsz] at hT₈ hz8
    refine wpAny_pure ⟨_, rfl, ?_⟩
    show Q (.ref h₅.objs.size) _
    rw [hsz]
    exact hQ h₈ _ _ hz₈ (.inr ⟨_, rfl⟩) ⟨x, y, up _ _ D.TOz hTO₅⟩ (h1₅.at fun o e => up _ o D.i1z e) (h2₅.at fun o e => up _ o D.i2z e) hT₈ hz8 fun c o c1 c2 c3 c4 e => up c o c1 (hk₅ c o c1 c2 c3 c4 e)
  · simp only [Bool.false_eq_true, if_false]
    refine wpAny_bind ?_
    simp only [List.forIn_toArray, List.forIn_cons, List.forIn_nil]
    refine wpAny_bind (wpAny_bind (wpAny_holding ?_))
    show wpAny _ _ (Builtin.SmallTypes.nextOf (.ref i1) >>= _) _ _ _
    refine wpAny_bind (nextOf_tuple_item (h1.extBut hs₁.extBut D.i1z) (hl1.extBut hs₁.extBut D.l1z) hx fun h₂ h1₂ hs₂ => wpAny_pure ?_)
    refine wpAny_pure ?_
    refine wpAny_bind (wpAny_bind (wpAny_holding ?_))
    show wpAny _ _ (Builtin.SmallTypes.nextOf (.ref i2) >>= _) _ _ _
    refine wpAny_bind (nextOf_tuple_item ((h2.extBut hs₁.extBut D.i2z).extBut hs₂.extBut D.i12.symm)
      ((hl2.extBut hs₁.extBut D.l2z).extBut hs₂.extBut D.l2i1) hy fun h₄ h2₄ hs₄ => wpAny_pure ?_)
    refine wpAny_pure (wpAny_pure ?_)
    have hsz : h₄.objs.size = s.heap.objs.size := by rw [hs₄.1, hs₂.1, hs₁.1]
    have hz₄ : ZipG h₄ z TI TO f0 true := hs₄.extBut _ _ D.i2z.symm (hs₂.extBut _ _ D.i1z.symm hz₁)
    have hk₄ : ∀ c o, c ≠ z → c ≠ TO → c ≠ i1 → c ≠ i2 → s.heap.get? c = some o → h₄.get? c = some o := fun c o c1 c2 c3 c4 e => hs₄.extBut _ _ c4 (hs₂.extBut _ _ c3 (hs₁.extBut _ _ c1 e))
    refine wpAny_bind (wpAny_newTuple (hsz := by show 2 ≤ sizeLine; decide) ?_)
    refine wpAny_pure ⟨_, rfl, ?_⟩
    have up : ∀ c o, h₄.get? c = some o → (h₄.push { cls := .type "tuple", data := .seq #[x, y] }).get? c = some o := fun c o e => Heap.get?_push_of_some _ e
    have hT : IsPair (h₄.push { cls := .type "tuple", data := .seq #[x, y] }) h₄.objs.size x y := Heap.get?_push_size _ rfl
    have hz8 : (h₄.push { cls := .type "tuple", data := .seq #[x, y] }).objs.size = h₄.objs.size + 1 := by rw [Heap.size_push]
    rw [hsz] at hT hz8
    show Q (.ref h₄.objs.size) _
    rw [hsz]
    have h1₄ : h₄.IsTupleIter i1 l1 (k1 + 1) := h1₂.extBut hs₄.extBut D.i12
    exact hQ _ _ _ (up _ _ hz₄) hf ⟨a, b, up _ _ (hs₄.extBut _ _ D.TOi2 (hs₂.extBut _ _ D.TOi1 (hs₁.extBut _ _ D.TOz hTO)))⟩ (h1₄.at fun o e => up _ o e) (h2₄.at fun o e => up _ o e) hT hz8 fun c o c1 c2 c3 c4 e => up c o (hk₄ c o c1 c2 c3 c4 e)
theorem zipN_next_end {z TI TO i1 i2 l1 l2 : Addr} {k1 k2 : Nat} {xs ys : Array Value} {a b f0 : Value} {f1 : Bool} {Q : Fin → Shared → Prop} (hh : A.handled = none) (D : ZipApart z TI TO i1 i2 l1 l2)
    (hz : ZipG s.heap z TI TO f0 f1) (hf : Owned f0) (hTI : IsPair s.heap TI (.ref i1) (.ref i2)) (hTO : IsPair s.heap TO a b)
    (h1 : s.heap.IsTupleIter i1 l1 k1) (h2 : s.heap.IsTupleIter i2 l2 k2) (hl1 : s.heap.IsTuple l1 xs) (hl2 : s.heap.IsTuple l2 ys) (hend : xs[k1]? = none ∨ ys[k2]? = none)
    (hE : ∀ h' e, (∀ c o, c ≠ z → c ≠ TO → c ≠ i1 → c ≠ i2 → s.heap.get? c = some o → h'.get? c = some o) → (∃ o, h'.get? e = some o ∧ o.cls = .type "StopIteration") → E (.ref e) { s with heap := h' }) :
    wpAny (model prog w) A (Builtin.«zip.__next__» ⟨[.ref z], []⟩) Q E s := by
  show wpAny _ _ (field (.ref z) 2 >>= _) _ _ _
  refine wpAny_bind (wpAny_field hz rfl (x := .bool false) rfl ?_)
  show wpAny _ _ (field (.ref z) 3 >>= _) _ _ _
  refine wpAny_bind (wpAny_field hz rfl (x := .ref TI) rfl ?_)
  refine wpAny_bind (wpAny_seqItems hTI rfl ?_)
  show wpAny _ _ (Builtin.SmallTypes.ownedTupleIsFree (.ref z) >>= _) _ _ _
  refine wpAny_bind (own_free hz hf ?_ fun h₁ hz₁ hs₁ => ?_)
  · simp only [if_true]
    refine wpAny_bind (wpAny_rule ?_)
    refine wpAny_bind (wpAny_field hz rfl (x := .ref TO) rfl ?_)
    refine wpAny_bind (wpAny_setField_rec hz (by simp) fun h₁ hz₁ hs₁ => ?_)
    replace hz₁ : ZipG h₁ z TI TO .ellipsis f1 := hz₁
    refine wpAny_bind ?_
    simp only [List.zipIdx_cons, List.zipIdx_nil, List.forIn_cons, List.forIn_nil]
    refine wpAny_bind (wpAny_bind (wpAny_onRaise ?_))
    show wpAny _ _ (Builtin.SmallTypes.nextOf (.ref i1) >>= _) _ _ _
    cases hx : xs[k1]? with
    | none =>
      refine wpAny_bind (nextOf_tuple_end hh (h1.extBut hs₁.extBut D.i1z) (hl1.extBut hs₁.extBut D.l1z) hx fun h₂ e hs₂ he => ?_)
      obtain ⟨oe, hoe, hce⟩ := he
      have hz₂ : ZipG h₂ z TI TO .ellipsis f1 := hs₂ _ _ D.i1z.symm hz₁
      have hez : e ≠ z := fun x => by subst x; rw [hz₂] at hoe; cases hoe; simp at hce
      refine wpAny_setField_rec hz₂ (by simp) fun h₃ _ hs₃ => hE h₃ e (fun c o c1 _ c3 _ x => hs₃.extBut _ _ c1 (hs₂ _ _ c3 (hs₁.extBut _ _ c1 x))) ⟨oe, hs₃.extBut _ _ hez hoe, hce⟩
    | some x =>
      have hy : ys[k2]? = none := by rcases hend with h | h; rw [hx] at h; cases h; exact h
      refine wpAny_bind (nextOf_tuple_item (h1.extBut hs₁.extBut D.i1z) (hl1.extBut hs₁.extBut D.l1z) hx fun h₂ h1₂ hs₂ => wpAny_pure ?_)
      have hTO₂ : IsPair h₂ TO a b := hs₂.extBut _ _ D.TOi1 (hs₁.extBut _ _ D.TOz hTO)
      refine wpAny_bind (wpAny_seqItems hTO₂ rfl ?_)
      refine wpAny_bind (wpAny_updateSeq_pair hTO₂ fun h₃ hTO₃ hs₃ => ?_)
      refine wpAny_bind (wpAny_letGo (wpAny_pure ?_))
      refine wpAny_bind (wpAny_bind (wpAny_onRaise ?_))
      show wpAny _ _ (Builtin.SmallTypes.nextOf (.ref i2) >>= _) _ _ _
      refine wpAny_bind (nextOf_tuple_end hh (((h2.extBut hs₁.extBut D.i2z).extBut hs₂.extBut D.i12.symm).extBut hs₃.extBut D.TOi2.symm)
        (((hl2.extBut hs₁.extBut D.l2z).extBut hs₂.extBut D.l2i1).extBut hs₃.extBut D.l2TO) hy fun h₄ e hs₄ he => ?_)
      obtain ⟨oe, hoe, hce⟩ := he
      have hz₄ : ZipG h₄ z TI TO .ellipsis f1 := hs₄ _ _ D.i2z.symm (hs₃.extBut _ _ D.TOz.symm (hs₂.extBut _ _ D.i1z.symm hz₁))
      have hez : e ≠ z := fun x => by subst x; rw [hz₄] at hoe; cases hoe; simp at hce
      refine wpAny_setField_rec hz₄ (by simp) fun h₅ _ hs₅ => hE h₅ e (fun c o c1 c2 c3 c4 x => hs₅.extBut _ _ c1 (hs₄ _ _ c4 (hs₃.extBut _ _ c2 (hs₂.extBut _ _ c3 (hs₁.extBut _ _ c1 x))))) ⟨oe, hs₅.extBut _ _ hez hoe, hce⟩
  · simp only [Bool.false_eq_true, if_false]
    refine wpAny_bind ?_
    simp only [List.forIn_toArray, List.forIn_cons, List.forIn_nil]
    refine wpAny_bind (wpAny_bind (wpAny_holding ?_))
    show wpAny _ _ (Builtin.SmallTypes.nextOf (.ref i1) >>= _) _ _ _
    cases hx : xs[k1]? with
    | none =>
      refine wpAny_bind (nextOf_tuple_end hh (h1.extBut hs₁.extBut D.i1z) (hl1.extBut hs₁.extBut D.l1z) hx fun h₂ e hs₂ he => ?_)
      exact hE h₂ e (fun c o c1 _ c3 _ x => hs₂ _ _ c3 (hs₁.extBut _ _ c1 x)) he
    | some x =>
      have hy : ys[k2]? = none := by rcases hend with h | h; rw [hx] at h; cases h; exact h
      refine wpAny_bind (nextOf_tuple_item (h1.extBut hs₁.extBut D.i1z) (hl1.extBut hs₁.extBut D.l1z) hx fun h₂ h1₂ hs₂ => wpAny_pure ?_)
      refine wpAny_pure ?_
      refine wpAny_bind (wpAny_bind (wpAny_holding ?_))
      show wpAny _ _ (Builtin.SmallTypes.nextOf (.ref i2) >>= _) _ _ _
      refine wpAny_bind (nextOf_tuple_end hh ((h2.extBut hs₁.extBut D.i2z).extBut hs₂.extBut D.i12.symm)
        ((hl2.extBut hs₁.extBut D.l2z).extBut hs₂.extBut D.l2i1) hy fun h₄ e hs₄ he => ?_)
      exact hE h₄ e (fun c o c1 c2 c3 c4 x => hs₄ _ _ c4 (hs₂.extBut _ _ c3 (hs₁.extBut _ _ c1 x))) he
theorem wpAny_pyIter_zipG {z TI TO : Addr} {f0 : Value} {f1 : Bool} {Q : Value → Shared → Prop} (hz : ZipG s.heap z TI TO f0 f1) (h : Q (.ref z) s) : wpAny (model prog w) A (pyIter (.ref z)) Q E s := by
  have hT : s.TypeIs (.ref z) "zip" := ⟨_, hz, rfl⟩
  refine wpAny_pyIter_slot hT F.slot_zip_iter (wpAny_call_entry F.slot_zip_iter hT F.entry_zip_iter ?_ (F.args_zip_iter_1 _))
  show wpAny _ _ (ret (.ref z)) _ _ s
  exact wpAny_pure ⟨_, rfl, "zip", _, hT, F.slot_zip_next.lookup, h⟩
theorem next_zipN_item {z TI TO i1 i2 l1 l2 : Addr} {k1 k2 : Nat} {xs ys : Array Value} {x y a b f0 : Value} {f1 : Bool} {Q : Option Value → Shared → Prop} (D : ZipApart z TI TO i1 i2 l1 l2)
    (hz : ZipG s.heap z TI TO f0 f1) (hf : Owned f0) (hTI : IsPair s.heap TI (.ref i1) (.ref i2)) (hTO : IsPair s.heap TO a b)
    (h1 : s.heap.IsTupleIter i1 l1 k1) (h2 : s.heap.IsTupleIter i2 l2 k2) (hl1 : s.heap.IsTuple l1 xs) (hl2 : s.heap.IsTuple l2 ys) (hx : xs[k1]? = some x) (hy : ys[k2]? = some y)
    (hQ : ∀ h' f0' f1', ZipG h' z TI TO f0' f1' → Owned f0' → (∃ a b, IsPair h' TO a b) → h'.IsTupleIter i1 l1 (k1 + 1) → h'.IsTupleIter i2 l2 (k2 + 1) → IsPair h' s.heap.objs.size x y → h'.objs.size = s.heap.objs.size + 1 →
      (∀ c o, c ≠ z → c ≠ TO → c ≠ i1 → c ≠ i2 → s.heap.get? c = some o → h'.get? c = some o) → Q (some (.ref s.heap.objs.size)) { s with heap := h' }) :
    wpAny (model prog w) A (pyNext (.ref z)) Q E s := by
  have hT : s.TypeIs (.ref z) "zip" := ⟨_, hz, rfl⟩
  unfold pyNext
  exact wpAny_bind (wpAny_attempt (wpAny_callSpecial?_slot (name := Str.ofString "__next__") hT F.slot_zip_next
    (wpAny_call_entry F.slot_zip_next hT F.entry_zip_next
      (zipN_next_item D hz hf hTI hTO h1 h2 hl1 hl2 hx hy fun h' f0' f1' a1 a0 a2 a3 a4 a5 a6 a7 => wpAny_pure (hQ h' f0' f1' a1 a0 a2 a3 a4 a5 a6 a7)) (F.args_zip_next_1 _))))
theorem next_zipN_end {z TI TO i1 i2 l1 l2 : Addr} {k1 k2 : Nat} {xs ys : Array Value} {a b f0 : Value} {f1 : Bool} {Q : Option Value → Shared → Prop} (hh : A.in1.handled = none) (D : ZipApart z TI TO i1 i2 l1 l2)
    (hz : ZipG s.heap z TI TO f0 f1) (hf : Owned f0) (hTI : IsPair s.heap TI (.ref i1) (.ref i2)) (hTO : IsPair s.heap TO a b)
    (h1 : s.heap.IsTupleIter i1 l1 k1) (h2 : s.heap.IsTupleIter i2 l2 k2) (hl1 : s.heap.IsTuple l1 xs) (hl2 : s.heap.IsTuple l2 ys) (hend : xs[k1]? = none ∨ ys[k2]? = none)
    (hQ : ∀ h', (∀ c o, c ≠ z → c ≠ TO → c ≠ i1 → c ≠ i2 → s.heap.get? c = some o → h'.get? c = some o) → Q none { s with heap := h' }) : wpAny (model prog w) A (pyNext (.ref z)) Q E s := by
  have hT : s.TypeIs (.ref z) "zip" := ⟨_, hz, rfl⟩
  unfold pyNext
  refine wpAny_bind (wpAny_attempt (wpAny_callSpecial?_slot (name := Str.ofString "__next__") hT F.slot_zip_next
    (wpAny_call_entry F.slot_zip_next hT F.entry_zip_next (zipN_next_end hh D hz hf hTI hTO h1 h2 hl1 hl2 hend fun h' e hk he => ?_) (F.args_zip_next_1 _))))
  obtain ⟨o, ho, hc⟩ := he
  refine wpAny_bind (wpAny_isInstance (T := "StopIteration") (b := true) ⟨o, ho, hc⟩ isSubtype_stop ?_)
  exact wpAny_pure (hQ _ hk)
end
open PySem.Spec PyProof.Rows L2
theorem turn_zipN {P : Program} {w : World} {K : PySem.W.Frag} {x : Str} {tpos : Pos} {a b z TI TO i1 i2 : Addr} (D : ZipApart z TI TO i1 i2 a b) :
    Turn P w K (.Name x tpos) (ItzT K a b) [z, TI, TO, i1, i2] z (fun i h => (∃ f0 f1, ZipG h z TI TO f0 f1 ∧ Owned f0) ∧ IsPair h TI (.ref i1) (.ref i2) ∧ (∃ x y, IsPair h TO x y) ∧ h.IsTupleIter i1 a i ∧ h.IsTupleIter i2 b i) where
  mem := by simp
  obj := fun i h st c hc => by
    obtain ⟨⟨f0, f1, hz, _⟩, hTI, ⟨x, y, hTO⟩, ⟨o1, e1, _, d1⟩, ⟨o2, e2, _, d2⟩⟩ := st
    have e' : c = z ∨ c = TI ∨ c = TO ∨ c = i1 ∨ c = i2 := by simpa using hc
    rcases e' with q | q | q | q | q
    · rw [q]; exact ⟨_, hz, fun v q => nomatch q⟩
    · rw [q]; exact ⟨_, hTI, fun v q => nomatch q⟩
    · rw [q]; exact ⟨_, hTO, fun v q => nomatch q⟩
    · rw [q]; exact ⟨o1, e1, fun v q => by rw [d1] at q; cases q⟩
    · rw [q]; exact ⟨o2, e2, fun v q => by rw [d2] at q; cases q⟩
  keep := fun i h h' st k => by
    obtain ⟨⟨f0, f1, hz, hf⟩, hTI, ⟨x, y, hTO⟩, h1, h2⟩ := st
    exact ⟨⟨f0, f1, k z (by simp) _ hz, hf⟩, k TI (by simp) _ hTI, ⟨x, y, k TO (by simp) _ hTO⟩, h1.at fun o q => k i1 (by simp) o q, h2.at fun o q => k i2 (by simp) o q⟩
  item := by
    intro X hP hw hK hc i pins s σ H E I hf st hg
    subst hP hw hK
    obtain ⟨⟨f0, f1, hz, hfo⟩, hTI, ⟨x0, y0, hTO⟩, h1, h2⟩ := st
    obtain ⟨xs, ys, x, y, hqx, hqy, hx, hy⟩ := hg
    obtain ⟨its, rv, p, _⟩ := I.tuple hqx
    obtain ⟨its2, rv2, p2, _⟩ := I.tuple hqy
    obtain ⟨u, hu, ru⟩ := rv.get hx
    obtain ⟨u2, hu2, ru2⟩ := rv2.get hy
    have hzl : z < s.heap.objs.size := Heap.lt_size hz
    refine next_zipN_item D hz hfo hTI hTO h1 h2 p p2 (x := u) (y := u2) (by simpa using hu) (by simpa using hu2) fun h' f0' f1' z' zo' TO' h1' h2' hT hsz hk => ?_
    have new : ObjOk X.prog X.w (upd H s.heap.objs.size (.tup [x, y])) h' s.heap.objs.size (.tup [x, y]) :=
      ⟨by show 2 ≤ sizeLine; decide, [u, u2], .cons ru (.cons ru2 .nil), ⟨_, hT, rfl, _, rfl⟩⟩
    have I1 : Inv X pins σ (upd H s.heap.objs.size (.tup [x, y])) { s with heap := h' } :=
      I.turnedNew (t' := s.toks) (ch := [z, TI, TO, i1, i2]) (fun c o hb q => hk c o (fun q' => hb (by simp [q'])) (fun q' => hb (by simp [q'])) (fun q' => hb (by simp [q'])) (fun q' => hb (by simp [q'])) q) hf (Nat.le_refl _) new
    refine ⟨_, rfl, wpAny_pure ?_⟩
    refine ⟨.ref s.heap.objs.size, _, I1, rfl, ⟨_, x, y, rfl, I.hok.fresh (Nat.le_refl _), rfl, fun l hl => by rw [I.tuple_inj hl hqx]; exact hx, fun l hl => by rw [I.tuple_inj hl hqy]; exact hy⟩, ⟨⟨f0', f1', z', zo'⟩, ?_, TO', h1', h2'⟩, fun c hcm => ?_⟩
    · exact hk _ _ D.TIz D.TITO D.TIi1 D.TIi2 hTI
    · have hlt : c < s.heap.objs.size := by
        have e' : c = z ∨ c = TI ∨ c = TO ∨ c = i1 ∨ c = i2 := by simpa using hcm
        rcases e' with q | q | q | q | q
        · rw [q]; exact hzl
        · rw [q]; exact Heap.lt_size hTI
        · rw [q]; exact Heap.lt_size hTO
        · rw [q]; obtain ⟨_, e1, _⟩ := h1; exact Heap.lt_size e1
        · rw [q]; obtain ⟨_, e2, _⟩ := h2; exact Heap.lt_size e2
      rw [upd_ne (Nat.ne_of_lt hlt)]
      exact (hf c hcm).1
  done := by
    intro X hP hw hK hc i pins s σ H E I hf st hg
    subst hP hw hK
    obtain ⟨⟨f0, f1, hz, hfo⟩, hTI, ⟨x0, y0, hTO⟩, h1, h2⟩ := st
    obtain ⟨xs, ys, hqx, hqy, hend⟩ := hg
    obtain ⟨its, rv, p, _⟩ := I.tuple hqx
    obtain ⟨its2, rv2, p2, _⟩ := I.tuple hqy
    have l1 := rv.length
    have l2 := rv2.length
    have he : its.toArray[i]? = none ∨ its2.toArray[i]? = none := by
      rcases hend with q | q
      · exact .inl (by simp; omega)
      · exact .inr (by simp; omega)
    exact next_zipN_end (I.ok.hd hc) D hz hfo hTI hTO h1 h2 p p2 he fun h' hk => ⟨rfl, I.turnedL (t' := s.toks) (ch := [z, TI, TO, i1, i2]) (fun c o hb q =>
      hk c o (fun q' => hb (by simp [q'])) (fun q' => hb (by simp [q'])) (fun q' => hb (by simp [q'])) (fun q' => hb (by simp [q'])) q) hf⟩
  self := fun A i s Q E st h => by
    obtain ⟨⟨f0, f1, hz, _⟩, _⟩ := st
    exact wpAny_pyIter_zipG hz h
def iZipN (K : PySem.W.Frag) (ta : TA) : TI := fun σ H R => ta σ H fun vs H1 => ∃ a b xs ys, vs = [.ref a, .ref b] ∧ SqT K H1 a xs ∧ SqT K H1 b ys ∧ R (ItzT K a b) H1
theorem pi_zipN {X : Cx} {e e2 : Expr} {ta : TA} {p pos tpos : Pos} {x : Str} (hg : Gl X "zip") (hm : X.mg "zip" = none) (ha : PA X [e, e2] ta)
    (hs : starEach [e, e2] X.env = (false, eval e X.env) :: starEach [e2] X.env := by rfl) (hpl : (backTo pos (starEach [e2] X.env)).any (·.1) = false := by rfl) :
    PI X (.Name x tpos) (.Call (.Name "zip" p) [e, e2] [] pos) (iZipN X.K ta) := by
  refine ⟨fun pins s σ H R I h => ?_⟩
  refine Call_ (ld_blt I hg hm PyProof.Rows.boot_zip (PyProof.Rows.callWith_type1 (thn (ha.run pos pins s σ H _ I h) fun us s1 ⟨vs, H1, I1, r1, q1⟩ => ?_) hs hpl))
  obtain ⟨a, b, xs, ys, ex, hqx, hqy, q⟩ := q1
  subst ex
  cases r1 with
  | cons r rr =>
    cases rr with
    | cons r' rr =>
      cases rr
      cases r
      cases r'
      have fresh5 : ∀ c, c ∈ [s1.heap.objs.size + 4, s1.heap.objs.size + 2, s1.heap.objs.size + 3, s1.heap.objs.size, s1.heap.objs.size + 1] → FpOk X pins H1 c := fun c hcm => by
        have e' : c = s1.heap.objs.size + 4 ∨ c = s1.heap.objs.size + 2 ∨ c = s1.heap.objs.size + 3 ∨ c = s1.heap.objs.size ∨ c = s1.heap.objs.size + 1 := by simpa using hcm
        have hle : s1.heap.objs.size ≤ c := by
          rcases e' with z | z | z | z | z <;> (rw [z]; omega)
        exact I1.fpOk hle (I1.hok.fresh hle)
      obtain ⟨its, rv, p1, _⟩ := I1.tuple hqx
      obtain ⟨its2, rv2, p2, _⟩ := I1.tuple hqy
      obtain ⟨o1, ho1, _⟩ := id p1
      obtain ⟨o2, ho2, _⟩ := id p2
      refine call_zipT (show s1.heap.IsTuple a its.toArray from p1) (show s1.heap.IsTuple b its2.toArray from p2) fun h' hz hTI hTO h1 h2 hsz hk => wpAny_pyIter_zip hz ?_
      have I2 : Inv X pins σ H1 { s1 with heap := h' } := I1.kept (t' := s1.toks) hk
      exact ⟨s1.heap.objs.size + 4, [s1.heap.objs.size + 4, s1.heap.objs.size + 2, s1.heap.objs.size + 3, s1.heap.objs.size, s1.heap.objs.size + 1], _, _, H1, rfl, I2, turn_zipN (PySem.W.ktu_apart s1.heap.objs.size a b (Heap.lt_size ho1) (Heap.lt_size ho2)), ⟨⟨_, false, hz, .inl rfl⟩, hTI, ⟨_, _, hTO⟩, h1, h2⟩, fresh5, q⟩
end RZ
set_option Elab.async false
set_option linter.all false
set_option maxRecDepth 100000
/-! TooMany, BadTell, Uneven, OtherDeeds, NoEntry -/
namespace K1
open PySem L2
section
variable {P : Program} {w : World} {K : PySem.W.Frag} {mg : Str → Option Value} {base : Heap}
abbrev sTooMany : Stmt := inClass (top 4) 0
theorem scTooMany : FnScope ["self", "what", "many", "most"] ["self", "what", "many", "most"] (defScope sTooMany) := ⟨rfl, rfl, rfl, by decide +kernel, rfl, by decide +kernel, by decide +kernel⟩
abbrev OTooMany (K : PySem.W.Frag) (mg : Str → Option Value) (C fI : Addr) (fd : FuncData) : Prop := Oer K mg "TooMany" ["what", "many", "most"] C fI fd "TooMany.__init__" sTooMany
theorem ini_TooMany {C fI : Addr} {fd : FuncData} (O : OTooMany K mg C fI fd) : FnOk P w K mg base CX0 1 fI fd ["self", "what", "many", "most"] (spIni C ["what", "many", "most"]) := by
  refine O.F.ok scTooMany (fun vs H Q E h => ?_) (fun cdv A outer s H vs Q E hr h => ?_)
  · obtain ⟨a, ys, rfl, e, _⟩ := h
    show ys.length + 1 = _
    rw [e]; rfl
  · obtain ⟨a, ys, rfl, e, ha, k⟩ := h
    obtain ⟨y0, y1, y2, rfl⟩ : ∃ y0 y1 y2, ys = [y0, y1, y2] := by
      match ys, e with
      | [y0, y1, y2], _ => exact ⟨y0, y1, y2, rfl⟩
    refine ⟨_, pss_cons (ps_ost (f := "what") (pv 0) (pv 1)) (pss_cons (ps_ost (f := "many") (pv 0) (pv 2)) (pss_one (ps_ost (f := "most") (pv 0) (pv 3)))), ?_⟩
    refine ⟨_, rfl, _, rfl, a, C, rfl, O.T, O.no _ (List.mem_cons_self ..), .inl ⟨ha, fun dx hdx ne => ?_⟩⟩
    refine ⟨_, rfl, _, rfl, a, C, rfl, O.T, O.no _ (List.mem_cons_of_mem _ (List.mem_cons_self ..)), .inr ⟨dx, [("what", y0)], ?ea1, ?ed1, by show 1 ≤ 900; decide, ?nx1⟩⟩
    case ea1 => exact upd_same
    case ed1 => (rw [upd_ne ne]; exact upd_same)
    refine ⟨_, rfl, _, rfl, a, C, rfl, O.T, O.no _ (List.mem_cons_of_mem _ (List.mem_cons_of_mem _ (List.mem_cons_self ..))), .inr ⟨dx, [("many", y1), ("what", y0)], ?ea2, ?ed2, by show 2 ≤ 900; decide, ?nx2⟩⟩
    case ea2 => (rw [upd_ne ne.symm]; exact upd_same)
    case ed2 => exact upd_same
    refine k dx hdx ne _ (fun b o eb nb => ?_) ?_ ?_
    · rw [upd_ne (ne_of_none eb hdx), upd_ne (ne_of_none eb hdx), upd_ne nb, upd_ne (ne_of_none eb hdx)]; exact eb
    · rw [upd_ne ne.symm, upd_ne ne.symm]; exact upd_same
    · exact upd_same
    
abbrev sBadTell : Stmt := inClass (top 6) 0
theorem scBadTell : FnScope ["self", "index"] ["self", "index"] (defScope sBadTell) := ⟨rfl, rfl, rfl, by decide +kernel, rfl, by decide +kernel, by decide +kernel⟩
abbrev OBadTell (K : PySem.W.Frag) (mg : Str → Option Value) (C fI : Addr) (fd : FuncData) : Prop := Oer K mg "BadTell" ["index"] C fI fd "BadTell.__init__" sBadTell
theorem ini_BadTell {C fI : Addr} {fd : FuncData} (O : OBadTell K mg C fI fd) : FnOk P w K mg base CX0 1 fI fd ["self", "index"] (spIni C ["index"]) := by
  refine O.F.ok scBadTell (fun vs H Q E h => ?_) (fun cdv A outer s H vs Q E hr h => ?_)
  · obtain ⟨a, ys, rfl, e, _⟩ := h
    show ys.length + 1 = _
    rw [e]; rfl
  · obtain ⟨a, ys, rfl, e, ha, k⟩ := h
    obtain ⟨y0, rfl⟩ : ∃ y0, ys = [y0] := by
      match ys, e with
      | [y0], _ => exact ⟨y0, rfl⟩
    refine ⟨_, pss_one (ps_ost (f := "index") (pv 0) (pv 1)), ?_⟩
    refine ⟨_, rfl, _, rfl, a, C, rfl, O.T, O.no _ (List.mem_cons_self ..), .inl ⟨ha, fun dx hdx ne => ?_⟩⟩
    refine k dx hdx ne _ (fun b o eb nb => ?_) ?_ ?_
    · rw [upd_ne nb, upd_ne (ne_of_none eb hdx)]; exact eb
    · exact upd_same
    · rw [upd_ne ne]; exact upd_same
    
abbrev sUneven : Stmt := inClass (top 7) 0
theorem scUneven : FnScope ["self", "many", "most"] ["self", "many", "most"] (defScope sUneven) := ⟨rfl, rfl, rfl, by decide +kernel, rfl, by decide +kernel, by decide +kernel⟩
abbrev OUneven (K : PySem.W.Frag) (mg : Str → Option Value) (C fI : Addr) (fd : FuncData) : Prop := Oer K mg "Uneven" ["many", "most"] C fI fd "Uneven.__init__" sUneven
theorem ini_Uneven {C fI : Addr} {fd : FuncData} (O : OUneven K mg C fI fd) : FnOk P w K mg base CX0 1 fI fd ["self", "many", "most"] (spIni C ["many", "most"]) := by
  refine O.F.ok scUneven (fun vs H Q E h => ?_) (fun cdv A outer s H vs Q E hr h => ?_)
  · obtain ⟨a, ys, rfl, e, _⟩ := h
    show ys.length + 1 = _
    rw [e]; rfl
  · obtain ⟨a, ys, rfl, e, ha, k⟩ := h
    obtain ⟨y0, y1, rfl⟩ : ∃ y0 y1, ys = [y0, y1] := by
      match ys, e with
      | [y0, y1], _ => exact ⟨y0, y1, rfl⟩
    refine ⟨_, pss_cons (ps_ost (f := "many") (pv 0) (pv 1)) (pss_one (ps_ost (f := "most") (pv 0) (pv 2))), ?_⟩
    refine ⟨_, rfl, _, rfl, a, C, rfl, O.T, O.no _ (List.mem_cons_self ..), .inl ⟨ha, fun dx hdx ne => ?_⟩⟩
    refine ⟨_, rfl, _, rfl, a, C, rfl, O.T, O.no _ (List.mem_cons_of_mem _ (List.mem_cons_self ..)), .inr ⟨dx, [("many", y0)], ?ea1, ?ed1, by show 1 ≤ 900; decide, ?nx1⟩⟩
    case ea1 => exact upd_same
    case ed1 => (rw [upd_ne ne]; exact upd_same)
    refine k dx hdx ne _ (fun b o eb nb => ?_) ?_ ?_
    · rw [upd_ne (ne_of_none eb hdx), upd_ne nb, upd_ne (ne_of_none eb hdx)]; exact eb
    · rw [upd_ne ne.symm]; exact upd_same
    · exact upd_same
    
abbrev sOtherDeeds : Stmt := inClass (top 10) 0
theorem scOtherDeeds : FnScope ["self", "have", "want"] ["self", "have", "want"] (defScope sOtherDeeds) := ⟨rfl, rfl, rfl, by decide +kernel, rfl, by decide +kernel, by decide +kernel⟩
abbrev OOtherDeeds (K : PySem.W.Frag) (mg : Str → Option Value) (C fI : Addr) (fd : FuncData) : Prop := Oer K mg "OtherDeeds" ["have", "want"] C fI fd "OtherDeeds.__init__" sOtherDeeds
theorem ini_OtherDeeds {C fI : Addr} {fd : FuncData} (O : OOtherDeeds K mg C fI fd) : FnOk P w K mg base CX0 1 fI fd ["self", "have", "want"] (spIni C ["have", "want"]) := by
  refine O.F.ok scOtherDeeds (fun vs H Q E h => ?_) (fun cdv A outer s H vs Q E hr h => ?_)
  · obtain ⟨a, ys, rfl, e, _⟩ := h
    show ys.length + 1 = _
    rw [e]; rfl
  · obtain ⟨a, ys, rfl, e, ha, k⟩ := h
    obtain ⟨y0, y1, rfl⟩ : ∃ y0 y1, ys = [y0, y1] := by
      match ys, e with
      | [y0, y1], _ => exact ⟨y0, y1, rfl⟩
    refine ⟨_, pss_cons (ps_ost (f := "have") (pv 0) (pv 1)) (pss_one (ps_ost (f := "want") (pv 0) (pv 2))), ?_⟩
    refine ⟨_, rfl, _, rfl, a, C, rfl, O.T, O.no _ (List.mem_cons_self ..), .inl ⟨ha, fun dx hdx ne => ?_⟩⟩
    refine ⟨_, rfl, _, rfl, a, C, rfl, O.T, O.no _ (List.mem_cons_of_mem _ (List.mem_cons_self ..)), .inr ⟨dx, [("have", y0)], ?ea1, ?ed1, by show 1 ≤ 900; decide, ?nx1⟩⟩
    case ea1 => exact upd_same
    case ed1 => (rw [upd_ne ne]; exact upd_same)
    refine k dx hdx ne _ (fun b o eb nb => ?_) ?_ ?_
    · rw [upd_ne (ne_of_none eb hdx), upd_ne nb, upd_ne (ne_of_none eb hdx)]; exact eb
    · rw [upd_ne ne.symm]; exact upd_same
    · exact upd_same
abbrev sNoEntry : Stmt := inClass (top 11) 0
theorem scNoEntry : FnScope ["self", "tell"] ["self", "tell"] (defScope sNoEntry) := ⟨rfl, rfl, rfl, by decide +kernel, rfl, by decide +kernel, by decide +kernel⟩
abbrev ONoEntry (K : PySem.W.Frag) (mg : Str → Option Value) (C fI : Addr) (fd : FuncData) : Prop := Oer K mg "NoEntry" ["tell"] C fI fd "NoEntry.__init__" sNoEntry
theorem ini_NoEntry {C fI : Addr} {fd : FuncData} (O : ONoEntry K mg C fI fd) : FnOk P w K mg base CX0 1 fI fd ["self", "tell"] (spIni C ["tell"]) := by
  refine O.F.ok scNoEntry (fun vs H Q E h => ?_) (fun cdv A outer s H vs Q E hr h => ?_)
  · obtain ⟨a, ys, rfl, e, _⟩ := h
    show ys.length + 1 = _
    rw [e]; rfl
  · obtain ⟨a, ys, rfl, e, ha, k⟩ := h
    obtain ⟨y0, rfl⟩ : ∃ y0, ys = [y0] := by
      match ys, e with
      | [y0], _ => exact ⟨y0, rfl⟩
    refine ⟨_, pss_one (ps_ost (f := "tell") (pv 0) (pv 1)), ?_⟩
    refine ⟨_, rfl, _, rfl, a, C, rfl, O.T, O.no _ (List.mem_cons_self ..), .inl ⟨ha, fun dx hdx ne => ?_⟩⟩
    refine k dx hdx ne _ (fun b o eb nb => ?_) ?_ ?_
    · rw [upd_ne nb, upd_ne (ne_of_none eb hdx)]; exact eb
    · exact upd_same
    · rw [upd_ne ne]; exact upd_same
    
end
end K1
set_option Elab.async false
set_option linter.all false
set_option maxRecDepth 100000
/-! is_tell and check_tells of any values -/
namespace K1
open PySem L2
def firstBad (n : Nat) (ok : Nat → Bool) : Option Nat := (List.range n).find? fun j => !(ok j)
theorem first_some {n i : Nat} {ok : Nat → Bool} (hi : i < n) (h : ∀ j, j < i → ok j = true) (hb : ok i = false) : firstBad n ok = some i := by
  unfold firstBad
  rw [List.find?_range_eq_some]
  refine ⟨by rw [hb]; rfl, List.mem_range.mpr hi, fun j hj => by rw [h j hj]; rfl⟩
theorem first_none {n : Nat} {ok : Nat → Bool} (h : ∀ j, j < n → ok j = true) : firstBad n ok = none := by
  unfold firstBad
  rw [List.find?_eq_none]
  intro j hj
  rw [h j (List.mem_range.mp hj)]; decide
abbrev fTM : List Str := ["what", "many", "most"]
abbrev fUn : List Str := ["many", "most"]
abbrev fIx : List Str := ["index"]
def badT (ts : List V) : Option Nat := firstBad ts.length fun j => tellB (ts.getD j .non)
def spCTells (K : PySem.W.Frag) (C CU : Addr) : Sp := fun vs H Q E => ∃ (a : Addr) (ts : List V) (m : Nat), vs = [.ref a, .int (m : Int)] ∧ SqL K H a ts ∧ (∀ v ∈ ts, ∃ t, Th K H v t) ∧ ts.length ≤ 100 ∧
  match badT ts with
  | some k => Rs C fIx [.int (k : Int)] H E
  | none => if ts.length = m then ∀ G, Same H G → Q .non G else Rs CU fUn [.int (ts.length : Int), .int (m : Int)] H E
section
variable {P : Program} {w : World} {K : PySem.W.Frag} {mg : Str → Option Value} {base : Heap}
theorem g_istell {f : Addr} {fd : FuncData} (D : Df K mg "is_tell" sIsTell ["value"] f fd) (T : Bt2 mg) : FnOk P w K mg base CX0 1 f fd ["value"] (spTell K) := by
  refine D.F.ok scIsTell (fun vs H Q E h => ?_) (fun cdv A outer s H vs Q E hr h => ?_)
  · obtain ⟨v, t, rfl, _⟩ := h
    rfl
  · obtain ⟨v, t, rfl, th, k⟩ := h
    obtain ⟨tL, gL⟩ := T.LETTERS
    obtain ⟨tD, gD⟩ := T.DIGITS
    obtain ⟨tW, gW⟩ := T.LONGEST_TELL
    refine ⟨_, pss_cons (ps_if (PW.pt (pw_or (pt_not (pt_val (pe_callB call_isi (by rfl) T.isinstance PyProof.Rows.boot_isinstance (pa_cons (pv 0) (pa_cons (pe_bltn (v := .ty "str") (by rfl) T.str PyProof.Rows.boot_str rfl) pa_nil)))))
          (pw_or1 (pt_not (pt_chain op_le op_le pe_int (pe_callB call_len_str (by rfl) T.len PySem.boot_len (pa_cons (pv 0) pa_nil)) (pe_glob (v := .int 60) rfl gW ⟨_, rfl⟩))))))
        (pss_one (ps_ret pe_bl)) pss_nil)
      (pss_one (ps_ret (pe_callB (cr_all rfl) (by rfl) T.all PyProof.Rows.boot_all (pa_cons (pe_lc (own := [("sign", 1)]) (g := gName 1) (by rfl) scIsTell.nd (pi_str (pv 0))
          (blkOk_by (own := [("sign", 1)]) (N := ["value", "sign"]) (sc := defScope sIsTell) (by decide +kernel)) (fun _ _ _ _ _ => pg_name (i := 1) scIsTell.nd rfl (Or.inl rfl)) (fun _ _ _ _ _ => pts_nil)
          (fun _ _ _ _ _ => pe_cmpR op_in_sign (pv 1) (pe_op op_add_str (pe_op op_add_str (pe_glob (v := .str zLE) rfl gL ⟨_, rfl⟩) (pe_glob (v := .str zDG) rfl gD ⟨_, rfl⟩)) pe_str) rfl)) pa_nil)))), ?_⟩
    refine ⟨_, rfl, _, _, _, _, isStr v, rfl, .ty "str", th.ty, th.kStr, isStr v, rfl, ?_⟩
    cases th with
    | str z hl1 =>
      refine iteF ?_
      have hzl : z.length ≤ sizeLine := Nat.le_trans hl1 (by decide)
      have elen : z.length = z.cps.toList.length := len_tl z
      refine ⟨_, rfl, _, rfl, hzl, _, _, rfl, rfl, _, rfl, ?_⟩
      refine ite2 (fun h1 => ?_) (fun h1 => ?_)
      · have h1' : (1 : Int) ≤ (z.length : Int) := of_decide_eq_true h1
        refine ⟨_, _, rfl, rfl, _, rfl, ?_⟩
        have e1 : decide (1 ≤ z.cps.toList.length) = true := decide_eq_true (by omega)
        refine ite2 (fun h2 => ?_) (fun h2 => ?_)
        · have e : tellB (.str z) = false := by
            have hn : ¬ z.cps.toList.length ≤ 60 := by
              intro hc
              have : decide ((z.length : Int) ≤ 60) = true := decide_eq_true (by omega)
              rw [this] at h2; exact absurd h2 (by decide)
            show (_ && (decide _ && _)) = false
            rw [e1, decide_eq_false hn]; rfl
          have := k H (Same.refl H)
          rw [e] at this
          exact this
        · have h12 : z.cps.toList.length ≤ 60 := by
            have : decide ((z.length : Int) ≤ 60) = true := by
              cases hd : decide ((z.length : Int) ≤ 60) with
              | true => rfl
              | false => rw [hd] at h2; exact absurd rfl h2
            have := of_decide_eq_true this
            omega
          have ew : tellB (.str z) = (z.cps.toList.all fun x => decide (x ∈ TL')) := by
            show (_ && (decide _ && _)) = _
            rw [e1, decide_eq_true h12]; rfl
          refine ⟨_, rfl, z, rfl, fun D hD => ?_⟩
          refine lc_it (walk_str (z := z)) (fun i H' => Same H H' ∧ H' D = some (.lst ((((z.cps.toList.take i).map fun x => decide (x ∈ TL'))).map V.bl))) ?_ ?_ ?_ ?_
          · exact ⟨same_upd hD, upd_same⟩
          · exact fun _ _ _ _ => trivial
          · rintro i x H1 H2 hi ⟨sm, hD1⟩ ⟨rfl, c', hc', rfl⟩
            have hi' : z.cps.toList[i]? = some c' := by simpa using hc'
            refine ⟨rfl, _, rfl, _, _, rfl, rfl, by decide +kernel, _, _, rfl, rfl, by decide +kernel, c', zLE ++ zDG ++ zSL, rfl, rfl, _, hD1, ?_, ?_, ?_⟩
            · rw [List.length_map, List.length_map, List.length_take]; exact small1000 (by omega)
            · exact fun b o e => by rw [upd_ne (ne_of_none e hD)]; exact sm b o e
            · rw [upd_same, take_snoc hi']
              simp [TL_eq]
          · rintro H1 ⟨sm, hD1⟩
            refine ⟨D, _, rfl, SqL.of hD1, ?_⟩
            have e : ((z.cps.toList.take z.cps.size).map fun x => decide (x ∈ TL')).all id = tellB (.str z) := by
              have hs : z.cps.size = z.cps.toList.length := by simp
              rw [hs, List.take_length, all_signs (K := K), ew]
            rw [e]
            exact k H1 sm
      · have e : tellB (.str z) = false := by
          have hn : z.cps.toList = [] := by
            cases hz : z.cps.toList with
            | nil => rfl
            | cons c r => exact absurd (decide_eq_true (by rw [elen, hz]; simp; omega)) h1
          show tellL z.cps.toList = false
          rw [hn]; rfl
        have := k H (Same.refl H)
        rw [e] at this
        exact ⟨_, rfl, this⟩
    | _ => exact k H (Same.refl H)
theorem g_tells {f fT C fI CU fU : Addr} {fd fdT fdI fdU : FuncData} (D : Df K mg "check_tells" sCheckTells ["tells", "many"] f fd) (DT : Df K mg "is_tell" sIsTell ["value"] fT fdT) (O : OBadTell K mg C fI fdI) (OU : OUneven K mg CU fU fdU) (T : Bt2 mg) :
    FnOk P w K mg base (L2.CX P w) 3 f fd ["tells", "many"] (spCTells K C CU) := by
  have GT : FnOk P w K mg base CX0 1 fT fdT ["value"] (spTell K) := g_istell DT T
  refine D.F.okX scTells (fun vs H Q E h => ?_) (fun cdv A outer s H vs Q E hr h => ?_)
  · obtain ⟨a, ts, m, rfl, _⟩ := h
    rfl
  · obtain ⟨a, ts, m, rfl, ha, hth, hle, k⟩ := h
    have hr1 : Room 1 _ := hr.mono (by decide)
    refine ⟨_, pss_cons (ps_for (passes_of rfl) rfl (pi_enum (by rfl) T.enumerate (pa_cons (pv 0) pa_nil)) (pg_tup (by rfl) (pgs_cons (pg_name (i := 2) scTells.nd rfl (Or.inl rfl)) (pgs_cons (pg_name (i := 3) scTells.nd rfl (Or.inl rfl)) pgs_nil)))
        (pss_one (ps_if (pt_not (pt_val (pe_call GT hr1 rfl DT.g DT.F.kp DT.b .nil pass0 (pa_cons (pv 3) pa_nil))))
          (pss_one (ps_raise rfl (takes_of rfl rfl rfl rfl) (pmk_oex O.T O.ini O.tI (ini_BadTell O) hr O.b .nil pass0 rfl O.g (pa_cons (pv 2) pa_nil)))) pss_nil)))
      (pss_one (ps_if (pt_cmpR op_ne (pe_callB call_len (by rfl) T.len PySem.boot_len (pa_cons (pv 0) pa_nil)) (pv 1) (nomark _))
          (pss_one (ps_raise rfl (takes_of rfl rfl rfl rfl) (pmk_oex OU.T OU.ini OU.tI (ini_Uneven OU) hr OU.b .nil pass0 rfl OU.g (pa_cons (pe_callB call_len (by rfl) T.len PySem.boot_len (pa_cons (pv 0) pa_nil)) (pa_cons (pv 1) pa_nil))))) pss_nil)), ?_⟩
    refine ⟨_, rfl, a, _, rfl, ha, for_it (walk_enum (K := K) (a := a) (xs := ts)) (fun i σ H' => Same H H' ∧ (∀ j, j < i → tellB (ts.getD j .non) = true) ∧ ∃ v1 v2, σ = [some (.ref a), some (.int (m : Int)), v1, v2]) ⟨Same.refl H, fun j hj => absurd hj (Nat.not_lt_zero j), none, none, rfl⟩ (fun i σ H' _ p => p.1.seq ha) ?_ ?_⟩
    · rintro i x σ H1 H2 hi ⟨sm, ok, v1, v2, rfl⟩ ⟨t, x1, x2, rfl, ht, rfl, e1, e2⟩
      cases e1
      replace e2 : ts[i]? = some x2 := e2
      have hxm := List.mem_of_getElem? e2
      have hil : i < ts.length := (List.getElem?_eq_some_iff.mp e2).1
      have eg : ts.getD i .non = x2 := by rw [List.getD_eq_getElem?_getD, e2]; rfl
      obtain ⟨ty, th⟩ := hth x2 hxm
      have sm2 := sm.trans (same_upd (o := .tup [V.int (i : Nat), x2]) ht)
      refine ⟨t, _, rfl, SqT.of upd_same, rfl, _, _, rfl, _, _, rfl, rfl, ?_⟩
      refine ⟨_, rfl, x2, ty, rfl, th.same sm2, fun H3 sm3 => ⟨tellB x2, rfl, ?_⟩⟩
      have sm4 := sm2.trans sm3
      cases hw : tellB x2 with
      | false =>
        refine iteT ?_
        have eb : badT ts = some i := first_some hil ok (by rw [eg]; exact hw)
        rw [eb] at k
        refine ⟨_, rfl, ?_⟩
        exact err_read (fs := fIx) (by decide) rfl (k.same sm4)
      | true =>
        refine iteF ?_
        refine ⟨sm4, fun j hj => ?_, _, _, rfl⟩
        by_cases e : j < i
        · exact ok j e
        · have : j = i := by omega
          subst this
          rw [eg]; exact hw
    · rintro σ H1 ⟨sm, ok, v1, v2, rfl⟩
      have en : badT ts = none := first_none ok
      rw [en] at k
      replace k : if ts.length = m then ∀ G, Same H G → Q .non G else Rs CU fUn [.int (ts.length : Int), .int (m : Int)] H E := k
      refine ⟨_, rfl, _, ts.length, rfl, .inl ⟨_, sm.seq ha, rfl⟩, _, rfl, rfl, _, rfl, ?_⟩
      by_cases hm : ts.length = m
      · rw [if_pos hm] at k
        refine ite2 (fun h => ?_) (fun _ => k H1 sm)
        rw [hm] at h
        simp at h
      · rw [if_neg hm] at k
        refine ite2 (fun _ => ?_) (fun h => ?_)
        · refine ⟨_, rfl, _, ts.length, rfl, .inl ⟨_, sm.seq ha, rfl⟩, _, rfl, ?_⟩
          exact err_read (fs := fUn) (by decide) rfl (k.same sm)
        · exfalso
          apply h
          simp
          omega
end
end K1
set_option Elab.async false
set_option linter.all false
set_option maxRecDepth 100000
/-! machines.side_by_side -/
namespace K1
open PySem L2 LamX
abbrev sSide : Stmt := top 39
abbrev eSdT : Expr := valOf (stOf sSide 4)
abbrev eSdR : Expr := valOf (stOf sSide 6)
abbrev scSdR : Scope := compScope eSdR
def rAddS : R2 := fun x y H Q => ∃ i j : Str, x = .str i ∧ y = .str j ∧ i.length + j.length ≤ sizeLine ∧ Q (.str (i ++ j)) H
def spSide (K : PySem.W.Frag) (C CT : Addr) : Sp := fun vs H Q E => ∃ (x y : Addr) (ws : List Str) (rs1 : List (List Int)) (ss1 : List Str) (st1 : Int) (rs2 : List (List Int)) (ss2 : List Str) (st2 : Int) (n : Nat) (M : List (List Nat)),
  vs = [.ref x, .ref y] ∧ MachAt K C H x ws rs1 ss1 st1 ∧ MachAt K C H y ws rs2 ss2 st2 ∧ Parts ws rs1 ss1 st1 ∧ Parts ws rs2 ss2 st2 ∧ bfs (runT [rs1, rs2] [st1, st2]) ws.length n = (M, []) ∧
  (60 < M.length → Rs CT fTM [.str "states", .int 61, .int 60] H E) ∧
  (M.length ≤ 60 → (∃ z ∈ prT ss1 ss2 (runT [rs1, rs2] [st1, st2]) M, 60 < z.length) → Rs CT fTM [.str "characters", .int 61, .int 60] H E) ∧
  (M.length ≤ 60 → (∀ z ∈ prT ss1 ss2 (runT [rs1, rs2] [st1, st2]) M, z.length ≤ 60) → ∀ (p : Addr) (H' : Hp), H p = none → Same H H' → MachAt K C H' p ws (prR ws.length (runT [rs1, rs2] [st1, st2]) M) (prT ss1 ss2 (runT [rs1, rs2] [st1, st2]) M) 0 → Q (.ref p) H')
section
variable {P : Program} {w : World} {K : PySem.W.Frag} {mg : Str → Option Value} {base : Heap}
abbrev pSide : List Str := ["one", "other"]
abbrev nSide : List Str := ["one", "other", "begin", "numbers", "pair", "tells", "a", "b", "tell", "rows", "led"]
theorem scSide : FnScope nSide pSide (defScope sSide) := ⟨rfl, rfl, rfl, by decide +kernel, rfl, by decide +kernel, by decide +kernel⟩
theorem ok_side {C CT f fS fN fI fT : Addr} {fd fdS fdN fdI fdT : FuncData} {ds : List Value} (D : Df K mg "side_by_side" sSide pSide f fd) (M : Tm K mg C) (T : Bt2 mg) (hz : mg "zip" = none)
    (FS : FunD K "first_steps" "first_steps" (defArgs sFS) (defBody sFS) (defScope sFS) [.non] [] fS fdS) (gS : mg "first_steps" = some (.ref fS)) (bS : Binds K fdS pFS []) (DN : Df K mg "next_layer" sNL pNL fN fdN) (OT : OTooMany K mg CT fT fdT)
    (MkI : Mk K C fI) (bI : Binds K fdI pInit ds) (vI : Vals [.int 0] ds) (GI : FnOk P w K mg base CX0 5 fI fdI pInit (spMInit K C)) : FnOk P w K mg base (L2.CX P w) 7 f fd pSide (spSide K C CT) := by
  have GS : FnOk P w K mg base CX0 2 fS fdS pFS (spFS K) := ok_fs FS DN T hz
  refine D.F.okX scSide (fun vs H Q E h => ?_) (fun cdv A outer s H vs Q E hr h => ?_)
  · obtain ⟨x, y, ws, rs1, ss1, st1, rs2, ss2, st2, n, ML, rfl, _⟩ := h
    rfl
  · obtain ⟨x, y, ws, rs1, ss1, st1, rs2, ss2, st2, n, ML, rfl, mx, my, px, py, hbf, k1, k2, k3⟩ := h
    have hu := hu_of hr
    have hr2 : Room 2 _ := hr.mono (by decide)
    have hr6 : Room 6 _ := hr.mono (by decide)
    obtain ⟨tM, gM⟩ := T.MOST_STATES
    obtain ⟨tW, gW⟩ := T.LONGEST_TELL
    have hinT : ∀ (s' : Shared) (H' : Hp) (C' : Addr) (cl' : List (Str × Addr)) (fp' : List Addr), PE (Cx.blk (cxOf (L2.CX P w) P w K mg base nSide "side_by_side" (defScope sSide) f cdv A outer s H E) s' H' (compScope eSdT) (compEnvC (compScope eSdT) cl' C' (cxOf (L2.CX P w) P w K mg base nSide "side_by_side" (defScope sSide) f cdv A outer s H E).env) fp')
        (eltOf eSdT) (tOp rAddS (tOp rAddS (tOp (rIxT K) (tFld K (tVar 0) "tells") (tVar 6)) (tC (.str "/"))) (tOp (rIxT K) (tFld K (tVar 1) "tells") (tVar 7))) := fun s' H' C' cl' fp' =>
      pe_op op_add_str (pe_op op_add_str (pe_ix (r := rIxT K) ix_tup (pe_fld (pv 0) rfl) (pv 6) (fun _ _ => rfl)) pe_str) (pe_ix (r := rIxT K) ix_tup (pe_fld (pv 1) rfl) (pv 7) (fun _ _ => rfl))
    have hinR : ∀ (s' : Shared) (H' : Hp) (C' : Addr) (cl' : List (Str × Addr)) (fp' : List Addr), PE (Cx.blk (cxOf (L2.CX P w) P w K mg base nSide "side_by_side" (defScope sSide) f cdv A outer s H E) s' H' scSdR (compEnvC scSdR cl' C' (cxOf (L2.CX P w) P w K mg base nSide "side_by_side" (defScope sSide) f cdv A outer s H E).env) fp')
        (eltOf eSdR) (tLc (RZ.iZipN K (tCons (tOp (rIxT K) (tFld K (tVar 0) "rows") (tVar 6)) (tCons (tOp (rIxT K) (tFld K (tVar 1) "rows") (tVar 7)) tNil))) (gName 10) tYes (tDGet (tVar 3) (tVar 10)) [10]) := fun s' H' C' cl' fp' =>
      pe_lc (own := [("led", 10)]) (g := gName 10) (by rfl) scSide.nd (RZ.pi_zipN (by rfl) hz (pa_cons (pe_ix (r := rIxT K) ix_tup (pe_fld (pv 0) rfl) (pv 6) (fun _ _ => rfl)) (pa_cons (pe_ix (r := rIxT K) ix_tup (pe_fld (pv 1) rfl) (pv 7) (fun _ _ => rfl)) pa_nil)))
          (blkOk_by (own := [("led", 10)]) (N := nSide) (sc := relS scSdR (defScope sSide)) (by decide +kernel)) (fun _ _ _ _ _ => pg_name (i := 10) scSide.nd rfl (Or.inl rfl)) (fun _ _ _ _ _ => pts_nil)
          (fun _ _ _ _ _ => pe_dget hu (pv 3) (pv 10) (fun _ _ => rfl))
    refine ⟨_, pss_cons (ps_set (i := 2) scSide.nd rfl (Or.inl rfl) (pe_tup (pa_cons (pe_fld (pv 0) rfl) (pa_cons (pe_fld (pv 1) rfl) pa_nil))))
      (pss_cons (ps_set (i := 3) scSide.nd rfl (Or.inr rfl) pe_dnewT)
      (pss_cons (ps_unlock (ps_for (passes_of rfl) rfl (pi_keys (pe_lockD (pe_call GS hr2 rfl gS FS.kp bS .nil pass0 (pa_cons (pe_fld (pv 0) rfl) (pa_cons (pe_tup (pa_cons (pe_fld (pv 0) rfl) (pa_cons (pe_fld (pv 1) rfl) pa_nil))) (pa_cons (pv 2) (pa_cons (pe_glob (v := .int 60) rfl gM ⟨_, rfl⟩) pa_nil)))))))
          (pg_name (i := 4) scSide.nd rfl (Or.inl rfl)) (pss_one (ps_dput hu (pv 3) (pv 4) (pe_callB call_len_dT (by rfl) T.len PySem.boot_len (pa_cons (pv 3) pa_nil)) rfl))))
      (pss_cons (ps_if (pt_cmpR op_gt (pe_callB call_len_dT (by rfl) T.len PySem.boot_len (pa_cons (pv 3) pa_nil)) (pe_glob (v := .int 60) rfl gM ⟨_, rfl⟩) (nomark _))
          (pss_one (ps_raise rfl (takes_of rfl rfl rfl rfl) (pmk_oex OT.T OT.ini OT.tI (ini_TooMany OT) hr2 OT.b .nil pass0 rfl OT.g (pa_cons pe_str (pa_cons (pe_add (pe_glob (v := .int 60) rfl gM ⟨_, rfl⟩) pe_int) (pa_cons (pe_glob (v := .int 60) rfl gM ⟨_, rfl⟩) pa_nil)))))) pss_nil)
      (pss_cons (ps_lock (ps_setLc (i := 5) (own := [("a", 6), ("b", 7)]) (g := gTup K 2 (gCons (gName 6) (gCons (gName 7) gNil))) (by rfl) scSide.nd rfl rfl (sw_true rfl rfl rfl (by decide +kernel)) (pi_keys (pv 3))
          (blkOk_by (own := [("a", 6), ("b", 7)]) (N := nSide) (sc := defScope sSide) (by decide +kernel)) (fun _ _ _ _ _ => pg_tup (by rfl) (pgs_cons (pg_name (i := 6) scSide.nd rfl (Or.inl rfl)) (pgs_cons (pg_name (i := 7) scSide.nd rfl (Or.inl rfl)) pgs_nil))) (fun _ _ _ _ _ => pts_nil)
          hinT))
      (pss_cons (ps_for (passes_of rfl) rfl (pi_list (pv 5)) (pg_name (i := 8) scSide.nd rfl (Or.inl rfl))
          (pss_one (ps_if (pt_cmpR op_gt (pe_callB call_len_str (by rfl) T.len PySem.boot_len (pa_cons (pv 8) pa_nil)) (pe_glob (v := .int 60) rfl gW ⟨_, rfl⟩) (nomark _))
            (pss_one (ps_raise rfl (takes_of rfl rfl rfl rfl) (pmk_oex OT.T OT.ini OT.tI (ini_TooMany OT) hr2 OT.b .nil pass0 rfl OT.g (pa_cons pe_str (pa_cons (pe_add (pe_glob (v := .int 60) rfl gW ⟨_, rfl⟩) pe_int) (pa_cons (pe_glob (v := .int 60) rfl gW ⟨_, rfl⟩) pa_nil)))))) pss_nil)))
      (pss_cons (ps_lock (ps_setLc (i := 9) (own := [("a", 6), ("b", 7)]) (g := gTup K 2 (gCons (gName 6) (gCons (gName 7) gNil))) (by rfl) scSide.nd rfl rfl (sw_true rfl rfl rfl (by decide +kernel)) (pi_keys (pv 3))
          (blkOk_by (own := [("a", 6), ("b", 7)]) (N := nSide) (sc := defScope sSide) (by decide +kernel)) (fun _ _ _ _ _ => pg_tup (by rfl) (pgs_cons (pg_name (i := 6) scSide.nd rfl (Or.inl rfl)) (pgs_cons (pg_name (i := 7) scSide.nd rfl (Or.inl rfl)) pgs_nil))) (fun _ _ _ _ _ => pts_nil)
          hinR))
      (pss_one (ps_ret (pe_make MkI GI hr6 rfl M.mgC bI vI pass0 (pa_cons (pe_fld (pv 0) rfl) (pa_cons (pv 9) (pa_cons (pv 5) pa_nil))))))))))))  , ?_⟩
    obtain ⟨dx, tx, rx, lx, asx, gx1, gx2, gx3, gx4, gx5⟩ := id mx
    obtain ⟨dy, ty, ry, ly, asy, gy1, gy2, gy3, gy4, gy5⟩ := id my
    have w6 := px.gd.len.2
    have h60 := px.many.2
    have h60' := py.many.2
    obtain ⟨hs0, htab⟩ := two_st px py
    have hpn : prodN [rs1, rs2] ≤ 3600 := by
      show rs1.length * (rs2.length * 1) ≤ 3600
      rw [Nat.mul_one]
      exact Nat.le_trans (Nat.mul_le_mul h60 h60') (by decide)
    have hrc := runT_c [rs1, rs2] [st1, st2]
    -- begin
    refine ⟨_, rfl, x, C, dx, _, _, rfl, gx1, M.cl, M.nS, mf_start _ _ _ _, _, rfl, y, C, dy, _, _, rfl, gy1, M.cl, M.nS, mf_start _ _ _ _, Nat.le_of_ble_eq_true rfl, fun t2 ht2 => ?_⟩
    have s1 := same_upd (o := .tup [V.int st1, V.int st2]) ht2
    have e2 : upd H t2 (.tup [V.int st1, V.int st2]) t2 = some (.tup ([st1, st2].map V.int)) := upd_same
    generalize upd H t2 (.tup [V.int st1, V.int st2]) = H1 at s1 e2 ⊢
    intro p hp
    have s2' := same_upd (o := .dT []) hp
    have ep2 : upd H1 p (.dT []) p = some (.dT (entP [])) := upd_same
    generalize upd H1 p (.dT []) = H2 at s2' ep2 ⊢
    have s02 := s1.trans s2'
    have hpH : H p = none := s1.free hp
    -- first_steps
    refine ⟨_, rfl, x, C, dx, _, _, rfl, s02 _ _ gx1, M.cl, M.nD, mf_deeds _ _ _ _, _, rfl, x, C, dx, _, _, rfl, s02 _ _ gx1, M.cl, M.nR, mf_rows _ _ _ _, _, rfl, y, C, dy, _, _, rfl, s02 _ _ gy1, M.cl, M.nR, mf_rows _ _ _ _, Nat.le_of_ble_eq_true rfl, fun t1 ht1 => ?_⟩
    have s3' := same_upd (o := .tup [V.ref rx, V.ref ry]) ht1
    have e1 : upd H2 t1 (.tup [V.ref rx, V.ref ry]) t1 = some (.tup ([rx, ry].map V.ref)) := upd_same
    generalize upd H2 t1 (.tup [V.ref rx, V.ref ry]) = H3 at s3' e1 ⊢
    have s03 := s02.trans s3'
    refine ⟨_, rfl, tx, t1, t2, .int 60, some 60, ws, [rs1, rs2], [st1, st2], rfl, .inr ⟨60, rfl, rfl⟩, (gx2.same s03).sq, ⟨[rx, ry], SqT.of e1, rfl, fun i a' t' f1 f2 => ?_⟩, s3' _ _ (s2' _ _ e2), htab, hs0, w6, hpn, by simp, fun fo H4 n' M0 B eb hB hfo s4' dfo => ?_⟩
    · match i, f1, f2 with
      | 0, f1, f2 => cases f1; cases f2; exact ⟨asx, s03 _ _ gx3, gx4.1, fun j b' q' g1 g2 => s03 _ _ (gx4.2 j b' q' g1 g2)⟩
      | 1, f1, f2 => cases f1; cases f2; exact ⟨asy, s03 _ _ gy3, gy4.1, fun j b' q' g1 g2 => s03 _ _ (gy4.2 j b' q' g1 g2)⟩
      | _ + 2, f1, _ => simp at f1
    have s04 := s03.trans s4'
    have hfoH : H fo = none := s03.free hfo
    have ep4 := s4' _ _ (s3' _ _ ep2)
    obtain ⟨b1, b2⟩ := bfs_two hrc hbf eb
    have I : BfsI (runT [rs1, rs2] [st1, st2]) ws.length n' (M0 ++ B) B := by
      have := bfs_ok hrc ws.length n'
      rw [eb] at this
      exact this
    have hml : (M0 ++ B).length ≤ prodN [rs1, rs2] := met_len hs0 htab I.nd I.lt
    have I2 : BfsI (runT [rs1, rs2] [st1, st2]) ws.length n ML [] := by
      have := bfs_ok hrc ws.length n
      rw [hbf] at this
      exact this
    have hrun : ∀ u, (∀ k ∈ u, k < ws.length) → StOk [rs1, rs2] (runT [rs1, rs2] [st1, st2] u) := fun u => hs0.run htab u
    have hgo : ∀ u k, runT [rs1, rs2] [st1, st2] (u ++ [k]) = stepT [rs1, rs2] k (runT [rs1, rs2] [st1, st2] u) := fun u k => runT_snoc _ _ u k
    have hparts := fun a b => pr_parts px py hbf a b
    generalize hR : runT [rs1, rs2] [st1, st2] = r at *
    obtain ⟨kv, hfo4, hE⟩ := id dfo
    have nfp : fo ≠ p := (ne_of_none (s3' _ _ ep2) hfo).symm
    refine ⟨fo, .dT kv, rfl, hfo4, trivial, fun od => ?_⟩
    have ef : upd H4 fo (.frz od (.dT kv)) fo = some (.frz od (.dT kv)) := upd_same
    have kx4 : ∀ b o, b ≠ fo → H4 b = some o → upd H4 fo (.frz od (.dT kv)) b = some o := fun b o nb e => by rw [upd_ne nb]; exact e
    generalize upd H4 fo (.frz od (.dT kv)) = Hf at ef kx4 ⊢
    have nfo : ∀ {b o}, H b = some o → b ≠ fo := fun e => ne_of_none e hfoH
    have npp : ∀ {b o}, H b = some o → b ≠ p := fun e => ne_of_none e hpH
    refine ⟨fo, od, rfl, .inr ⟨kv, ef, for_it (walk_keysT (d := fo) (o := od) (kvs := kv)) (fun i σ H' => (∀ b o, b ≠ fo → b ≠ p → H4 b = some o → H' b = some o) ∧ H' fo = some (.frz od (.dT kv)) ∧ H' p = some (.dT (entP (((M0 ++ B).take i).map r))) ∧
      ∃ v4, σ = [some (.ref x), some (.ref y), some (.ref t2), some (.ref p), v4, none, none, none, none, none, none]) ⟨fun b o n1 _ e => kx4 b o n1 e, ef, kx4 _ _ nfp.symm ep4, none, rfl⟩ (fun i σ H' _ q => q.2.1) ?_ ?_⟩⟩
    · rintro i yv σ H5' H5 hi ⟨kx, hf5, hp5, v4, rfl⟩ ⟨rfl, key, v, q, hkv, rfl, hq⟩
      have hiM : i < (M0 ++ B).length := by rw [← hE.1]; exact hi
      have eu : (M0 ++ B)[i]? = some (M0 ++ B)[i] := List.getElem?_eq_getElem hiM
      generalize (M0 ++ B)[i] = u at eu
      obtain ⟨rfl, _⟩ := hE.2 i _ _ _ hkv eu
      have etk : (M0 ++ B).take (i + 1) = (M0 ++ B).take i ++ [u] := by rw [List.take_add_one, eu]; rfl
      have hnd : (((M0 ++ B).take (i + 1)).map r).Nodup := by rw [List.map_take]; exact I.nd.sublist (List.take_sublist _ _)
      rw [etk, List.map_append] at hnd
      have hno : r u ∉ ((M0 ++ B).take i).map r := fun hz => (List.nodup_append.mp hnd).2.2 _ hz _ (by simp) rfl
      have ev := valV_entP (List.nodup_append.mp hnd).1 (z := r u)
      rw [if_neg hno] at ev
      refine ⟨_, rfl, p, _, rfl, hp5, _, rfl, _, rfl, p, _, rfl, DPut.t hp5 hq (by rw [entP_len, List.length_map, List.length_take, sizeLine_eq]; omega), ?_⟩
      refine ⟨fun b o n1 n2 e => by rw [upd_ne n2]; exact kx b o n1 n2 e, by rw [upd_ne nfp]; exact hf5, ?_, _, rfl⟩
      rw [upd_same, putK_new _ ev, etk, List.map_append, List.map_singleton, entP_snoc, entP_len]
    · rintro σ H5 ⟨kx, hf5, hp5, v4, rfl⟩
      refine ⟨fo, od, .dT kv, hfoH, hf5, ?_⟩
      rw [hE.1, List.take_length] at hp5
      have s06 : Same H (upd H5 fo (.dT kv)) := fun b o e => by rw [upd_ne (nfo e)]; exact kx b o (nfo e) (npp e) (s04 _ _ e)
      have hp6 : upd H5 fo (.dT kv) p = some (.dT (entP ((M0 ++ B).map r))) := by rw [upd_ne nfp.symm]; exact hp5
      generalize upd H5 fo (.dT kv) = H6 at s06 hp6 ⊢
      refine ⟨_, rfl, p, _, rfl, hp6, _, _, rfl, rfl, _, rfl, ?_⟩
      rw [entP_len, List.length_map]
      refine ite2 (fun hgt => ?_) (fun hle => ?_)
      · have h1 := of_decide_eq_true hgt
        refine ⟨_, _, rfl, rfl, ?_⟩
        exact err_read (fs := fTM) (by decide) rfl ((k1 (by omega)).same s06)
      have h1 : (M0 ++ B).length ≤ 60 := by
        have : ¬ (60 : Int) < ((M0 ++ B).length : Int) := fun z => hle (decide_eq_true z)
        omega
      have eB : B = [] := by
        rcases hB with e | ⟨m, e, hm⟩
        · exact e
        · injection e with e; omega
      have eM : M0 ++ B = ML := b1 eB
      rw [eM] at hp6 h1
      clear hE dfo hfo4 hf5 kx hp5 ef kx4 eb b2 b1 hml hB I
      have hcl : ∀ u ∈ ML, ∀ k, k < ws.length → r (u ++ [k]) ∈ ML.map r := by
        obtain ⟨M1, hM1, _, hc⟩ := I2.ex
        have e0 : ML = M1 := by simpa using hM1
        rw [← e0] at hc
        exact hc
      have hel : (entP (ML.map r)).length = ML.length := by rw [entP_len, List.length_map]
      have hkey : ∀ {i : Nat} {key : List Key} {v : V}, (entP (ML.map r))[i]? = some (key, v) → ∃ u, ML[i]? = some u ∧ key = keyI (r u) := fun {i key v} e => by
        unfold entP at e
        rw [List.getElem?_map] at e
        obtain ⟨j, ej, e2⟩ := Option.map_eq_some_iff.mp e
        have hil : i < (ML.map r).length := by
          have := (List.getElem?_eq_some_iff.mp ej).1
          rwa [List.length_range] at this
        rw [List.getElem?_range hil] at ej
        cases ej
        injection e2 with e2 _
        rw [List.length_map] at hil
        refine ⟨ML[i], List.getElem?_eq_getElem hil, ?_⟩
        rw [← e2, List.getD_eq_getElem?_getD, List.getElem?_map, List.getElem?_eq_getElem hil]; rfl
      have htwo : ∀ u ∈ ML, ∃ a b : Int, r u = [a, b] ∧ 0 ≤ a ∧ a < (rs1.length : Int) ∧ 0 ≤ b ∧ b < (rs2.length : Int) := fun u hu => two_at (hrun u (I2.lt u hu))
      -- tells
      refine ⟨p, .dT (entP (ML.map r)), hp6, trivial, fun od2 => ?_⟩
      have ef7 : upd H6 p (.frz od2 (.dT (entP (ML.map r)))) p = some (.frz od2 (.dT (entP (ML.map r)))) := upd_same
      have kx7 : ∀ b o, b ≠ p → H6 b = some o → upd H6 p (.frz od2 (.dT (entP (ML.map r)))) b = some o := fun b o nb e => by rw [upd_ne nb]; exact e
      generalize upd H6 p (.frz od2 (.dT (entP (ML.map r)))) = H7 at ef7 kx7 ⊢
      have s07 : Same H H7 := fun b o e => kx7 b o (npp e) (s06 _ _ e)
      refine ⟨_, rfl, p, od2, rfl, .inr ⟨entP (ML.map r), ef7, fun D hD => ?_⟩⟩
      refine lc_it (walk_keysT (d := p) (o := od2) (kvs := entP (ML.map r))) (fun i H' => Same H7 H' ∧ H' D = some (.lst (((prT ss1 ss2 r ML).take i).map V.str))) ?_ ?_ ?_ ?_
      · exact ⟨same_upd hD, upd_same⟩
      · exact fun i H' _ q => q.1 _ _ ef7
      · rintro i yv H8' H8 hi ⟨s8, hD8⟩ ⟨rfl, key, v, q, hkv, rfl, hq⟩
        obtain ⟨u, eu, rfl⟩ := hkey hkv
        have hum := List.mem_of_getElem? eu
        have hil := (List.getElem?_eq_some_iff.mp eu).1
        obtain ⟨a, b, er, a0, a1, b0, b1⟩ := htwo u hum
        rw [keyI_kV, er] at hq
        have sH := s07.trans s8
        have l1 := px.tl.1
        have l2 := py.tl.1
        have t1' := (px.tl.2 _ (List.mem_of_getElem? (getD_get ("" : Str) (xs := ss1) (n := a.toNat) (by omega)))).2.1
        have t2' := (py.tl.2 _ (List.mem_of_getElem? (getD_get ("" : Str) (xs := ss2) (n := b.toNat) (by omega)))).2.1
        have ez : (prT ss1 ss2 r ML)[i]? = some (ss1.getD a.toNat "" ++ "/" ++ ss2.getD b.toNat "") := by unfold prT; rw [List.getElem?_map, eu]; show some (prS ss1 ss2 (r u)) = _; rw [er]; rfl
        refine ⟨q, _, rfl, SqT.of hq, rfl, _, _, rfl, _, _, rfl, rfl, rfl, _, rfl, x, C, dx, _, _, rfl, sH _ _ gx1, M.cl, M.nT, mf_tells _ _ _ _, _, rfl, lx, _, a, _, rfl, rfl, SqT.of (sH _ _ gx5), at_deed a0 (by omega), _, _, rfl, rfl, ?_, _, rfl, y, C, dy, _, _, rfl, sH _ _ gy1, M.cl, M.nT, mf_tells _ _ _ _, _, rfl, ly, _, b, _, rfl, rfl, SqT.of (sH _ _ gy5), at_deed b0 (by omega), _, _, rfl, rfl, ?_, ?_⟩
        · rw [len_tl, len_tl, sizeLine_eq]; have : ("/" : Str).cps.toList.length = 1 := rfl; omega
        · rw [len_tl, len_tl, sizeLine_eq]
          have e1 := TL.tl_append (ss1.getD a.toNat "") "/"
          unfold TL.tl at e1
          rw [e1, List.length_append]; have : ("/" : Str).cps.toList.length = 1 := rfl; omega
        · refine ⟨_, hD8, ?_, fun b' o e => by rw [upd_ne (ne_of_none e hD)]; exact s8 b' o e, ?_⟩
          · rw [List.length_map, List.length_take, sizeLine_eq]; omega
          · rw [upd_same, List.take_add_one, ez, List.map_append]; rfl
      · rintro H8 ⟨s8, hD8⟩
        rw [hel, ← prT_len ss1 ss2 r ML, List.take_length] at hD8
        have ef8 := s8 _ _ ef7
        refine ⟨ef8, ?_⟩
        have nDp : D ≠ p := (ne_of_none ef7 hD).symm
        have s09 : Same H (upd H8 p (.dT (entP (ML.map r)))) := fun b o e => by rw [upd_ne (npp e)]; exact s8 _ _ (s07 _ _ e)
        have hp9 : upd H8 p (.dT (entP (ML.map r))) p = some (.dT (entP (ML.map r))) := upd_same
        have hD9 : upd H8 p (.dT (entP (ML.map r))) D = some (.lst ((prT ss1 ss2 r ML).map V.str)) := by rw [upd_ne nDp]; exact hD8
        generalize upd H8 p (.dT (entP (ML.map r))) = H9 at s09 hp9 hD9 ⊢
        -- the loop over tells
        refine ⟨_, rfl, D, rfl, ⟨_, SqL.of hD9⟩, for_list (K := K) (a := D) (xs := (prT ss1 ss2 r ML).map V.str) (fun i σ H' => H' = H9 ∧ (∀ z ∈ (prT ss1 ss2 r ML).take i, z.length ≤ 60) ∧
          ∃ v8, σ = [some (.ref x), some (.ref y), some (.ref t2), some (.ref p), v4, some (.ref D), none, none, v8, none, none]) ⟨rfl, by simp, none, rfl⟩ (fun i σ H' _ q => by rw [q.1]; exact SqL.of hD9) ?_ ?_⟩
        · rintro i yv σ H10 hi ⟨rfl, hok, v8, rfl⟩
          rw [List.getElem?_map] at hi
          obtain ⟨z, ez, rfl⟩ := Option.map_eq_some_iff.mp hi
          have hzm := List.mem_of_getElem? ez
          have hzl : z.length ≤ sizeLine := by
            obtain ⟨u, hu, rfl⟩ := List.mem_map.mp hzm
            obtain ⟨a, b, er, a0, a1, b0, b1⟩ := htwo u hu
            have l1 := px.tl.1
            have l2 := py.tl.1
            have t1' := (px.tl.2 _ (List.mem_of_getElem? (getD_get ("" : Str) (xs := ss1) (n := a.toNat) (by omega)))).2.1
            have t2' := (py.tl.2 _ (List.mem_of_getElem? (getD_get ("" : Str) (xs := ss2) (n := b.toNat) (by omega)))).2.1
            rw [er]
            show (ss1.getD a.toNat "" ++ "/" ++ ss2.getD b.toNat "").length ≤ _
            rw [len_tl, tl_two, List.length_append, List.length_append, sizeLine_eq]
            have : ("/" : Str).cps.toList.length = 1 := rfl
            omega
          refine ⟨_, rfl, z, rfl, hzl, _, _, rfl, rfl, _, rfl, ?_⟩
          refine ite2 (fun hgt => ?_) (fun hle => ?_)
          · have h2 := of_decide_eq_true hgt
            refine ⟨_, _, rfl, rfl, ?_⟩
            exact err_read (fs := fTM) (by decide) rfl ((k2 h1 ⟨z, hzm, by omega⟩).same s09)
          · have h2 : ¬ (60 : Int) < (z.length : Int) := fun q => hle (decide_eq_true q)
            refine ⟨rfl, fun z' hz' => ?_, _, rfl⟩
            rw [List.take_add_one, ez] at hz'
            rcases List.mem_append.mp hz' with h | h
            · exact hok z' h
            · rw [show z' = z from by simpa using h]; omega
        · rintro σ H10 ⟨rfl, hok, v8, rfl⟩
          rw [List.length_map, List.take_length] at hok
          have pt := hparts h1 hok
          refine ⟨p, .dT (entP (ML.map r)), hp9, trivial, fun od3 => ?_⟩
          have ef11 : upd H10 p (.frz od3 (.dT (entP (ML.map r)))) p = some (.frz od3 (.dT (entP (ML.map r)))) := upd_same
          have kx11 : ∀ b o, b ≠ p → H10 b = some o → upd H10 p (.frz od3 (.dT (entP (ML.map r)))) b = some o := fun b o nb e => by rw [upd_ne nb]; exact e
          generalize upd H10 p (.frz od3 (.dT (entP (ML.map r)))) = H11 at ef11 kx11 ⊢
          have s011 : Same H H11 := fun b o e => kx11 b o (npp e) (s09 _ _ e)
          have hD11 := kx11 _ _ nDp hD9
          refine ⟨_, rfl, p, od3, rfl, .inr ⟨entP (ML.map r), ef11, fun D2 hD2 => ?_⟩⟩
          refine lc_it (walk_keysT (d := p) (o := od3) (kvs := entP (ML.map r))) (fun i H' => Same H11 H' ∧ ∃ bs : List Addr, bs.length = i ∧ H' D2 = some (.lst (bs.map V.ref)) ∧ (∀ b ∈ bs, b ≠ D2) ∧ RowsAt H' bs ((prR ws.length r ML).take i)) ?_ ?_ ?_ ?_
          · exact ⟨same_upd hD2, [], rfl, upd_same, (fun b h => nomatch h), by simp, fun j b q e => by simp at e⟩
          · exact fun i H' _ q => q.1 _ _ ef11
          · rintro i yv H12' H12 hi ⟨s12, bs, hbs, hD12, hbD, hRb⟩ ⟨rfl, key, v, q, hkv, rfl, hq⟩
            obtain ⟨u, eu, rfl⟩ := hkey hkv
            have hum := List.mem_of_getElem? eu
            have hil := (List.getElem?_eq_some_iff.mp eu).1
            obtain ⟨a, b, er, a0, a1, b0, b1⟩ := htwo u hum
            rw [keyI_kV, er] at hq
            have sH := s011.trans s12
            have hla : a.toNat < rs1.length := by omega
            have hlb : b.toNat < rs2.length := by omega
            obtain ⟨aa, eaa, ata⟩ := at_ref (as := asx) (k := a) a0 (by rw [gx4.1]; omega)
            obtain ⟨ab, eab, atb⟩ := at_ref (as := asy) (k := b) b0 (by rw [gy4.1]; omega)
            have haa := sH _ _ (gx4.2 _ _ _ eaa (getD_get ([] : List Int) hla))
            have hab := sH _ _ (gy4.2 _ _ _ eab (getD_get ([] : List Int) hlb))
            have wl1 := (px.row _ (List.mem_of_getElem? (getD_get ([] : List Int) hla))).1
            have wl2 := (py.row _ (List.mem_of_getElem? (getD_get ([] : List Int) hlb))).1
            have hstep : ∀ k, r (u ++ [k]) = [(rs1.getD a.toNat []).getD k 0, (rs2.getD b.toNat []).getD k 0] := fun k => by rw [hgo, er]; rfl
            have ern : (prR ws.length r ML)[i]? = some ((List.range ws.length).map fun k => ((idxD (ML.map r) (r (u ++ [k])) : Nat) : Int)) := by unfold prR; rw [List.getElem?_map, eu]; rfl
            generalize rs1.getD a.toNat [] = ra at haa wl1 hstep
            generalize rs2.getD b.toNat [] = rb at hab wl2 hstep
            refine ⟨q, _, rfl, SqT.of hq, rfl, _, _, rfl, _, _, rfl, rfl, rfl, _, rfl, x, C, dx, _, _, rfl, sH _ _ gx1, M.cl, M.nR, mf_rows _ _ _ _, _, rfl, rx, _, a, _, rfl, rfl, SqT.of (sH _ _ gx3), ata, _, rfl, y, C, dy, _, _, rfl, sH _ _ gy1, M.cl, M.nR, mf_rows _ _ _ _, _, rfl, ry, _, b, _, rfl, rfl, SqT.of (sH _ _ gy3), atb, aa, ab, _, _, rfl, SqT.of haa, SqT.of hab, fun D3 hD3 => ?_⟩
            refine lc_it (walk_zipT (K := K) (a := aa) (b := ab) (xs := ra.map V.int) (ys := rb.map V.int) (n := ws.length) (by simp [wl1, wl2])) (fun j H' => Same H12 H' ∧ H' D3 = some (.lst ((((List.range ws.length).map fun k => ((idxD (ML.map r) (r (u ++ [k])) : Nat) : Int)).take j).map V.int))) ?_ ?_ ?_ ?_
            · exact ⟨same_upd hD3, upd_same⟩
            · exact fun j H' _ pp => ⟨(SqT.of haa).ext pp.1, (SqT.of hab).ext pp.1⟩
            · rintro j yv H13 H14 hj ⟨s13, hD13⟩ ⟨t5, x1, x2, rfl, ht5, rfl, e1, e2⟩
              replace e1 : (ra.map V.int)[j]? = some x1 := e1
              replace e2 : (rb.map V.int)[j]? = some x2 := e2
              rw [List.getElem?_map] at e1 e2
              obtain ⟨c, ec, rfl⟩ := Option.map_eq_some_iff.mp e1
              obtain ⟨d, ed, rfl⟩ := Option.map_eq_some_iff.mp e2
              have ecd : r (u ++ [j]) = [c, d] := by rw [hstep, List.getD_eq_getElem?_getD, ec, List.getD_eq_getElem?_getD, ed]; rfl
              have s14 := same_upd (o := .tup [V.int c, V.int d]) ht5
              have hk : upd H13 t5 (.tup [V.int c, V.int d]) t5 = some (.tup ((keyI (r (u ++ [j]))).map kV)) := by rw [ecd]; exact upd_same
              have ev := valV_entP I2.nd (z := r (u ++ [j]))
              rw [if_pos (hcl u hum j hj)] at ev
              have ejn : ((List.range ws.length).map fun k => ((idxD (ML.map r) (r (u ++ [k])) : Nat) : Int))[j]? = some ((idxD (ML.map r) (r (u ++ [j])) : Nat) : Int) := by rw [List.getElem?_map, List.getElem?_range hj]; rfl
              generalize upd H13 t5 (.tup [V.int c, V.int d]) = H14 at s14 hk ⊢
              refine ⟨rfl, _, rfl, _, rfl, p, V.int (idxD (ML.map r) (r (u ++ [j])) : Nat), rfl, by rw [← ev]; exact DGet.tR (.inr ⟨od3, s14 _ _ (s13 _ _ (s12 _ _ ef11))⟩) hk, ?_⟩
              refine ⟨_, s14 _ _ hD13, ?_, fun b' o e => by rw [upd_ne (ne_of_none e hD3)]; exact s14 _ _ (s13 _ _ e), ?_⟩
              · rw [List.length_map, List.length_take, sizeLine_eq]; omega
              · rw [upd_same, List.take_add_one, ejn, List.map_append]; rfl
            · rintro H13 ⟨s13, hD13⟩
              rw [List.take_of_length_le (by rw [List.length_map, List.length_range]; exact Nat.le_refl _)] at hD13
              have nDD : D3 ≠ D2 := (ne_of_none hD12 hD3).symm
              refine ⟨_, s13 _ _ hD12, ?_, fun c o e => by rw [upd_ne (ne_of_none e hD2)]; exact s13 _ _ (s12 _ _ e), bs ++ [D3], by simp [hbs], by rw [upd_same]; simp, fun b hb => ?_, ?_⟩
              · rw [List.length_map, hbs, sizeLine_eq]; omega
              · rcases List.mem_append.mp hb with z | z
                · exact hbD b z
                · rw [List.mem_singleton.mp z]; exact nDD
              · rw [List.take_add_one, ern]
                have e7 := (hRb.same s13).snoc hD13
                refine ⟨e7.1, fun j c q f1 f2 => ?_⟩
                have hc : c ≠ D2 := by
                  rcases List.mem_append.mp (List.mem_of_getElem? f1) with z | z
                  · exact hbD c z
                  · rw [List.mem_singleton.mp z]; exact nDD
                rw [upd_ne hc]
                exact e7.2 j c q f1 f2
          · rintro H12 ⟨s12, bs, hbs, hD12, hbD, hRb⟩
            rw [hel, ← prR_len ws.length r ML, List.take_length] at hRb
            have ef12 := s12 _ _ ef11
            refine ⟨ef12, ?_⟩
            have nDp2 : D2 ≠ p := (ne_of_none ef11 hD2).symm
            have s013 : Same H (upd H12 p (.dT (entP (ML.map r)))) := fun b o e => by rw [upd_ne (npp e)]; exact s12 _ _ (s011 _ _ e)
            have hD13 : upd H12 p (.dT (entP (ML.map r))) D2 = some (.lst (bs.map V.ref)) := by rw [upd_ne nDp2]; exact hD12
            have hT13 : upd H12 p (.dT (entP (ML.map r))) D = some (.lst ((prT ss1 ss2 r ML).map V.str)) := by rw [upd_ne nDp]; exact s12 _ _ hD11
            have hR13 : RowsAt (upd H12 p (.dT (entP (ML.map r)))) bs (prR ws.length r ML) := ⟨hRb.1, fun j c q f1 f2 => by have h1 := hRb.2 j c q f1 f2; rw [upd_ne (ne_of h1 ef12 (by intro z; cases z))]; exact h1⟩
            generalize upd H12 p (.dT (entP (ML.map r))) = H13 at s013 hD13 hT13 hR13 ⊢
            refine ⟨_, rfl, x, C, dx, _, _, rfl, s013 _ _ gx1, M.cl, M.nD, mf_deeds _ _ _ _, _, rfl, _, rfl, ?_⟩
            (try delta tNil)
            intro z dz hz' hdz ndz
            have zz : H z = none := s013.free hz'
            have s14 : Same H13 (upd (upd H13 dz (.own z)) z (.ins C dz [])) := fun b o e => by rw [upd_ne (ne_of_none e hz'), upd_ne (ne_of_none e hdz)]; exact e
            refine ⟨z, dz, tx, D2, D, bs, ws, _, _, 0, rfl, upd_same, .inl (gx2.same (s013.trans s14)), SqL.of (s14 _ _ hD13), hR13.same s14, SqL.of (s14 _ _ hT13), pt, fun H' hm hk => ⟨rfl, ?_⟩⟩
            exact k3 h1 hok z H' zz (fun b o e => hk b o (s14 _ _ (s013 _ _ e)) (ne_of_none e zz)) hm
end
end K1
set_option Elab.async false
set_option linter.all false
set_option maxRecDepth 100000
/-! Machine.__mul__ -/
namespace K1
open PySem L2 LamX
abbrev sMMul : Stmt := inClass (top 35) 3
/-- what of two machines of the same deeds comes -/
def Side (K : PySem.W.Frag) (C CT : Addr) (ws : List Str) (rs1 : List (List Int)) (ss1 : List Str) (st1 : Int) (rs2 : List (List Int)) (ss2 : List Str) (st2 : Int) (M : List (List Nat)) (H : Hp) (Q : VK) (E : XK) : Prop :=
  (60 < M.length → Rs CT fTM [.str "states", .int 61, .int 60] H E) ∧
  (M.length ≤ 60 → (∃ z ∈ prT ss1 ss2 (runT [rs1, rs2] [st1, st2]) M, 60 < z.length) → Rs CT fTM [.str "characters", .int 61, .int 60] H E) ∧
  (M.length ≤ 60 → (∀ z ∈ prT ss1 ss2 (runT [rs1, rs2] [st1, st2]) M, z.length ≤ 60) → ∀ (p : Addr) (H' : Hp), H p = none → Same H H' → MachAt K C H' p ws (prR ws.length (runT [rs1, rs2] [st1, st2]) M) (prT ss1 ss2 (runT [rs1, rs2] [st1, st2]) M) 0 → Q (.ref p) H')
def spMul (K : PySem.W.Frag) (C CO CT : Addr) : Sp := fun vs H Q E => ∃ (x y : Addr) (ws : List Str) (rs1 : List (List Int)) (ss1 : List Str) (st1 : Int) (ws2 : List Str) (rs2 : List (List Int)) (ss2 : List Str) (st2 : Int),
  vs = [.ref x, .ref y] ∧ MachAt K C H x ws rs1 ss1 st1 ∧ MachAt K C H y ws2 rs2 ss2 st2 ∧ Parts ws rs1 ss1 st1 ∧ Parts ws2 rs2 ss2 st2 ∧ OkS ws ∧ OkS ws2 ∧
  (ws ≠ ws2 → ∀ t1 t2, SqF H t1 (ws.map V.str) → SqF H t2 (ws2.map V.str) → Rs CO ["have", "want"] [.ref t1, .ref t2] H E) ∧
  (ws = ws2 → ∃ n M, bfs (runT [rs1, rs2] [st1, st2]) ws.length n = (M, []) ∧ Side K C CT ws rs1 ss1 st1 rs2 ss2 st2 M H Q E)
section
variable {P : Program} {w : World} {K : PySem.W.Frag} {mg : Str → Option Value} {base : Heap}
abbrev pMul : List Str := ["self", "other"]
theorem scMul : FnScope pMul pMul (defScope sMMul) := ⟨rfl, rfl, rfl, by decide +kernel, rfl, by decide +kernel, by decide +kernel⟩
theorem ok_mul {C CO CT fO f fS : Addr} {fd fdS fdO : FuncData} (F : Fun K "__mul__" "Machine.__mul__" sMMul f fd) (M : Tm K mg C) (I : Ti K C) (T : Bt2 mg)
    (DS : Df K mg "side_by_side" sSide pSide fS fdS) (GS : FnOk P w K mg base (L2.CX P w) 7 fS fdS pSide (spSide K C CT)) (O : OOtherDeeds K mg CO fO fdO) : FnOk P w K mg base (L2.CX P w) 8 f fd pMul (spMul K C CO CT) := by
  refine F.okX scMul (fun vs H Q E h => ?_) (fun cdv A outer s H vs Q E hr h => ?_)
  · obtain ⟨x, y, ws1, rs1, ss1, st1, ws2, rs2, ss2, st2, rfl, _⟩ := h
    rfl
  · obtain ⟨x, y, ws1, rs1, ss1, st1, ws2, rs2, ss2, st2, rfl, mx, my, px, py, ow1, ow2, kE, kk⟩ := h
    refine ⟨_, pss_cons (ps_if (pt_not (pt_val (pe_callB call_isi (by rfl) T.isinstance PyProof.Rows.boot_isinstance (pa_cons (pv 1) (pa_cons (pe_glob (v := .ref C) rfl M.mgC rfl) pa_nil))))) pss_never pss_nil)
      (pss_cons (ps_if (pt_cmpR (op_neD hr.units) (pe_fld (pv 0) rfl) (pe_fld (pv 1) rfl) (nomark _))
        (pss_one (ps_raise rfl (takes_of rfl rfl rfl rfl) (pmk_oex O.T O.ini O.tI (ini_OtherDeeds O) (hr.mono (by decide)) O.b .nil pass0 rfl O.g (pa_cons (pe_fld (pv 0) rfl) (pa_cons (pe_fld (pv 1) rfl) pa_nil))))) pss_nil)
      (pss_one (ps_ret (pe_callS GS hr rfl DS.g DS.F.kp DS.b (fun σ => passAt (takes_of rfl rfl rfl rfl) σ) (pa_cons (pv 0) (pa_cons (pv 1) pa_nil)))))), ?_⟩
    obtain ⟨dx, t, r, l, as, hx, ht, hr', hR, hl⟩ := id mx
    obtain ⟨dy, t2, r2, l2, as2, hy, ht2, hr2, hR2, hl2⟩ := id my
    refine ⟨_, rfl, _, _, .ref C, .ref C, true, rfl, .own C, .base (.ins hy M.cl I.ca I.cs I.ct I.cm), by simp [PySem.W.kitOne], true, rfl, ?_⟩
    refine iteF ?_
    refine ⟨_, rfl, x, C, dx, _, _, rfl, hx, M.cl, M.nD, mf_deeds _ _ _ _, _, rfl, y, C, dy, _, _, rfl, hy, M.cl, M.nD, mf_deeds _ _ _ _, _, _, .tup ht.sq (dp_strs ws1), .tup ht2.sq (dp_strs ws2), shaped_strs ow1, shaped_strs ow2, _, rfl, ?_⟩
    rw [PyData.eqv, eqv_strs]
    refine ite2 (fun h => ?_) (fun h => ?_)
    · have hne : ws1 ≠ ws2 := by simpa using h
      refine ⟨_, rfl, x, C, dx, _, _, rfl, hx, M.cl, M.nD, mf_deeds _ _ _ _, _, rfl, y, C, dy, _, _, rfl, hy, M.cl, M.nD, mf_deeds _ _ _ _, ?_⟩
      exact err_read (fs := ["have", "want"]) (by decide) rfl (kE hne t t2 ht ht2)
    · have e1 : ws1 = ws2 := by simpa using h
      subst e1
      obtain ⟨n, ML, hb, g1, g2, g3⟩ := kk rfl
      exact ⟨_, rfl, _, rfl, x, y, ws1, rs1, ss1, st1, rs2, ss2, st2, n, ML, rfl, mx, my, px, py, hb, g1, g2, g3⟩
end
end K1
set_option Elab.async false
set_option linter.all false
set_option maxRecDepth 100000
/-! rows in a tuple of tuples -/
namespace K1
open PySem L2
theorem kit_tupl {K : PySem.W.Frag} : PySem.W.kitAny K (.type "tuple") [.type "list", .type "tuple"] = some true := by
  exact kitAny_cons (b := false) (kit_ty (by decide +kernel)) (fun _ => kitAny_cons (b := true) (kit_ty (by decide +kernel)) (fun h => nomatch h) fun _ => rfl) fun h => nomatch h
def spRowsTT (K : PySem.W.Frag) : Sp := fun vs H Q _ => ∃ (b : Addr) (m : Nat) (as : List Addr) (rs : List (List Int)), vs = [.ref b, .int (m : Int)] ∧ SqT K H b (as.map V.ref) ∧ RowsT H as rs ∧ 1 ≤ rs.length ∧ rs.length ≤ 60 ∧ m ≤ 100 ∧
  (∀ r ∈ rs, r.length = m ∧ ∀ x ∈ r, 0 ≤ x ∧ x < (rs.length : Int)) ∧ ∀ H', Same H H' → Q .non H'
section
variable {P : Program} {w : World} {K : PySem.W.Frag} {mg : Str → Option Value} {base : Heap}
theorem ok_rowsTT {f fX fI : Addr} {fd fdX fdI : FuncData} (D : Df K mg "check_rows" sCheckRows ["rows", "many"] f fd) (DX : Df K mg "is_index" sIsIndex ["value", "many"] fX fdX) (DI : Df K mg "is_integer" sIsInt ["value"] fI fdI) (T : Bt2 mg) : FnOk P w K mg base CX0 3 f fd ["rows", "many"] (spRowsTT K) := by
  have GX : FnOk P w K mg base CX0 2 fX fdX ["value", "many"] spIsIndex := ok_isindex DX DI T
  refine D.F.ok scRows (fun vs H Q E h => ?_) (fun cdv A outer s H vs Q E hr h => ?_)
  · obtain ⟨b, m, as, rs, rfl, _⟩ := h
    rfl
  · obtain ⟨b, m, as, rs, rfl, hb, hR, h1, h60, hm, hrow, k⟩ := h
    obtain ⟨tM, gM⟩ := T.MOST_STATES
    have hlen : (as.map V.ref).length = rs.length := by rw [List.length_map, hR.1]
    refine ⟨_, pss_cons (ps_if (pt_cmpR op_eq (pe_callB call_len (by rfl) T.len PySem.boot_len (pa_cons (pv 0) pa_nil)) pe_int (nomark _)) pss_never pss_nil)
      (pss_cons (ps_if (pt_cmpR op_gt (pe_callB call_len (by rfl) T.len PySem.boot_len (pa_cons (pv 0) pa_nil)) (pe_glob (v := .int 60) rfl gM ⟨_, rfl⟩) (nomark _)) pss_never pss_nil)
      (pss_one (ps_for PassesOwn.never rfl (pi_enumT (by rfl) T.enumerate (pa_cons (pv 0) pa_nil)) (pg_tup (by rfl) (pgs_cons (pg_name (i := 2) scRows.nd rfl (Or.inl rfl)) (pgs_cons (pg_name (i := 3) scRows.nd rfl (Or.inl rfl)) pgs_nil)))
        (pss_cons (ps_if (PW.pt (pw_or (pt_not (pt_val (pe_callB call_isiT (by rfl) T.isinstance PyProof.Rows.boot_isinstance (pa_cons (pv 3) (pa_cons (pe_tup (pa_cons (pe_bltn (v := .ty "list") (by rfl) T.list PyProof.Rows.boot_list rfl) (pa_cons (pe_bltn (v := .ty "tuple") (by rfl) T.tuple PyProof.Rows.boot_tuple rfl) pa_nil))) pa_nil)))))
            (pw_or1 (pt_cmpR op_ne (pe_callB call_len (by rfl) T.len PySem.boot_len (pa_cons (pv 3) pa_nil)) (pv 1) (nomark _))))) pss_never pss_nil)
        (pss_one (ps_if (pt_not (pt_val (pe_callB (cr_all rfl) (by rfl) T.all PyProof.Rows.boot_all (pa_cons (pe_lc (own := [("state", 4)]) (g := gName 4) (by rfl) scRows.nd (pi_tup (pv 3))
            (blkOk_by (own := [("state", 4)]) (N := nRows) (sc := defScope sCheckRows) (by decide +kernel)) (fun _ _ _ _ _ => pg_name (i := 4) scRows.nd rfl (Or.inl rfl)) (fun _ _ _ _ _ => pts_nil)
            (fun _ _ _ _ _ => pe_call GX hr rfl DX.g DX.F.kp DX.b .nil pass0 (pa_cons (pv 4) (pa_cons (pe_callB (r := rLn K) call_len (by rfl) T.len PySem.boot_len (pa_cons (pv 0) pa_nil)) pa_nil)))) pa_nil)))) pss_never pss_nil)))))), ?_⟩
    refine ⟨_, rfl, _, rs.length, rfl, .inr ⟨_, hb, hlen.symm⟩, rfl, _, rfl, ?_⟩
    refine ite2 (fun h => absurd (of_decide_eq_true h) (fun h => by injection h with h; omega)) (fun _ => ?_)
    refine ⟨_, rfl, _, rs.length, rfl, .inr ⟨_, hb, hlen.symm⟩, _, _, rfl, rfl, _, rfl, ?_⟩
    refine ite2 (fun h => absurd (of_decide_eq_true h) (by omega)) (fun _ => ?_)
    refine ⟨_, rfl, b, _, rfl, hb, for_it (walk_enumT (K := K) (a := b) (xs := as.map V.ref)) (fun i σ H' => Same H H' ∧ ∃ v1 v2, σ = [some (.ref b), some (.int (m : Int)), v1, v2, none]) ⟨Same.refl H, none, none, rfl⟩ (fun i σ H' _ p => hb.ext p.1) ?_ ?_⟩
    · rintro i x σ H1 H2 hi ⟨sm, v1, v2, rfl⟩ ⟨t, x1, x2, rfl, ht, rfl, e1, e2⟩
      cases e1
      replace e2 : (as.map V.ref)[i]? = some x2 := e2
      rw [List.getElem?_map] at e2
      obtain ⟨a, ea, rfl⟩ := Option.map_eq_some_iff.mp e2
      have hir : i < rs.length := by rw [← hR.1]; exact (List.getElem?_eq_some_iff.mp ea).1
      have er : rs[i]? = some rs[i] := List.getElem?_eq_getElem hir
      obtain ⟨hl, hx⟩ := hrow _ (List.getElem_mem hir)
      have sm2 := sm.trans (same_upd (o := .tup [V.int (i : Nat), V.ref a]) ht)
      have ha2 := sm2 _ _ (hR.2 i a _ ea er)
      refine ⟨t, _, rfl, SqT.of upd_same, rfl, _, _, rfl, _, _, rfl, rfl, ?_⟩
      generalize upd H1 t (.tup [V.int (i : Nat), V.ref a]) = H3 at sm2 ha2 ⊢
      refine ⟨_, rfl, by show 2 ≤ sizeLine; decide, fun q hq => ?_⟩
      have sm4 := sm2.trans (same_upd (o := .tup [V.ty "list", V.ty "tuple"]) hq)
      have ha4 := (same_upd (o := .tup [V.ty "list", V.ty "tuple"]) hq) _ _ ha2
      refine ⟨_, q, _, _, _, true, rfl, upd_same, .cons (.ty "list") (.cons (.ty "tuple") .nil), .base (.tup ha4), kit_tupl, true, rfl, ?_⟩
      refine iteF ?_
      refine ⟨_, rfl, _, m, rfl, .inr ⟨_, SqT.of ha4, by rw [List.length_map]; exact hl.symm⟩, _, rfl, rfl, _, rfl, ?_⟩
      refine ite2 (fun h => ?_) (fun _ => ?_)
      · simp at h
      refine ⟨_, rfl, a, rfl, ⟨_, SqT.of ha4⟩, fun D hD => ?_⟩
      generalize upd H3 q (.tup [V.ty "list", V.ty "tuple"]) = H4 at sm4 ha4 hD ⊢
      refine lc_tup (K := K) (a := a) (xs := (rs[i]).map V.int) (fun j H' => Same H4 H' ∧ H' D = some (.lst ((List.replicate j true).map V.bl))) ?_ ?_ ?_ ?_
      · exact ⟨same_upd hD, upd_same⟩
      · exact fun j H' _ p => (SqT.of ha4).ext p.1
      · rintro j x H5 hj ⟨sm5, hD5⟩
        rw [List.getElem?_map] at hj
        obtain ⟨y, hy, rfl⟩ := Option.map_eq_some_iff.mp hj
        obtain ⟨y0, y1⟩ := hx y (List.mem_of_getElem? hy)
        have hjl : j < (rs[i]).length := (List.getElem?_eq_some_iff.mp hy).1
        refine ⟨rfl, _, rfl, _, rfl, _, rs.length, rfl, .inr ⟨_, hb.ext (sm4.trans sm5), hlen.symm⟩, y, rs.length, rfl, y0, y1, ?_⟩
        refine ⟨_, hD5, ?_, ?_, ?_⟩
        · simp; exact small1000 (by omega)
        · exact fun b' o e => by rw [upd_ne (ne_of_none e hD)]; exact sm5 b' o e
        · rw [upd_same, List.replicate_succ']
          simp
      · rintro H5 ⟨sm5, hD5⟩
        refine ⟨D, _, rfl, SqL.of hD5, ?_⟩
        have e : (List.replicate ((rs[i]).map V.int).length true).all id = true := by simp
        rw [e]
        refine ⟨true, rfl, ?_⟩
        refine iteF ?_
        exact ⟨sm4.trans sm5, _, _, rfl⟩
    · rintro σ H1 ⟨sm, v1, v2, rfl⟩
      exact k H1 sm
end
end K1
set_option Elab.async false
set_option linter.all false
set_option maxRecDepth 100000
/-! a machine made of a machine's own deeds and rows, and of tells of any kind -/
namespace K1
open PySem L2
/-- a text, or nothing -/
def Vt (v : V) : Prop := v = .non ∨ ∃ z : Str, v = .str z ∧ z.length ≤ 1000
theorem Vt.th {K : PySem.W.Frag} {v : V} (h : Vt v) (H : Hp) : ∃ t, Th K H v t := by
  rcases h with rfl | ⟨z, rfl, hl⟩
  · exact ⟨_, .non⟩
  · exact ⟨_, .str z hl⟩
structure PartsV (ws : List Str) (rs : List (List Int)) (vs : List V) (st : Int) : Prop where
  gd : GoodD ws
  many : 1 ≤ rs.length ∧ rs.length ≤ 60
  row : ∀ r ∈ rs, r.length = ws.length ∧ ∀ x ∈ r, 0 ≤ x ∧ x < (rs.length : Int)
  tl : vs.length = rs.length ∧ ∀ v ∈ vs, Vt v
  st : 0 ≤ st ∧ st < (rs.length : Int)
/-- a machine at x with these tells, of any kind -/
def MachV (K : PySem.W.Frag) (C : Addr) (H : Hp) (x : Addr) (ws : List Str) (rs : List (List Int)) (vs : List V) (st : Int) : Prop :=
  ∃ (dx t r l : Addr) (as : List Addr), H x = some (.ins C dx (mf t r l st)) ∧ SqF H t (ws.map V.str) ∧ H r = some (.tup (as.map V.ref)) ∧ RowsT H as rs ∧ H l = some (.tup vs)
def spMT (K : PySem.W.Frag) (C CB : Addr) : Sp := fun us H Q E => ∃ (x dx a b l : Addr) (as : List Addr) (ws : List Str) (rs : List (List Int)) (vs : List V) (st : Int), us = [.ref x, .ref a, .ref b, .ref l, .int st] ∧ H x = some (.ins C dx []) ∧
  SqF H a (ws.map V.str) ∧ H b = some (.tup (as.map V.ref)) ∧ RowsT H as rs ∧ H l = some (.lst vs) ∧ PartsV ws rs vs st ∧
  match badT vs with
  | some k => Rs CB fIx [.int (k : Int)] H E
  | none => ∀ H', MachV K C H' x ws rs vs st → Kept x H H' → Q .non H'
section
variable {P : Program} {w : World} {K : PySem.W.Frag} {mg : Str → Option Value} {base : Heap}
theorem g_minitT {C f fCd fG fD fW fR fX fI fT fL CB fB CU fU : Addr} {fd fdCd fdG fdD fdW fdR fdX fdI fdT fdL fdB fdU : FuncData} (F : MI K f fd) (M : Tm K mg C) (T : Bt2 mg)
    (DCd : Df K mg "check_deeds" sCheckDeeds ["deeds"] fCd fdCd) (DG : Df K mg "check_group" sCheckGroup ["deeds"] fG fdG) (DD : Df K mg "check_different" sCheckDiff ["deeds"] fD fdD) (DW : Df K mg "is_word" sIsWord ["value"] fW fdW)
    (DR : Df K mg "check_rows" sCheckRows ["rows", "many"] fR fdR) (DX : Df K mg "is_index" sIsIndex ["value", "many"] fX fdX) (DI : Df K mg "is_integer" sIsInt ["value"] fI fdI)
    (DT : Df K mg "check_tells" sCheckTells ["tells", "many"] fT fdT) (DL : Df K mg "is_tell" sIsTell ["value"] fL fdL) (O : OBadTell K mg CB fB fdB) (OU : OUneven K mg CU fU fdU) : FnOk P w K mg base (L2.CX P w) 6 f fd pInit (spMT K C CB) := by
  have GC : FnOk P w K mg base CX0 4 fCd fdCd ["deeds"] (spDeeds K) := ok_deeds DCd DG DD DW T
  have GR : FnOk P w K mg base CX0 3 fR fdR ["rows", "many"] (spRowsTT K) := ok_rowsTT DR DX DI T
  have GT : FnOk P w K mg base (L2.CX P w) 3 fT fdT ["tells", "many"] (spCTells K CB CU) := g_tells DT DL O OU T
  have GX : FnOk P w K mg base CX0 2 fX fdX ["value", "many"] spIsIndex := ok_isindex DX DI T
  refine F.ok scMInit (fun vs H Q E h => ?_) (fun cdv A outer s H vs Q E hr h => ?_)
  · obtain ⟨x, dx, a, b, l, as, ws, rs, ss, st, rfl, _⟩ := h
    rfl
  · obtain ⟨x, dx, a, b, l, as, ws, rs, ss, st, rfl, hx, ha, hb, hR, hl, pt, k⟩ := h
    have hr2 : Room 2 _ := hr.mono (by decide)
    have hr3 : Room 3 _ := hr.mono (by decide)
    have hr4 : Room 4 _ := hr.mono (by decide)
    refine ⟨_, (pss_cons (ps_expr (pe_call GC hr4 rfl DCd.g DCd.F.kp DCd.b .nil pass0 (pa_cons (pv 1) pa_nil)))
      (pss_cons (ps_expr (pe_call GR hr3 rfl DR.g DR.F.kp DR.b .nil pass0 (pa_cons (pv 2) (pa_cons (pe_callB call_len (by rfl) T.len PySem.boot_len (pa_cons (pv 1) pa_nil)) pa_nil))))
      (pss_cons (ps_expr (pe_callS GT hr3 rfl DT.g DT.F.kp DT.b (fun σ => passAt (takes_of rfl rfl rfl rfl) σ) (pa_cons (pv 3) (pa_cons (pe_callB call_len (by rfl) T.len PySem.boot_len (pa_cons (pv 2) pa_nil)) pa_nil))))
      (pss_cons (ps_if (pt_not (pt_val (pe_call GX hr2 rfl DX.g DX.F.kp DX.b .nil pass0 (pa_cons (pv 4) (pa_cons (pe_callB call_len (by rfl) T.len PySem.boot_len (pa_cons (pv 2) pa_nil)) pa_nil))))) pss_never pss_nil)
      (pss_cons (ps_fld (pv 0) (pe_callTy (r := rTu K) call_tuple_of (by rfl) T.tuple PyProof.Rows.boot_tuple (pa_cons (pv 1) pa_nil)) rfl)
      (pss_cons (ps_fld (pv 0) (pe_callTy (r := rTu K) call_tuple_of (by rfl) T.tuple PyProof.Rows.boot_tuple (pa_cons (pe_lc (own := [("row", 5)]) (g := gName 5) (by rfl) scMInit.nd (pi_tup (pv 2))
            (blkOk_by (own := [("row", 5)]) (N := nInit) (sc := defScope sMInit) (by decide +kernel)) (fun _ _ _ _ _ => pg_name (i := 5) scMInit.nd rfl (Or.inl rfl)) (fun _ _ _ _ _ => pts_nil)
            (fun _ _ _ _ _ => pe_callTy (r := rTu K) call_tuple_of (by rfl) T.tuple PyProof.Rows.boot_tuple (pa_cons (pv 5) pa_nil))) pa_nil)) rfl)
        (pss_cons (ps_fld (pv 0) (pe_callTy (r := rTu K) call_tuple_of (by rfl) T.tuple PyProof.Rows.boot_tuple (pa_cons (pv 3) pa_nil)) rfl)
        (pss_one (ps_fld (pv 0) (pv 4) rfl))))))))), ?_⟩
    refine ⟨_, rfl, a, ws, rfl, .inr ha.sq, pt.gd, ?_⟩
    have g6 := pt.gd.len.2
    have h60 := pt.many.2
    have hlr : (as.map V.ref).length = rs.length := by rw [List.length_map, hR.1]
    intro H1 s1
    refine ⟨_, rfl, _, rfl, _, ws.length, rfl, .inr ⟨_, (ha.same s1).sq, (List.length_map _).symm⟩, b, ws.length, as, rs, rfl, SqT.of (s1 _ _ hb), hR.same s1, pt.many.1, h60, by omega, pt.row, fun H2 s2' => ?_⟩
    have s2 := s1.trans s2'
    refine ⟨_, rfl, _, rfl, _, rs.length, rfl, .inr ⟨_, SqT.of (s2 _ _ hb), hlr.symm⟩, l, ss, rs.length, rfl, SqL.of (s2 _ _ hl), fun v hv => (pt.tl.2 v hv).th H2, by rw [pt.tl.1]; omega, ?_⟩
    cases hbad : badT ss with
    | some kk =>
      rw [hbad] at k
      exact k.same s2
    | none =>
    rw [hbad] at k
    show if ss.length = rs.length then _ else _
    rw [if_pos pt.tl.1]
    intro H3 s3'
    have s3 := s2.trans s3'
    refine ⟨_, rfl, _, rfl, _, rs.length, rfl, .inr ⟨_, SqT.of (s3 _ _ hb), hlr.symm⟩, st, rs.length, rfl, pt.st.1, pt.st.2, true, rfl, ?_⟩
    refine iteF ?_
    refine ⟨_, rfl, a, _, rfl, .inr ⟨(ha.same s3).sq, ?_⟩⟩
    have hx3 := s3 _ _ hx
    refine ⟨_, rfl, x, C, dx, _, rfl, hx3, M.cl, M.nD, (by show 0 < 1000; decide), ?_⟩
    have k5 : Kept x H3 (upd H3 x (.ins C dx (putF "deeds" (.ref a) []))) := Kept.self
    have hx5 : upd H3 x (.ins C dx (putF "deeds" (.ref a) [])) x = some (.ins C dx (putF "deeds" (.ref a) [])) := upd_same
    have ha5 := k5.seqFI hx3 (ha.same s3)
    have hb5 := k5 _ _ (s3 _ _ hb) (ne_of (s3 _ _ hb) hx3 (by intro z; cases z))
    have hl5 := k5 _ _ (s3 _ _ hl) (ne_of (s3 _ _ hl) hx3 (by intro z; cases z))
    have hR5 := RowsT.kept k5 hx3 (hR.same s3)
    have kk5 : Kept x H (upd H3 x (.ins C dx (putF "deeds" (.ref a) []))) := (Kept.same s3).trans k5
    generalize upd H3 x (.ins C dx (putF "deeds" (.ref a) [])) = H5 at k5 hx5 ha5 hb5 hl5 hR5 kk5 ⊢
    refine ⟨_, rfl, b, rfl, ⟨_, SqT.of hb5⟩, fun D hD => ?_⟩
    refine lc_tup (K := K) (a := b) (xs := as.map V.ref) (fun i H' => Same H5 H' ∧ H' D = some (.lst ((as.take i).map V.ref))) ?_ ?_ ?_ ?_
    · exact ⟨same_upd hD, upd_same⟩
    · exact fun i H' _ p => SqT.of (p.1 _ _ hb5)
    · rintro i y H6 hi ⟨sm6, hD6⟩
      rw [List.getElem?_map] at hi
      obtain ⟨ai, eai, rfl⟩ := Option.map_eq_some_iff.mp hi
      have hir : i < rs.length := by rw [← hR.1]; exact (List.getElem?_eq_some_iff.mp eai).1
      have ha6 := sm6 _ _ (hR5.2 i ai _ eai (List.getElem?_eq_getElem hir))
      refine ⟨rfl, _, rfl, ai, _, rfl, .inr ⟨SqT.of ha6, ?_⟩⟩
      refine ⟨_, hD6, ?_, ?_, ?_⟩
      · rw [List.length_map, List.length_take]; exact small1000 (by omega)
      · exact fun c o e => by rw [upd_ne (ne_of_none e hD)]; exact sm6 _ _ e
      · rw [upd_same, List.take_add_one, eai, List.map_append]; rfl
    · rintro H6 ⟨sm6, hD6⟩
      rw [List.length_map, List.take_length] at hD6
      refine ⟨D, _, rfl, .inl ⟨SqL.of hD6, fun r hr6 => ?_⟩⟩
      have sr := same_upd (o := .tup (as.map V.ref)) hr6
      have s7 := sm6.trans sr
      have hx7 := s7 _ _ hx5
      have hr7 : upd H6 r (.tup (as.map V.ref)) r = some (.tup (as.map V.ref)) := upd_same
      have ha7 := ha5.same s7
      have hl7 := s7 _ _ hl5
      have hR7 := hR5.same s7
      have kk7 := kk5.trans (.same s7)
      generalize upd H6 r (.tup (as.map V.ref)) = H7 at hx7 hr7 ha7 hl7 hR7 kk7 ⊢
      refine ⟨_, rfl, x, C, dx, _, rfl, hx7, M.cl, M.nR, (by show 1 < 1000; decide), ?_⟩
      have k8 : Kept x H7 (upd H7 x (.ins C dx (putF "rows" (.ref r) (putF "deeds" (.ref a) [])))) := Kept.self
      have hx8 : upd H7 x (.ins C dx (putF "rows" (.ref r) (putF "deeds" (.ref a) []))) x = some (.ins C dx (putF "rows" (.ref r) (putF "deeds" (.ref a) []))) := upd_same
      have hr8 := k8 _ _ hr7 (ne_of hr7 hx7 (by intro z; cases z))
      have ha8 := k8.seqFI hx7 ha7
      have hl8 := k8 _ _ hl7 (ne_of hl7 hx7 (by intro z; cases z))
      have hR8 := RowsT.kept k8 hx7 hR7
      have kk8 := kk7.trans k8
      generalize upd H7 x (.ins C dx (putF "rows" (.ref r) (putF "deeds" (.ref a) []))) = H8 at hx8 hr8 ha8 hl8 hR8 kk8 ⊢
      refine ⟨_, rfl, l, _, rfl, .inl ⟨SqL.of hl8, fun l' hl9 => ?_⟩⟩
      have sl := same_upd (o := .tup ss) hl9
      have hx9 := sl _ _ hx8
      have hl9' : upd H8 l' (.tup ss) l' = some (.tup ss) := upd_same
      have hr9 := sl _ _ hr8
      have hR9 := hR8.same sl
      have ha9 := ha8.same sl
      have kk9 : Kept x H (upd H8 l' (.tup ss)) := kk8.trans (.same sl)
      generalize upd H8 l' (.tup ss) = H9 at hx9 hl9' hr9 hR9 ha9 kk9 ⊢
      refine ⟨_, rfl, x, C, dx, _, rfl, hx9, M.cl, M.nT, (by show 2 < 1000; decide), ?_⟩
      have k10 : Kept x H9 (upd H9 x (.ins C dx (putF "tells" (.ref l') (putF "rows" (.ref r) (putF "deeds" (.ref a) []))))) := Kept.self
      have hx10 : upd H9 x (.ins C dx (putF "tells" (.ref l') (putF "rows" (.ref r) (putF "deeds" (.ref a) [])))) x = some (.ins C dx (putF "tells" (.ref l') (putF "rows" (.ref r) (putF "deeds" (.ref a) [])))) := upd_same
      have hl10 := k10 _ _ hl9' (ne_of hl9' hx9 (by intro z; cases z))
      have hr10 := k10 _ _ hr9 (ne_of hr9 hx9 (by intro z; cases z))
      have hR10 := RowsT.kept k10 hx9 hR9
      have ha10 := k10.seqFI hx9 ha9
      have kk10 := kk9.trans k10
      generalize upd H9 x (.ins C dx (putF "tells" (.ref l') (putF "rows" (.ref r) (putF "deeds" (.ref a) [])))) = H10 at k10 hx10 hl10 hr10 hR10 ha10 kk10 ⊢
      refine ⟨_, rfl, _, rfl, x, C, dx, _, rfl, hx10, M.cl, M.nS, (by show 3 < 1000; decide), ?_⟩
      have k11 : Kept x H10 (upd H10 x (.ins C dx (mf a r l' st))) := Kept.self
      exact k _ ⟨dx, a, r, l', as, upd_same, k11.seqFI hx10 ha10, k11 _ _ hr10 (ne_of hr10 hx10 (by intro z; cases z)), RowsT.kept k11 hx10 hR10, k11 _ _ hl10 (ne_of hl10 hx10 (by intro z; cases z))⟩ (kk10.trans k11)
end
end K1
set_option Elab.async false
set_option linter.all false
set_option maxRecDepth 100000
/-! a machine made of any parts: the first error, or none -/
namespace L2
open PySem PySem.Spec PyProof.Rows
section
variable {X : Cx} {CX : CXT} {k : Nat} {f C : Addr} {fd : FuncData} {ps : List Str} {sp : Sp} {E : St → XK} {x : Str} {p pos : Pos} {e : Expr} {es : List Expr} {t : TA} {ds : List Value} {dvs : List V}
/-- C(e, ..) where the making may raise, inside a try -/
def tMakeS (C : Addr) (sp : Sp) (dvs : List V) (E : St → XK) (t : TA) : TE := fun σ H Q => t σ H fun vs H1 => ∀ x dx, H1 x = none → H1 dx = none → dx ≠ x →
  sp (.ref x :: (vs ++ dvs)) (upd (upd H1 dx (.own x)) x (.ins C dx [])) (fun v H2 => v = .non ∧ Q (.ref x) H2) (E σ)
theorem run_makeS {pins : List (Addr × Obj)} {u : St} {H : Hp} {s : Shared} {Q : VK} {us : List Value} {vs : List V} (M : Mk X.K C f) (F : FnOk X.prog X.w X.K X.mg X.base CX k f fd ps sp) (hr : Room (k + 1) X.A) (hb : Binds X.K fd ps ds) (hd : Vals dvs ds)
    (hx : PassesAt CX X u (E u)) (I : Inv X pins u H s) (r : Vals vs us)
    (go : ∀ x dx, H x = none → H dx = none → dx ≠ x → sp (.ref x :: (vs ++ dvs)) (upd (upd H dx (.own x)) x (.ins C dx [])) (fun v H2 => v = .non ∧ Q (.ref x) H2) (E u)) :
    wpAny (model X.prog X.w) X.A (call (.ref C) us) (EP X pins u Q) X.xe s := by
  have q0 := go (s.heap.objs.size + 1) s.heap.objs.size (I.hok.fresh (Nat.le_succ _)) (I.hok.fresh (Nat.le_refl _)) (Nat.ne_of_lt (Nat.lt_succ_self _))
  have J := Inv.made (C := C) I
  have rr : Vals (V.ref (s.heap.objs.size + 1) :: (vs ++ dvs)) (Value.ref (s.heap.objs.size + 1) :: (us ++ ds)) := .cons rfl (r.append hd)
  have ln : (Value.ref (s.heap.objs.size + 1) :: us ++ ds).length = ps.length := (F.len _ _ _ _ q0 ▸ rr.length).symm
  have run0 := F.run _ X.stack _ _ ⟨Value.ref (s.heap.objs.size + 1) :: us, []⟩ (Value.ref (s.heap.objs.size + 1) :: (us ++ ds)) _ _ (E u) (hr.make C us []) (J.env0.make C us []) (hb _ (Value.ref (s.heap.objs.size + 1) :: us) J.kIn ln) rr q0
  refine wpAny_call (make_map (f := f) I.kIn M.makes M.init (beq_iff_eq.mp M.fn) (codeAny_mono run0 fun r s' hq' => ?_))
  cases r with
  | error e => exact hx pins _ _ e s' J hq'
  | ok fl =>
    cases fl with
    | ret u =>
      obtain ⟨v, H', I3, rv, ev, q3⟩ := J.after hq'
      subst ev
      exact ⟨rv, V.ref (s.heap.objs.size + 1), H', I3, rfl, q3⟩
    | next => exact hq'.elim
    | brk => exact hq'.elim
    | cont => exact hq'.elim
theorem pe_makeS (M : Mk X.K C f) (F : FnOk X.prog X.w X.K X.mg X.base CX k f fd ps sp) (hr : Room (k + 1) X.A) (hg : Gl X x) (hm : X.mg x = some (.ref C)) (hb : Binds X.K fd ps ds) (hd : Vals dvs ds) (hx : ∀ σ, PassesAt CX X σ (E σ))
    (ha : PA X (e :: es) t) (hdb : (x == ("__debug__" : Str)) = false := by decide) (he : starEach (e :: es) X.env = (false, eval e X.env) :: starEach es X.env := by rfl) (hpl : (backTo pos (starEach es X.env)).any (·.1) = false := by rfl) :
    PE X (.Call (.Name x p) (e :: es) [] pos) (tMakeS C sp dvs E t) := by
  refine ⟨fun pins s u H Q I h => wpAny_Call_Name_kw (ld_glob I hg hm ?_ hdb)⟩
  refine PySem.W.callWith_K (h₀ := X.base) I.ok.mod.kin M.kp (thn (ha.run pos pins s u H _ I h) fun us s1 ⟨vs, H1, I1, r, q⟩ => ⟨I1.kIn, ?_⟩) he hpl
  exact run_makeS M F hr hb hd (hx u) I1 r q
end
end L2
set_option Elab.async false
set_option linter.all false
set_option maxRecDepth 100000
/-! Machine.telling -/
namespace K1
open PySem L2 LamX
abbrev sTelling : Stmt := inClass (top 35) 12
def valsT (kvs : List (Key × V)) (ss : List Str) : List V := ss.map fun z => (valV kvs (Sum.inr z)).getD .non
def lostT (kvs : List (Key × V)) (ss : List Str) : Option Str := ss.find? fun z => (valV kvs (Sum.inr z)).isNone
def spTelling (K : PySem.W.Frag) (C CN CB : Addr) : Sp := fun us H Q E => ∃ (x d : Addr) (ws : List Str) (rs : List (List Int)) (ss : List Str) (st : Int) (kvs : List (Key × V)), us = [.ref x, .ref d] ∧ MachAt K C H x ws rs ss st ∧ Parts ws rs ss st ∧ H d = some (.dK kvs) ∧
  (∀ z ∈ ss, ∀ v, valV kvs (Sum.inr z) = some v → Vt v) ∧
  match lostT kvs ss with
  | some z => Rs CN ["tell"] [.str z] H E
  | none => match badT (valsT kvs ss) with
    | some k => Rs CB fIx [.int (k : Int)] H E
    | none => ∀ p H', H p = none → Same H H' → MachV K C H' p ws rs (valsT kvs ss) st → Q (.ref p) H'
theorem find_first {α : Type} {p : α → Bool} {xs : List α} {i : Nat} {x : α} (e : xs[i]? = some x) (h : ∀ y ∈ xs.take i, p y = false) (hp : p x = true) : xs.find? p = some x := by
  have h1 : xs = xs.take i ++ x :: xs.drop (i + 1) := by
    obtain ⟨hl, e2⟩ := List.getElem?_eq_some_iff.mp e
    rw [← e2, ← List.drop_eq_getElem_cons hl, List.take_append_drop]
  rw [h1, List.find?_append]
  have h2 : (xs.take i).find? p = none := List.find?_eq_none.mpr fun y hy => by rw [h y hy]; simp
  rw [h2, List.find?_cons, hp]; rfl
section
variable {P : Program} {w : World} {K : PySem.W.Frag} {mg : Str → Option Value} {base : Heap}
abbrev pTelling : List Str := ["self", "table"]
abbrev nTelling : List Str := ["self", "table", "tell"]
theorem scTelling : FnScope nTelling pTelling (defScope sTelling) := ⟨rfl, rfl, rfl, by decide +kernel, rfl, by decide +kernel, by decide +kernel⟩
theorem ok_telling {C CN CB f fI fN : Addr} {fd fdI fdN : FuncData} (F : Fun K "telling" "Machine.telling" sTelling f fd) (M : Tm K mg C) (T : Bt2 mg) (ON : ONoEntry K mg CN fN fdN)
    (MkI : Mk K C fI) (bI : Binds K fdI pInit []) (GI : FnOk P w K mg base (L2.CX P w) 6 fI fdI pInit (spMT K C CB)) : FnOk P w K mg base (L2.CX P w) 8 f fd pTelling (spTelling K C CN CB) := by
  refine F.okX scTelling (fun vs H Q E h => ?_) (fun cdv A outer s H vs Q E hr h => ?_)
  · obtain ⟨x, d, ws, rs, ss, st, kvs, rfl, _⟩ := h
    rfl
  · obtain ⟨x, d, ws, rs, ss, st, kvs, rfl, mx, pt, hd, hvt, k⟩ := h
    have hu := hu_of hr
    have hr2 : Room 2 _ := hr.mono (by decide)
    refine ⟨_, pss_cons (ps_for (passes_of rfl) rfl (pi_tup (pe_fld (pv 0) rfl)) (pg_name (i := 2) scTelling.nd rfl (Or.inl rfl))
        (pss_one (ps_if (pt_cmp (pc_dnotin hu (pv 2) (pv 1)))
          (pss_one (ps_raise rfl (takes_of rfl rfl rfl rfl) (pmk_oex ON.T ON.ini ON.tI (ini_NoEntry ON) hr2 ON.b .nil pass0 rfl ON.g (pa_cons (pv 2) pa_nil)))) pss_nil)))
      (pss_one (ps_ret (pe_makeS MkI GI hr rfl M.mgC bI .nil (fun σ => passAt (takes_of rfl rfl rfl rfl) σ) (pa_cons (pe_fld (pv 0) rfl) (pa_cons (pe_fld (pv 0) rfl)
        (pa_cons (pe_lc (own := [("tell", 2)]) (g := gName 2) (by rfl) scTelling.nd (pi_tup (pe_fld (pv 0) rfl))
            (blkOk_by (own := [("tell", 2)]) (N := nTelling) (sc := defScope sTelling) (by decide +kernel)) (fun _ _ _ _ _ => pg_name (i := 2) scTelling.nd rfl (Or.inl rfl)) (fun _ _ _ _ _ => pts_nil)
            (fun _ _ _ _ _ => pe_dget hu (pv 1) (pv 2) (fun _ _ => rfl))) (pa_cons (pe_fld (pv 0) rfl) pa_nil))))))), ?_⟩
    obtain ⟨dx, t, r, l, as, gx1, gx2, gx3, gx4, gx5⟩ := id mx
    have h60 := pt.many.2
    have hsl := pt.tl.1
    refine ⟨_, rfl, x, C, dx, _, _, rfl, gx1, M.cl, M.nT, mf_tells _ _ _ _, l, rfl, ⟨_, SqT.of gx5⟩, for_tup (K := K) (a := l) (xs := ss.map V.str) (fun i σ H' => H' = H ∧ (∀ z ∈ ss.take i, (valV kvs (Sum.inr z)).isNone = false) ∧ ∃ v2, σ = [some (.ref x), some (.ref d), v2]) ⟨rfl, by simp, none, rfl⟩ (fun i σ H' _ q => by rw [q.1]; exact SqT.of gx5) ?_ ?_⟩
    · rintro i yv σ H1 hi ⟨rfl, hok, v2, rfl⟩
      rw [List.getElem?_map] at hi
      obtain ⟨z, ez, rfl⟩ := Option.map_eq_some_iff.mp hi
      refine ⟨_, rfl, _, rfl, d, _, rfl, DGet.k (k := Sum.inr z) hd, _, rfl, ?_⟩
      cases hv : valV kvs (Sum.inr z) with
      | none =>
        refine iteT ?_
        have e : lostT kvs ss = some z := find_first ez hok (by rw [hv]; rfl)
        rw [e] at k
        refine ⟨_, rfl, ?_⟩
        exact err_read (fs := ["tell"]) (by decide) rfl k
      | some v =>
        refine iteF ?_
        refine ⟨rfl, fun y hy => ?_, _, rfl⟩
        rw [List.take_add_one, ez] at hy
        rcases List.mem_append.mp hy with h | h
        · exact hok y h
        · rw [show y = z from by simpa using h, hv]; rfl
    · rintro σ H1 ⟨rfl, hok, v2, rfl⟩
      rw [List.length_map, List.take_length] at hok
      have e : lostT kvs ss = none := List.find?_eq_none.mpr fun y hy => by rw [hok y hy]; simp
      rw [e] at k
      have hall : ∀ z ∈ ss, ∃ v, valV kvs (Sum.inr z) = some v ∧ Vt v := fun z hz => by
        have h1 := hok z hz
        cases hv : valV kvs (Sum.inr z) with
        | none => rw [hv] at h1; cases h1
        | some v => exact ⟨v, rfl, hvt z hz v hv⟩
      refine ⟨_, rfl, x, C, dx, _, _, rfl, gx1, M.cl, M.nD, mf_deeds _ _ _ _, _, rfl, x, C, dx, _, _, rfl, gx1, M.cl, M.nR, mf_rows _ _ _ _, _, rfl, x, C, dx, _, _, rfl, gx1, M.cl, M.nT, mf_tells _ _ _ _, l, rfl, ⟨_, SqT.of gx5⟩, fun D hD => ?_⟩
      refine lc_tup (K := K) (a := l) (xs := ss.map V.str) (fun i H' => Same H1 H' ∧ H' D = some (.lst ((valsT kvs ss).take i))) ?_ ?_ ?_ ?_
      · exact ⟨same_upd hD, upd_same⟩
      · exact fun i H' _ q => SqT.of (q.1 _ _ gx5)
      · rintro i yv H2 hi ⟨s2, hD2⟩
        rw [List.getElem?_map] at hi
        obtain ⟨z, ez, rfl⟩ := Option.map_eq_some_iff.mp hi
        have hil := (List.getElem?_eq_some_iff.mp ez).1
        obtain ⟨v, hv, _⟩ := hall z (List.mem_of_getElem? ez)
        have en : (valsT kvs ss)[i]? = some v := by unfold valsT; rw [List.getElem?_map, ez]; show some ((valV kvs (Sum.inr z)).getD .non) = _; rw [hv]; rfl
        refine ⟨rfl, _, rfl, _, rfl, d, v, rfl, by rw [← hv]; exact DGet.k (k := Sum.inr z) (s2 _ _ hd), ?_⟩
        refine ⟨_, hD2, ?_, fun b' o e => by rw [upd_ne (ne_of_none e hD)]; exact s2 b' o e, ?_⟩
        · rw [List.length_take, sizeLine_eq]; omega
        · rw [upd_same, List.take_add_one, en]; rfl
      · rintro H2 ⟨s2, hD2⟩
        have hvl : (valsT kvs ss).length = ss.length := List.length_map _
        rw [List.length_map, ← hvl, List.take_length] at hD2
        refine ⟨_, rfl, x, C, dx, _, _, rfl, s2 _ _ gx1, M.cl, M.nS, mf_start _ _ _ _, ?_⟩
        (try delta tNil)
        intro p dp hp hdp ndp
        have s3 : Same H2 (upd (upd H2 dp (.own p)) p (.ins C dp [])) := fun b o e => by rw [upd_ne (ne_of_none e hp), upd_ne (ne_of_none e hdp)]; exact e
        have s13 := s2.trans s3
        refine ⟨p, dp, t, r, D, as, ws, rs, valsT kvs ss, st, rfl, upd_same, gx2.same s13, s13 _ _ gx3, gx4.same s13, s3 _ _ hD2, ⟨pt.gd, pt.many, pt.row, ⟨by rw [hvl]; exact hsl, fun v hv => ?_⟩, pt.st⟩, ?_⟩
        · obtain ⟨z, hz, rfl⟩ := List.mem_map.mp hv
          obtain ⟨v, ev, vt⟩ := hall z hz
          rw [ev]; exact vt
        · have hpH := s2.free hp
          cases hb : badT (valsT kvs ss) with
          | some kk =>
            rw [hb] at k
            exact k.same s13
          | none =>
            rw [hb] at k
            exact fun H' hm hk => ⟨rfl, k p H' hpH (fun b o e => hk b o (s13 _ _ e) (ne_of_none e hpH)) hm⟩
end
end K1
set_option Elab.async false
set_option linter.all false
set_option maxRecDepth 100000
/-! what is refused, and how it is told -/
namespace K1
open PySem L2 LamX
abbrev sRefE : Stmt := top 50
abbrev pRefE : List Str := ["_law_call"]
abbrev nRefE : List Str := ["_law_call", "e"]
theorem scRefE : FnScope nRefE pRefE (defScope sRefE) := ⟨rfl, rfl, rfl, by decide +kernel, rfl, by decide +kernel, by decide +kernel⟩
def suite0 (tag : Str) : Addr → Value → Option Addr → TS := fun _ _ _ => tRet (tTup (tCons (tC (.str tag)) tNil))
/-- the errors' classes -/
structure Cs where
  CO : Addr
  CT : Addr
  CN : Addr
  CB : Addr
  CL : Addr
def clauses (c : Cs) : List (Value × (Addr → Value → Option Addr → TS)) :=
  [(.ref c.CO, suiteT 1 c.CO "deeds" ["have", "want"]), (.ref c.CT, suiteT 1 c.CT "many" ["what", "many", "most"]), (.ref c.CN, suiteT 1 c.CN "entry" ["tell"]), (.ref c.CB, suiteT 1 c.CB "tell" ["index"]), (.ref c.CL, suite0 "other")]
theorem gives_refE {X : Cx} {g fO fT fN fB : Addr} {c : Cs} {fdO fdT fdN fdB : FuncData} {gcd : Value} {q : Str} (OO : OOtherDeeds X.K X.mg c.CO fO fdO) (OT : OTooMany X.K X.mg c.CT fT fdT) (ON : ONoEntry X.K X.mg c.CN fN fdN) (OB : OBadTell X.K X.mg c.CB fB fdB) (hL : X.mg "LooksError" = some (.ref c.CL)) :
    Gives X nRefE "_law_refused" (defScope sRefE) g gcd (defBody sRefE) "_law_call" q (TTf X.K 1 (clauses c)) := by
  refine fault_gives scRefE.nd rfl fun s H => ?_
  exact (.cons (x := "OtherDeeds") ⟨rfl, by decide, .inl OO.g⟩ (fun a oe cl dd pn hz hf => pss_one (ps_ret (pe_tup (pa_cons pe_str (pa_cons (pe_xf OO.xf (OO.no "have" (by simp)) hz hf (pv 1)) (pa_cons (pe_xf OO.xf (OO.no "want" (by simp)) hz hf (pv 1)) pa_nil))))))
    (.cons (x := "TooMany") ⟨rfl, by decide, .inl OT.g⟩ (fun a oe cl dd pn hz hf => pss_one (ps_ret (pe_tup (pa_cons pe_str (pa_cons (pe_xf OT.xf (OT.no "what" (by simp)) hz hf (pv 1)) (pa_cons (pe_xf OT.xf (OT.no "many" (by simp)) hz hf (pv 1)) (pa_cons (pe_xf OT.xf (OT.no "most" (by simp)) hz hf (pv 1)) pa_nil)))))))
    (.cons (x := "NoEntry") ⟨rfl, by decide, .inl ON.g⟩ (fun a oe cl dd pn hz hf => pss_one (ps_ret (pe_tup (pa_cons pe_str (pa_cons (pe_xf ON.xf (ON.no "tell" (by simp)) hz hf (pv 1)) pa_nil)))))
    (.cons (x := "BadTell") ⟨rfl, by decide, .inl OB.g⟩ (fun a oe cl dd pn hz hf => pss_one (ps_ret (pe_tup (pa_cons pe_str (pa_cons (pe_xf OB.xf (OB.no "index" (by simp)) hz hf (pv 1)) pa_nil)))))
    (.cons (x := "LooksError") ⟨rfl, by decide, .inl hL⟩ (fun a oe cl dd pn hz hf => pss_one (ps_ret (pe_tup (pa_cons pe_str pa_nil)))) .nil)))))
/-- the errors' classes, told apart -/
structure Ee (K : PySem.W.Frag) (c : Cs) : Prop where
  oo : PySem.W.exmOne K (.ref c.CO) (.ref c.CO) = some true
  «to» : PySem.W.exmOne K (.ref c.CT) (.ref c.CO) = some false
  tt : PySem.W.exmOne K (.ref c.CT) (.ref c.CT) = some true
  no : PySem.W.exmOne K (.ref c.CN) (.ref c.CO) = some false
  nt : PySem.W.exmOne K (.ref c.CN) (.ref c.CT) = some false
  nn : PySem.W.exmOne K (.ref c.CN) (.ref c.CN) = some true
  bo : PySem.W.exmOne K (.ref c.CB) (.ref c.CO) = some false
  bt : PySem.W.exmOne K (.ref c.CB) (.ref c.CT) = some false
  bn : PySem.W.exmOne K (.ref c.CB) (.ref c.CN) = some false
  bb : PySem.W.exmOne K (.ref c.CB) (.ref c.CB) = some true
abbrev WF (K : PySem.W.Frag) (c : Cs) (f : Addr) (Q : VK) : XK := fun cls dd G => wAsAll K 1 (fun _ _ _ _ => False) { nx := fun _ G' => Q .non G', rt := Q } (clauses c) cls dd [some (.ref f), none] G
theorem rs_o {K : PySem.W.Frag} {c : Cs} (EE : Ee K c) {H1 : Hp} {Q : VK} {u v : V} (k : ∀ p G, Same H1 G → H1 p = none → G p = some (.tup [.str "deeds", u, v]) → Q (.ref p) G) (f : Addr) : Rs c.CO ["have", "want"] [u, v] H1 (WF K c f Q) := by
  intro d G sG hd eG
  exact ⟨true, EE.oo, fun _ a ha => suiteT_read (vs := [u, v]) rfl eG ⟨rfl, rfl, trivial⟩ (Nat.le_of_ble_eq_true rfl) fun p hp => k p _ (sG.trans (same_upd hp)) (sG.free hp) upd_same, fun q => nomatch q⟩
theorem rs_t {K : PySem.W.Frag} {c : Cs} (EE : Ee K c) {H1 : Hp} {Q : VK} {u v y : V} (k : ∀ p G, Same H1 G → H1 p = none → G p = some (.tup [.str "many", u, v, y]) → Q (.ref p) G) (f : Addr) : Rs c.CT fTM [u, v, y] H1 (WF K c f Q) := by
  intro d G sG hd eG
  exact ⟨false, EE.to, (fun q => nomatch q), fun _ => ⟨true, EE.tt, fun _ a ha => suiteT_read (vs := [u, v, y]) rfl eG ⟨rfl, rfl, rfl, trivial⟩ (Nat.le_of_ble_eq_true rfl) fun p hp => k p _ (sG.trans (same_upd hp)) (sG.free hp) upd_same, fun q => nomatch q⟩⟩
theorem rs_n {K : PySem.W.Frag} {c : Cs} (EE : Ee K c) {H1 : Hp} {Q : VK} {u : V} (k : ∀ p G, Same H1 G → H1 p = none → G p = some (.tup [.str "entry", u]) → Q (.ref p) G) (f : Addr) : Rs c.CN ["tell"] [u] H1 (WF K c f Q) := by
  intro d G sG hd eG
  exact ⟨false, EE.no, (fun q => nomatch q), fun _ => ⟨false, EE.nt, (fun q => nomatch q), fun _ => ⟨true, EE.nn, fun _ a ha => suiteT_read (vs := [u]) rfl eG ⟨rfl, trivial⟩ (Nat.le_of_ble_eq_true rfl) fun p hp => k p _ (sG.trans (same_upd hp)) (sG.free hp) upd_same, fun q => nomatch q⟩⟩⟩
theorem rs_b {K : PySem.W.Frag} {c : Cs} (EE : Ee K c) {H1 : Hp} {Q : VK} {u : V} (k : ∀ p G, Same H1 G → H1 p = none → G p = some (.tup [.str "tell", u]) → Q (.ref p) G) (f : Addr) : Rs c.CB fIx [u] H1 (WF K c f Q) := by
  intro d G sG hd eG
  exact ⟨false, EE.bo, (fun q => nomatch q), fun _ => ⟨false, EE.bt, (fun q => nomatch q), fun _ => ⟨false, EE.bn, (fun q => nomatch q), fun _ => ⟨true, EE.bb, fun _ a ha => suiteT_read (vs := [u]) rfl eG ⟨rfl, trivial⟩ (Nat.le_of_ble_eq_true rfl) fun p hp => k p _ (sG.trans (same_upd hp)) (sG.free hp) upd_same, fun q => nomatch q⟩⟩⟩⟩
end K1
set_option Elab.async false
set_option linter.all false
set_option maxRecDepth 100000
/-! _law_is_machine (PenK behind frz.py) -/
namespace K1
open PySem L2
abbrev sIsM : Stmt := top 48
def spIsM (K : PySem.W.Frag) (C : Addr) : Sp := fun vs H Q _ => ∃ (x p : Addr) (ws : List Str) (rs : List (List Int)) (ss : List Str) (st : Int), vs = [.ref x, .ref p] ∧ MachAt K C H x ws rs ss st ∧ PlainAt H p ws rs ss st ∧ OkS ws ∧ OkS ss ∧ rs.length ≤ 60 ∧
  ∀ H', Same H H' → Q (.bl true) H'
section
variable {P : Program} {w : World} {K : PySem.W.Frag} {mg : Str → Option Value} {base : Heap}
abbrev pIsM : List Str := ["_law_machine", "_law_plain_here"]
abbrev nIsM : List Str := ["_law_machine", "_law_plain_here", "_law_row"]
theorem scIsM : FnScope nIsM pIsM (defScope sIsM) := ⟨rfl, rfl, rfl, by decide +kernel, rfl, by decide +kernel, by decide +kernel⟩
theorem ok_ism {C f fL : Addr} {fd fdL : FuncData} (D : Df K mg "_law_is_machine" sIsM pIsM f fd) (M : Tm K mg C) (T : Bt2 mg) (FL : Fun K "__len__" "Machine.__len__" sMLen fL fdL) (bL : Binds K fdL ["self"] []) (OL : OwnL K C fL) : FnOk P w K mg base CX0 3 f fd pIsM (spIsM K C) := by
  have GL : FnOk P w K mg base CX0 1 fL fdL ["self"] (spMLen K C) := ok_mlen FL M T
  refine D.F.ok scIsM (fun vs H Q E h => ?_) (fun cdv A outer s H vs Q E hr h => ?_)
  · obtain ⟨x, p, ws, rs, ss, st, rfl, _⟩ := h
    rfl
  · obtain ⟨x, p, ws, rs, ss, st, rfl, mx, ⟨t, r, l, as, hp, ht, hr', hl, hR⟩, ow, os, h60, k⟩ := h
    obtain ⟨dx, tx, rx, lx, bs0, hx, htx, hrx, hRx, hlx⟩ := id mx
    have hu := hu_of hr
    refine ⟨_, pss_cons (ps_if (PW.pt (pw_or (pt_cmpR (op_neD hr.units) (pe_fld (pv 0) rfl) (pe_dget hu (pv 1) pe_str (fun _ _ => rfl)) (nomark _))
          (pw_or (pt_cmpR op_ne (pe_fld (pv 0) rfl) (pe_dget hu (pv 1) pe_str (fun _ _ => rfl)) (nomark _))
          (pw_or1 (pt_cmpR op_ne (pe_callB (call_lenOwn OL GL hr bL pass0) (by rfl) T.len PySem.boot_len (pa_cons (pv 0) pa_nil)) (pe_callB call_len (by rfl) T.len PySem.boot_len (pa_cons (pe_dget hu (pv 1) pe_str (fun _ _ => rfl)) pa_nil)) (nomark _)))))) (pss_one (ps_ret pe_bl)) pss_nil)
      (pss_one (ps_ret (pe_and (pe_cmpR (op_eqD hr.units) (pe_fld (pv 0) rfl) (pe_callTy call_tuple_of (by rfl) T.tuple PyProof.Rows.boot_tuple (pa_cons (pe_lc (own := [("_law_row", 2)]) (g := gName 2) (by rfl) scIsM.nd (pi_list (pe_dget hu (pv 1) pe_str (fun _ _ => rfl)))
            (blkOk_by (own := [("_law_row", 2)]) (N := nIsM) (sc := defScope sIsM) (by decide +kernel)) (fun _ _ _ _ _ => pg_name (i := 2) scIsM.nd rfl (Or.inl rfl)) (fun _ _ _ _ _ => pts_nil)
            (fun _ _ _ _ _ => pe_callTy (r := rTu K) call_tuple_of (by rfl) T.tuple PyProof.Rows.boot_tuple (pa_cons (pv 2) pa_nil))) pa_nil)) (nomark _))
          (pe_one (pe_cmpR (op_eqD hr.units) (pe_fld (pv 0) rfl) (pe_callTy call_tuple_of (by rfl) T.tuple PyProof.Rows.boot_tuple (pa_cons (pe_dget hu (pv 1) pe_str (fun _ _ => rfl)) pa_nil)) (nomark _)))))), ?_⟩
    refine ⟨_, rfl, x, C, dx, _, _, rfl, hx, M.cl, M.nD, mf_deeds _ _ _ _, _, rfl, p, _, rfl, gDeeds hp, _, _, .tup htx.sq (dp_strs ws), .tup ht.sq (dp_strs ws), shaped_strs ow, shaped_strs ow, _, rfl, ?_⟩
    rw [PyData.eqv, eqv_strs]
    refine ite2 (fun h => by simp at h) (fun _ => ?_)
    refine ⟨_, rfl, x, C, dx, _, _, rfl, hx, M.cl, M.nS, mf_start _ _ _ _, _, rfl, p, _, rfl, gStart hp, rfl, _, rfl, ?_⟩
    refine ite2 (fun h => by simp at h) (fun _ => ?_)
    refine ⟨_, rfl, x, dx, _, rfl, hx, x, ws, rs, ss, st, rfl, mx, rs.length, rfl, Nat.le_trans h60 (by decide), ?_⟩
    refine ⟨_, rfl, p, _, rfl, gRows hp, _, rs.length, rfl, .inl ⟨_, SqL.of hr', by rw [List.length_map, hR.1]⟩, rfl, _, rfl, ?_⟩
    refine ite2 (fun h => by simp at h) (fun _ => ?_)
    -- machine.rows == tuple([..])
    refine ⟨_, rfl, x, C, dx, _, _, rfl, hx, M.cl, M.nR, mf_rows _ _ _ _, _, rfl, p, _, rfl, gRows hp, r, rfl, ⟨_, SqL.of hr'⟩, fun D1 hD => ?_⟩
    refine lc_list (K := K) (a := r) (xs := as.map V.ref) (fun i H' => Same H H' ∧ ∃ bs : List Addr, bs.length = i ∧ H' D1 = some (.lst (bs.map V.ref)) ∧ RowsT H' bs (rs.take i) ∧ ∀ q ∈ bs, q ≠ D1) ?_ ?_ ?_ ?_
    · exact ⟨same_upd hD, [], rfl, upd_same, ⟨by simp, fun i a r e => by simp at e⟩, by simp⟩
    · exact fun i H' _ q => SqL.of (q.1 _ _ hr')
    · rintro i y H6 hi ⟨sm6, bs, hbs, hD6, hR6, hnD⟩
      rw [List.getElem?_map] at hi
      obtain ⟨ai, eai, rfl⟩ := Option.map_eq_some_iff.mp hi
      have hir : i < rs.length := by rw [← hR.1]; exact (List.getElem?_eq_some_iff.mp eai).1
      have eri : rs[i]? = some rs[i] := List.getElem?_eq_getElem hir
      have ha6 := sm6 _ _ (hR.2 i ai _ eai eri)
      refine ⟨rfl, _, rfl, ai, _, rfl, .inl ⟨SqL.of ha6, fun q hq => ?_⟩⟩
      have nDq : D1 ≠ q := ne_of_none hD6 hq
      refine ⟨_, (by rw [upd_ne nDq]; exact hD6), ?_, ?_, bs ++ [q], by simp [hbs], by rw [upd_same]; simp, ?_, ?_⟩
      · rw [List.length_map]; exact small1000 (by omega)
      · exact fun c o e => by rw [upd_ne (ne_of_none e hD), upd_ne (ne_of_none (sm6 _ _ e) hq)]; exact sm6 _ _ e
      · have e7 : RowsT (upd H6 q (.tup ((rs[i]).map V.int))) (bs ++ [q]) (rs.take i ++ [rs[i]]) := (hR6.same (same_upd hq)).snoc upd_same
        rw [List.take_add_one, eri]
        refine ⟨e7.1, fun j c r e1 e2 => ?_⟩
        have hm := List.mem_of_getElem? e1
        have : c ≠ D1 := by
          rcases List.mem_append.mp hm with h | h
          · exact hnD c h
          · rw [List.mem_singleton.mp h]; exact nDq.symm
        rw [upd_ne this]
        exact e7.2 j c r e1 e2
      · intro c hc
        rcases List.mem_append.mp hc with h | h
        · exact hnD c h
        · rw [List.mem_singleton.mp h]; exact nDq.symm
    · rintro H6 ⟨sm6, bs, hbs, hD6, hR6, hnD⟩
      have etk : rs.take (as.map V.ref).length = rs := by rw [List.length_map, hR.1, List.take_length]
      rw [etk] at hR6
      refine ⟨D1, _, rfl, .inl ⟨SqL.of hD6, fun q hq => ?_⟩⟩
      have sq := same_upd (o := .tup (bs.map V.ref)) hq
      have s7 := sm6.trans sq
      refine ⟨_, _, .tup (SqT.of (s7 _ _ hrx)) (dp_rows (hRx.same s7)), .tup (SqT.of upd_same) (dp_rows (hR6.same sq)), shaped_rows rs, shaped_rows rs, ?_⟩
      rw [PyData.eqv, eqv_rows, decide_eq_true rfl]
      refine ⟨true, rfl, ?_⟩
      refine iteT ?_
      refine ⟨_, rfl, x, C, dx, _, _, rfl, s7 _ _ hx, M.cl, M.nT, mf_tells _ _ _ _, _, rfl, p, _, rfl, gTells (s7 _ _ hp), l, _, rfl, .inl ⟨SqL.of (s7 _ _ hl), fun q2 hq2 => ?_⟩⟩
      have sq2 := same_upd (o := .tup (ss.map V.str)) hq2
      refine ⟨_, _, .tup (SqT.of (sq2 _ _ (s7 _ _ hlx))) (dp_strs ss), .tup (SqT.of upd_same) (dp_strs ss), shaped_strs os, shaped_strs os, ?_⟩
      rw [PyData.eqv, eqv_strs, decide_eq_true rfl]
      exact k _ (s7.trans sq2)
end
end K1
set_option Elab.async false
set_option linter.all false
set_option maxRecDepth 100000
/-! the end of a law whose defs make lambdas: the tables of all defs -/
namespace K1
open PySem PySem.Spec PyProof.Rows L2 LamX
/-- the code object of each def of the text and its table, still empty -/
def OwnTabs (q : Program) (mg : Str → Option Value) (h : Heap) : Prop :=
  ∀ e ∈ recsOf q, ∃ (f : Addr) (o : Obj) (fd : FuncData) (c P : Addr), mg e.name = some (.ref f) ∧ h.get? f = some o ∧ o.data = .func fd ∧ fd.code = .ref c ∧ PySem.W.CodeHd h c P ∧ h.get? P = some { cls := .none, data := .fields #[] }
theorem tab_at {q : Program} {mg : Str → Option Value} {K : PySem.W.Frag} {h : Heap} {x : Str} {f c P : Addr} {oc e : Value} {od dd : Option Addr} {fd : FuncData} {sl s2 : Array (Option Value)} {vs : Array Value} (X : K.In h) (O : OwnTabs q mg h) (hx : ((recsOf q).any fun e => e.name == x) = true)
    (g : mg x = some (.ref f)) (l : K.lookup f = some ⟨oc, od, .func fd, sl⟩) (hc : fd.code = .ref c) (lc : K.lookup c = some ⟨e, dd, .fields vs, s2⟩) (h11 : vs[11]? = some (.ref P)) : PySem.W.CodeHd h c P ∧ h.get? P = some { cls := .none, data := .fields #[] } := by
  obtain ⟨r, hr, er⟩ := List.any_eq_true.mp hx
  obtain ⟨f', o, fd', c', P', a1, a2, a3, a4, a5, a6⟩ := O r hr
  rw [beq_iff_eq.mp er, g] at a1
  cases a1
  rw [X _ _ l] at a2
  cases a2
  cases a3
  rw [hc] at a4
  cases a4
  obtain ⟨o, ws, _, _, _, _, _, _, _, b1, _, b3, b4, _⟩ := id a5
  rw [X _ _ lc] at b1
  cases b1
  cases b3
  rw [h11] at b4
  cases b4
  exact ⟨a5, a6⟩
theorem walk_tabs {l : PySem.W.OpenLaw} {n k : Nat} {q : Program} {loose : List Str} {XP : (Str → Option Value) → Heap → Prop} {YP : World → Heap → Prop} {d : DefRec} {K : Params → PySem.W.Frag} {CX : World → CXT} {x : Str}
    (hn : l.most = some n) (hs : n ≤ sizeLine) (hd : d.params.defaults = []) (hr : Room k callerA) (hY : ∀ (w : World) (h : Heap), YP w h → (K w.params).In h)
    (F : ∀ (w : World) (mg : Str → Option Value) (fa : Addr) (h : Heap), YP w h → (K w.params).In h → h.Ns mainGlobals mg → mg d.name = some (.ref fa) → OwnTabs q mg h → LawAtS l w (K w.params) (CX w) k n x mg fa h)
    (hC : ∀ (w : World) (H : Hp) (s : Shared) (e : Value) (s' : Shared), CX w [] H s (fun _ _ _ => False) e s' → False) :
    PySem.W.WalkO q loose XP YP l.row.toRowW d [] (fun f vs => PySem.call f vs) := by
  refine Att.attach_callB hn hd ?_
  intro w s₀ s₁ mg mb fa o pm cd doc a vs ns G Y ho hdt hcd hmg hobj hints hlen hbits hg
  have tabs : OwnTabs q mg s₁.heap := fun e he => by
    obtain ⟨f, o, fd, c, P, b1, b2, b3, b4, b5, b6⟩ := G.T.tab e he
    exact ⟨f, o, fd, c, P, b1, b2, b3, b4, PySem.W.CodeHd.of b5 b6, b6.2⟩
  obtain ⟨fd, cs, sp, t1, t2, t3, b, s, f⟩ := F w mg fa _ Y (hY w _ Y) G.T.g hmg tabs
  exact law_callTs (hY w _ Y) G.T.g G.T.b G.T.builtins G.T.nolimit hg t1 t2 t3 G.T.bmain hobj hints (Nat.le_trans hlen hs) hr f b (fun H hH hS => s H a ns hlen hbits hH hS) fun H e s' => hC w H s₁ e s'
theorem exm_of {K : PySem.W.Frag} {S N : Addr} {b : Bool} (h1 : PySem.W.subIn K (.ref N) (.type "BaseException") = some true) (h2 : PySem.W.isClsIn K N = true) (h3 : PySem.W.typeIn K (.ref N) = some (.type "type")) (h4 : PySem.W.subIn K (.ref S) (.ref N) = some b) :
    PySem.W.exmOne K (.ref S) (.ref N) = some b := by
  have e1 : (PySem.W.subIn K (.ref N) (.type "BaseException") == some true) = true := by rw [h1] <;> rfl
  have e2 : ((PySem.W.clsIn K N).isSome && PySem.W.typeIn K (.ref N) == some (.type "type")) = true := by
    have h2' : (PySem.W.clsIn K N).isSome = true := h2
    rw [h2', h3] <;> rfl
  show (if (PySem.W.subIn K (.ref N) (.type "BaseException") == some true) = true then (if ((PySem.W.clsIn K N).isSome && PySem.W.typeIn K (.ref N) == some (.type "type")) = true then PySem.W.subIn K (.ref S) (.ref N) else none) else none) = some b
  rw [if_pos e1, if_pos e2]
  exact h4
end K1
set_option Elab.async false
set_option linter.all false
set_option maxRecDepth 100000
set_option maxHeartbeats 1000000
/-! _law_is_told -/
namespace K1
open PySem L2 LamX
abbrev sIsTold : Stmt := top 53
abbrev qTold : Str := "_law_is_told.<locals>.<lambda>"
theorem MachAt.kn {K : PySem.W.Frag} {C d : Addr} {kv : List (Key × V)} {H H' : Hp} {x : Addr} {ws : List Str} {rs : List (List Int)} {ss : List Str} {st : Int} (h : MachAt K C H x ws rs ss st) (hd : H d = some (.dK kv)) (k : KeptN d H H') : MachAt K C H' x ws rs ss st := by
  obtain ⟨dx, t2, r2, l2, as2, f1, ⟨ob, f2, f2'⟩, f3, f4, f5⟩ := h
  have ne : ∀ {a : Addr} {u : HO}, H a = some u → (∀ kv, u ≠ .dK kv) → a ≠ d := fun e n z => by rw [z, hd] at e; cases e; exact n _ rfl
  have kt : ∀ {a : Addr} {u : HO}, H a = some u → (∀ kv, u ≠ .dK kv) → (∀ ps, u ≠ .tbl ps) → H' a = some u := fun h n m => k _ _ h (ne h n) m
  exact ⟨dx, t2, r2, l2, as2, kt f1 (fun _ z => by cases z) (fun _ z => by cases z), ⟨ob, kt f2 (fun _ z => by cases z) (fun _ z => by cases z), f2'⟩, kt f3 (fun _ z => by cases z) (fun _ z => by cases z), ⟨f4.1, fun i a r g1 g2 => kt (f4.2 i a r g1 g2) (fun _ z => by cases z) (fun _ z => by cases z)⟩, kt f5 (fun _ z => by cases z) (fun _ z => by cases z)⟩
theorem PlainAt.kn {d : Addr} {kv : List (Key × V)} {H H' : Hp} {p : Addr} {ws : List Str} {rs : List (List Int)} {ss : List Str} {st : Int} (h : PlainAt H p ws rs ss st) (hd : H d = some (.dK kv)) (n : p ≠ d) (k : KeptN d H H') : PlainAt H' p ws rs ss st := by
  obtain ⟨t, r, l, as, e1, ⟨ob, e2, e2'⟩, e3, e4, e5⟩ := h
  have ne : ∀ {a : Addr} {xs : List V}, H a = some (.lst xs) → a ≠ d := fun e => ne_of e hd (by intro z; cases z)
  exact ⟨t, r, l, as, k _ _ e1 n (fun _ z => by cases z), ⟨ob, k _ _ e2 (ne_of e2 hd (by intro z; cases z)) (fun _ z => by cases z), e2'⟩, k.lst (ne e3) e3, k.lst (ne e4) e4, e5.1, fun i a q f1 f2 => k.lst (ne (e5.2 i a q f1 f2)) (e5.2 i a q f1 f2)⟩
/-- what a table may hold -/
def PL : List V := [.str "x", .str "y/1", .str "0", .str (repZ "w" 60), .str "x", .str "", .str "A", .str (repZ "w" 61), .non]
def BL : List V := [.str "", .str "A", .str (repZ "w" 61), .non]
theorem PL_vt : ∀ v ∈ PL, Vt v := by
  intro v hv
  simp only [PL, List.mem_cons, List.not_mem_nil, or_false] at hv
  rcases hv with rfl | rfl | rfl | rfl | rfl | rfl | rfl | rfl | rfl
  · exact .inr ⟨_, rfl, by decide +kernel⟩
  · exact .inr ⟨_, rfl, by decide +kernel⟩
  · exact .inr ⟨_, rfl, by decide +kernel⟩
  · exact .inr ⟨_, rfl, by decide +kernel⟩
  · exact .inr ⟨_, rfl, by decide +kernel⟩
  · exact .inr ⟨_, rfl, by decide +kernel⟩
  · exact .inr ⟨_, rfl, by decide +kernel⟩
  · exact .inr ⟨_, rfl, by decide +kernel⟩
  · exact .inl rfl
theorem PL_flat : ∀ v ∈ PL, flatV v = true := by
  intro v hv
  simp only [PL, List.mem_cons, List.not_mem_nil, or_false] at hv
  rcases hv with rfl | rfl | rfl | rfl | rfl | rfl | rfl | rfl | rfl <;> rfl
theorem PL_bad : ∀ v ∈ PL, inV v BL = !(tellB v) := by
  intro v hv
  simp only [PL, List.mem_cons, List.not_mem_nil, or_false] at hv
  rcases hv with rfl | rfl | rfl | rfl | rfl | rfl | rfl | rfl | rfl <;> decide +kernel
theorem strs_of : ∀ {vs : List V}, (∀ v ∈ vs, tellB v = true) → ∃ zs : List Str, vs = zs.map V.str ∧ ∀ z ∈ zs, Tl z
  | [], _ => ⟨[], rfl, fun z h => nomatch h⟩
  | v :: r, h => by
    obtain ⟨zs, e, hz⟩ := strs_of (vs := r) fun v hv => h v (List.mem_cons_of_mem _ hv)
    have h1 := h v (List.mem_cons_self ..)
    cases v with
    | str z =>
      refine ⟨z :: zs, by rw [e]; rfl, fun y hy => ?_⟩
      rcases List.mem_cons.mp hy with rfl | hy
      · have h2 : tellL y.cps.toList = true := h1
        unfold tellL at h2
        simp only [Bool.and_eq_true, decide_eq_true_eq, List.all_eq_true] at h2
        exact h2
      · exact hz y hy
    | _ => cases h1
theorem plainK_l {t r l t' r' l' : Addr} {s s' : Int} (h : some (HO.dK (plainK t r l s)) = some (HO.dK (plainK t' r' l' s'))) : l = l' := by
  injection h with h; injection h with h
  have h1 := pk_tells t r l s
  rw [h, pk_tells] at h1
  injection h1 with h1; injection h1 with h1
  exact h1.symm
theorem due3 (t r l : Addr) (s : Int) : putK (mergeK [] [(kDeeds, .ref t), (kRows, .ref r), (kTells, .ref l)]) kStart (.int s) = plainK t r l s := plainK_merge t r l s
theorem merge3_len (t r l : Addr) : (mergeK [] [(kDeeds, V.ref t), (kRows, .ref r), (kTells, .ref l)]).length ≤ 3 := by
  show (putK (putK (putK [] kDeeds (V.ref t)) kRows (.ref r)) kTells (.ref l)).length ≤ 3
  have h1 := length_putK (putK (putK [] kDeeds (V.ref t)) kRows (.ref r)) kTells (.ref l)
  have h2 := length_putK (putK [] kDeeds (V.ref t)) kRows (.ref r)
  have h3 := length_putK ([] : List (Key × V)) kDeeds (V.ref t)
  have h4 : ([] : List (Key × V)).length = 0 := rfl
  omega
def spIsTold (K : PySem.W.Frag) (C : Addr) (T : List (Addr × Str)) : Sp := fun vs H Q _ => ∃ (d c x p : Addr) (n : Nat) (ws : List Str) (rs : List (List Int)) (ss : List Str) (st : Int), vs = [.ref d, .ref x, .ref p] ∧ PenAt H d c n ∧ n ≤ 700000 ∧ MachAt K C H x ws rs ss st ∧ PlainAt H p ws rs ss st ∧ p ≠ d ∧
  Parts ws rs ss st ∧ OkS ws ∧ Tabs T H ∧ ∀ H', PenAt H' d c (n + 300) → KeptN d H H' → Tabs T H' → Q (.bl true) H'
section
variable {P : Program} {w : World} {K : PySem.W.Frag} {mg : Str → Option Value} {base : Heap}
abbrev pIsTold : List Str := ["_law_pen_here", "_law_made_here", "_law_plain_here"]
abbrev nIsTold : List Str := ["_law_pen_here", "_law_made_here", "_law_plain_here", "_law_table", "_law_tells", "_law_tell", "_law_lost", "_law_wrong", "_law_k", "_law_due"]
theorem scIsTold : FnScope nIsTold pIsTold (defScope sIsTold) := ⟨rfl, rfl, rfl, by decide +kernel, rfl, by decide +kernel, by decide +kernel⟩
theorem ok_istold {C f fD fP fS fI fF fTl fO fT fN fB cc pT : Addr} {cs : Cs} {fd fdD fdP fdS fdI fdF fdTl fdO fdT fdN fdB : FuncData} {T : List (Addr × Str)} (F : FunC K "_law_is_told" "_law_is_told" sIsTold f fd cc) (DD : Df K mg "_law_draw" sDraw pDraw fD fdD) (DP : Df K mg "_law_pick" sPick pPick fP fdP)
    (DS : Df K mg "_law_shuffled" sShufL pShuf fS fdS) (DI : Df K mg "_law_is_machine" sIsM pIsM fI fdI) (GI : FnOk P w K mg base CX0 3 fI fdI pIsM (spIsM K C)) (DF : Df K mg "_law_refused" sRefE pRefE fF fdF) (M : Tm K mg C) (T2 : Bt2 mg)
    (MT : Meth K C "telling" fTl) (bT : Binds K fdTl pTelling []) (GT : FnOk P w K mg base (L2.CX P w) 8 fTl fdTl pTelling (spTelling K C cs.CN cs.CB))
    (OO : OOtherDeeds K mg cs.CO fO fdO) (OT : OTooMany K mg cs.CT fT fdT) (ON : ONoEntry K mg cs.CN fN fdN) (OB : OBadTell K mg cs.CB fB fdB) (hL : mg "LooksError" = some (.ref cs.CL)) (EE : Ee K cs)
    (B : TabB base mg cc pT) (mem : (pT, qTold) ∈ T) (uni : ∀ p ∈ T, p.1 = pT → p.2 = qTold) : FnOk P w K mg base CX0 11 f fd pIsTold (spIsTold K C T) := by
  have TB : Bt mg := T2.toBt
  have GD : FnOk P w K mg base CX0 1 fD fdD pDraw spDraw := ok_draw DD.F TB
  have GP : FnOk P w K mg base CX0 2 fP fdP pPick (spPickL K) := ok_pickL DP DD TB
  have GS : FnOk P w K mg base CX0 2 fS fdS pShuf (spShufL K) := ok_shufL DS DD TB
  refine F.ok scIsTold (fun vs H Q E h => ?_) (fun A outer s H vs Q E hr h => ?_)
  · obtain ⟨d, c, x, p, n, ws, rs, ss, st, rfl, _⟩ := h
    rfl
  · obtain ⟨d, c, x, p, n, ws, rs, ss, st, rfl, hp, hn, mx, pl, npd, pt, ow, hT, k⟩ := h
    have hu := hu_of hr
    have hr1 : Room 1 _ := hr.mono (by decide)
    have hr2 : Room 2 _ := hr.mono (by decide)
    have hr3 : Room 3 _ := hr.mono (by decide)
    have hr8 : Room 8 _ := hr.mono (by decide)
    refine ⟨_, pss_cons (ps_asg (pe_tup (pa_cons pe_dnewK (pa_cons (pe_dget hu (pv 2) pe_str (fun _ _ => rfl)) pa_nil))) (pg_tup (by rfl) (pgs_cons (pg_name (i := 3) scIsTold.nd rfl (Or.inr rfl)) (pgs_cons (pg_name (i := 4) scIsTold.nd rfl (Or.inr rfl)) pgs_nil))))
      (pss_cons (ps_for PassesOwn.never rfl (pi_list (pe_call GS hr2 rfl DS.g DS.F.kp DS.b .nil pass0 (pa_cons (pv 0) (pa_cons (pe_op op_cat (pv 4) (pe_lst (pa_cons pe_str pa_nil))) pa_nil)))) (pg_name (i := 5) scIsTold.nd rfl (Or.inl rfl))
        (pss_one (ps_if (pt_cmpR op_gt (pe_call GD hr1 rfl DD.g DD.F.kp DD.b .nil pass0 (pa_cons (pv 0) (pa_cons pe_int pa_nil))) pe_int (nomark _))
          (pss_one (ps_dput hu (pv 3) (pv 5) (pe_call GP hr2 rfl DP.g DP.F.kp DP.b .nil pass0 (pa_cons (pv 0) (pa_cons (pe_lst (pa_cons pe_str (pa_cons pe_str (pa_cons pe_str (pa_cons (pe_op op_repStr pe_str pe_int) (pa_cons pe_str (pa_cons pe_str (pa_cons pe_str (pa_cons (pe_op op_repStr pe_str pe_int) (pa_cons pe_non pa_nil)))))))))) pa_nil))) rfl)) pss_nil)))
      (pss_cons (ps_setLc (i := 6) (own := [("_law_tell", 5)]) (g := gName 5) (by rfl) scIsTold.nd rfl rfl (sw_true rfl rfl rfl (by decide +kernel)) (pi_list (pv 4))
          (blkOk_by (own := [("_law_tell", 5)]) (N := nIsTold) (sc := defScope sIsTold) (by decide +kernel)) (fun _ _ _ _ _ => pg_name (i := 5) scIsTold.nd rfl (Or.inl rfl)) (fun _ _ _ _ _ => pts_one (pt_cmp (pc_dnotin hu (pv 5) (pv 3))))
          (fun _ _ _ _ _ => pv 5))
      (pss_cons (ps_if (pt_cmpR (op_neD hr.units) (pv 6) (pe_lst pa_nil) (nomark _))
        (pss_one (ps_ret (pe_cmpR (op_eqD hr.units) (pe_lamS (T := T) (k := 8) DF scRefE rfl (Or.inl rfl) rfl (fun gcd => gives_refE OO OT ON OB hL) B rfl mem uni hr (lamS_by (by show lamSB (defScope sIsTold) _ = true; decide +kernel))
          (fun A outer s2 H2 E f c' hr8 => pe_meth (pv 1) M.cl MT GT hr8 bT .nil (passes_call (takes_of rfl rfl rfl rfl) fun _ _ _ _ h => h) (pa_cons (pv 3) pa_nil))) (pe_tup (pa_cons pe_str (pa_cons (pe_ix (r := rIxL K) ix_list (pv 6) pe_int (fun _ _ => rfl)) pa_nil))) (nomark _)))) pss_nil)
      (pss_cons (ps_setLc (i := 7) (own := [("_law_k", 8)]) (g := gName 8) (by rfl) scIsTold.nd rfl rfl (sw_true rfl rfl rfl (by decide +kernel)) (pi_range1 rfl T2.range (pa_cons (pe_callB call_len (by rfl) T2.len PySem.boot_len (pa_cons (pv 4) pa_nil)) pa_nil))
          (blkOk_by (own := [("_law_k", 8)]) (N := nIsTold) (sc := defScope sIsTold) (by decide +kernel)) (fun _ _ _ _ _ => pg_name (i := 8) scIsTold.nd rfl (Or.inl rfl)) (fun _ _ _ _ _ => pts_one (pt_cmpR (r := rIn K false) op_in_seq (pe_dget hu (pv 3) (pe_ix (r := rIxL K) ix_list (pv 4) (pv 8) (fun _ _ => rfl)) (fun _ _ => rfl))
            (pe_tup (pa_cons pe_str (pa_cons pe_str (pa_cons (pe_op op_repStr pe_str pe_int) (pa_cons pe_non pa_nil))))) (by rfl)))
          (fun _ _ _ _ _ => pv 8))
      (pss_cons (ps_if (pt_cmpR (op_neD hr.units) (pv 7) (pe_lst pa_nil) (nomark _))
        (pss_one (ps_ret (pe_cmpR (op_eqD hr.units) (pe_lamS (T := T) (k := 8) DF scRefE rfl (Or.inl rfl) rfl (fun gcd => gives_refE OO OT ON OB hL) B rfl mem uni hr (lamS_by (by show lamSB (defScope sIsTold) _ = true; decide +kernel))
          (fun A outer s2 H2 E f c' hr8 => pe_meth (pv 1) M.cl MT GT hr8 bT .nil (passes_call (takes_of rfl rfl rfl rfl) fun _ _ _ _ h => h) (pa_cons (pv 3) pa_nil))) (pe_tup (pa_cons pe_str (pa_cons (pe_ix (r := rIxL K) ix_list (pv 7) pe_int (fun _ _ => rfl)) pa_nil))) (nomark _)))) pss_nil)
      (pss_cons (ps_set (i := 9) scIsTold.nd rfl (Or.inl rfl) (pe_disp (pps_cons pe_str (pe_dget hu (pv 2) pe_str (fun _ _ => rfl)) (pps_cons pe_str (pe_dget hu (pv 2) pe_str (fun _ _ => rfl)) (pps_cons pe_str (pe_lc (own := [("_law_tell", 5)]) (g := gName 5) (by rfl) scIsTold.nd (pi_list (pv 4))
            (blkOk_by (own := [("_law_tell", 5)]) (N := nIsTold) (sc := defScope sIsTold) (by decide +kernel)) (fun _ _ _ _ _ => pg_name (i := 5) scIsTold.nd rfl (Or.inl rfl)) (fun _ _ _ _ _ => pts_nil)
            (fun _ _ _ _ _ => pe_dget hu (pv 3) (pv 5) (fun _ _ => rfl))) pps_nil))) (by rfl) (by rfl) (fun z => by cases z) (by decide)))
      (pss_cons (ps_dput hu (pv 9) pe_str (pe_dget hu (pv 2) pe_str (fun _ _ => rfl)) rfl)
      (pss_one (ps_ret (pe_and (pe_call GI hr3 rfl DI.g DI.F.kp DI.b .nil pass0 (pa_cons (pe_meth (CX := L2.CX P w) (pv 1) M.cl MT GT hr8 bT .nil passL (pa_cons (pv 3) pa_nil)) (pa_cons (pv 9) pa_nil)))
        (pe_one (pe_call GI hr3 rfl DI.g DI.F.kp DI.b .nil pass0 (pa_cons (pv 1) (pa_cons (pv 2) pa_nil)))))))))))))), ?_⟩
    obtain ⟨kv0, hd0⟩ := hp.dk
    obtain ⟨t0, r0, l, rl, ep, et, er, el, hR⟩ := id pl
    have hsl := pt.tl.1
    have h60 := pt.many.2
    have nld : l ≠ d := ne_of el hd0 (by intro z; cases z)
    have os := ok_tl pt.tl.2
    -- table, tells
    intro t ht
    have s1 := same_upd (o := .dK []) ht
    have et1 : upd H t (.dK []) t = some (.dK []) := upd_same
    have ntd := (hp.ne ht).1
    have ntc := (hp.ne ht).2
    generalize upd H t (.dK []) = H1 at s1 et1 ⊢
    refine ⟨_, rfl, p, _, rfl, gTells (s1 _ _ ep), Nat.le_of_ble_eq_true rfl, fun tp htp => ?_⟩
    have s2 := same_upd (o := .tup [V.ref t, V.ref l]) htp
    have ep2 : upd H1 tp (.tup [V.ref t, V.ref l]) tp = some (.tup [V.ref t, V.ref l]) := upd_same
    generalize upd H1 tp (.tup [V.ref t, V.ref l]) = H2 at s2 ep2 ⊢
    refine ⟨tp, _, rfl, SqT.of ep2, rfl, _, _, rfl, _, _, rfl, rfl, ?_⟩
    dsimp only
    have s02 := s1.trans s2
    refine ⟨_, rfl, _, rfl, Nat.le_of_ble_eq_true rfl, fun q hq => ⟨l, q, ss.map V.str, [V.str "more"], rfl, rfl, (same_upd hq) _ _ (s02 _ _ el), upd_same, by rw [List.length_map, sizeLine_eq]; show ss.length + 1 ≤ _; omega, fun r hr => ?_⟩⟩
    have s3 := same_upd (o := .lst [V.str "more"]) hq
    generalize upd H2 q (.lst [V.str "more"]) = H3 at s3 hr ⊢
    have s4 := same_upd (o := .lst (ss.map V.str ++ [V.str "more"])) hr
    have er4 : upd H3 r (.lst (ss.map V.str ++ [V.str "more"])) r = some (.lst ((ss ++ [("more" : Str)]).map V.str)) := by rw [upd_same, List.map_append]; rfl
    generalize upd H3 r (.lst (ss.map V.str ++ [V.str "more"])) = H4 at s4 er4 ⊢
    have s04 := s02.trans (s3.trans s4)
    have zr : H r = none := (s02.trans s3).free hr
    have et4 := s4 _ _ (s3 _ _ (s2 _ _ et1))
    refine ⟨d, c, r, n, ss ++ [("more" : Str)], rfl, hp.same s04, by omega, (hp.ne zr).1, SqL.of er4, by rw [List.length_append]; show ss.length + 1 ≤ _; omega, fun q2 ys H5 hperm hq2 e5 p5 k5 => ?_⟩
    have hyl : ys.length = ss.length + 1 := by rw [hperm.length_eq, List.length_append]; rfl
    have k05 : Kept d H H5 := (Kept.same s04).trans k5
    have et5 := k5 _ _ et4 ntd
    have nq2d : q2 ≠ d := ((hp.same s04).ne hq2).1
    have nq2t : q2 ≠ t := (ne_of_none et4 hq2).symm
    replace p5 := p5.mono (m := n + 61) (by rw [List.length_append]; show n + (ss.length + 1) ≤ _; omega)
    clear s3 s4 er4 hperm k5 ep2
    refine ⟨q2, rfl, ⟨_, SqL.of e5⟩, for_list (K := K) (a := q2) (xs := ys.map V.str) (fun i σ H' => ∃ (kvs : List (Key × V)) (v5 : Option V), σ = [some (.ref d), some (.ref x), some (.ref p), some (.ref t), some (.ref l), v5, none, none, none, none] ∧ PenAt H' d c (n + 61 + 2 * i) ∧
      (∀ b o, b ≠ d → b ≠ t → H5 b = some o → H' b = some o) ∧ H' t = some (.dK kvs) ∧ kvs.length ≤ i ∧ ∀ z v, valV kvs (Sum.inr z) = some v → v ∈ PL) ?_ ?_ ?_ ?_⟩
    · exact ⟨[], none, rfl, p5, fun b o _ _ e => e, et5, Nat.le_refl _, fun z v e => by cases e⟩
    · rintro i σ H' _ ⟨kvs, v5, rfl, _, kx, _⟩
      exact SqL.of (kx _ _ nq2d nq2t e5)
    · rintro i yv σ H6 hi ⟨kvs, v5, rfl, p6, kx, ht6, hkl, hkv⟩
      have hi61 : i < ys.length := by have := (List.getElem?_eq_some_iff.mp hi).1; rwa [List.length_map] at this
      rw [List.getElem?_map] at hi
      obtain ⟨z, ez, rfl⟩ := Option.map_eq_some_iff.mp hi
      refine ⟨_, rfl, d, c, _, 8, rfl, p6, by omega, by decide, by decide, fun wy H7 w0 w1 p7 k7 => ⟨_, _, rfl, rfl, _, rfl, ?_⟩⟩
      have ht7 := k7 _ _ ht6 ntd
      have kx7 : ∀ b o, b ≠ d → b ≠ t → H5 b = some o → H7 b = some o := fun b o n1 n2 e => k7 _ _ (kx b o n1 n2 e) n1
      refine ite2 (fun _ => ?_) (fun _ => ?_)
      · refine ⟨_, rfl, "w", 60, rfl, rfl, rfl, by decide, by decide, "w", 61, rfl, rfl, rfl, by decide, by decide, Nat.le_of_ble_eq_true rfl, fun q3 hq3 => ?_⟩
        have s8 := same_upd (o := .lst PL) hq3
        have e8 : upd H7 q3 (.lst PL) q3 = some (.lst PL) := upd_same
        refine ⟨d, c, q3, _, PL, rfl, p7.same s8, by omega, (p7.ne hq3).1, SqL.of e8, by decide, by decide, fun v H9 hv p9 k9 => ?_⟩
        have ht9 := k9 _ _ (s8 _ _ ht7) ntd
        refine ⟨_, rfl, _, rfl, t, _, rfl, DPut.k (k := Sum.inr z) ht9 (by rw [sizeLine_eq]; omega), ?_⟩
        refine ⟨_, _, rfl, (p9.upd ntd ntc).mono (by omega), fun b o n1 n2 e => by rw [upd_ne n2]; exact k9 _ _ (s8 _ _ (kx7 b o n1 n2 e)) n1, upd_same, Nat.le_trans (length_putK _ _ _) (by omega), fun z' v' e => ?_⟩
        rw [valV_put] at e
        by_cases h : (Sum.inr z' : Key) = Sum.inr z
        · rw [if_pos h] at e; cases e; exact hv
        · rw [if_neg h] at e; exact hkv z' v' e
      · exact ⟨kvs, _, rfl, p7.mono (by omega), kx7, ht7, by omega, hkv⟩
    · rintro σ H6 ⟨kvs, v5, rfl, p6, kx, ht6, hkl, hkv⟩
      rw [List.length_map] at p6 hkl
      have k06 : Kept d H H6 := fun b o e nb => kx b o nb (ne_of_none e ht) (k05 b o e nb)
      have el6 := k06 _ _ el nld
      replace p6 := p6.mono (m := n + 200) (by omega)
      have hT6 := hT.pen hp k06
      clear kx e5 et5 k05 p5
      -- lost
      refine ⟨_, rfl, l, rfl, ⟨_, SqL.of el6⟩, fun D hD => ?_⟩
      refine lc_list (K := K) (a := l) (xs := ss.map V.str) (fun i H' => Same H6 H' ∧ H' D = some (.lst (((ss.take i).filter fun z => (valV kvs (Sum.inr z)).isNone).map V.str))) ?_ ?_ ?_ ?_
      · exact ⟨same_upd hD, upd_same⟩
      · exact fun i H' _ q => SqL.of (q.1 _ _ el6)
      · rintro i yv H7 hi ⟨s7, hD7⟩
        rw [List.getElem?_map] at hi
        obtain ⟨z, ez, rfl⟩ := Option.map_eq_some_iff.mp hi
        have etk : ss.take (i + 1) = ss.take i ++ [z] := by rw [List.take_add_one, ez]; rfl
        refine ⟨rfl, _, rfl, _, rfl, t, _, rfl, DGet.k (k := Sum.inr z) (s7 _ _ ht6), ?_⟩
        rw [etk, List.filter_append]
        cases hv : valV kvs (Sum.inr z) with
        | none =>
          refine ⟨_, rfl, ?_⟩
          refine iteT ?_
          refine ⟨_, rfl, _, hD7, ?_, fun b' o e => by rw [upd_ne (ne_of_none e hD)]; exact s7 b' o e, ?_⟩
          · rw [List.length_map, sizeLine_eq]
            have h1 := List.length_filter_le (fun z => (valV kvs (Sum.inr z)).isNone) (ss.take i)
            rw [List.length_take] at h1; omega
          · rw [upd_same, List.map_append, List.filter_cons, hv]; rfl
        | some v =>
          refine ⟨_, rfl, ?_⟩
          refine iteF ?_
          refine ⟨s7, ?_⟩
          rw [hD7, List.filter_cons, hv]
          simp
      · rintro H7 ⟨s7, hD7⟩
        rw [List.length_map, List.take_length] at hD7
        have k07 : Kept d H H7 := k06.trans (.same s7)
        have p7 := p6.same s7
        have hT7 := hT6.same s7
        have ht7 := s7 _ _ ht6
        have el7 := s7 _ _ el6
        generalize hlost : (ss.filter fun z => (valV kvs (Sum.inr z)).isNone) = lost at hD7
        have hlost' : lostT kvs ss = lost.head? := by rw [← hlost, List.head?_filter]; rfl
        have olost : OkS lost := fun z hz => os z (by rw [← hlost] at hz; exact (List.mem_filter.mp hz).1)
        clear k06 p6 hT6 s7 ht6 el6 hD
        refine ⟨_, rfl, Nat.le_of_ble_eq_true rfl, fun q hq => ?_⟩
        have s8 := same_upd (o := .lst []) hq
        have eq8 : upd H7 q (.lst []) q = some (.lst []) := upd_same
        have hD8 := s8 _ _ hD7
        have k08 : Kept d H (upd H7 q (.lst [])) := k07.trans (.same s8)
        have p8 := p7.same s8
        have hT8 := hT7.same s8
        have ht8 := s8 _ _ ht7
        have el8 := s8 _ _ el7
        generalize upd H7 q (.lst []) = H8 at eq8 hD8 k08 p8 hT8 ht8 el8 ⊢
        clear k07 p7 hT7 ht7 el7 hD7 s8 hq
        have mx8 := mx.kd hd0 k08
        have pl8 := pl.kd hd0 npd k08
        obtain ⟨kv8, hd8⟩ := p8.dk
        refine ⟨_, _, .lst (SqL.of hD8) (dp_strs lost), .lst (SqL.of eq8) .nil, shaped_of (by rw [PyData.canLay0, canLay_strs _ olost]) (by rw [PyData.depth]; have := depth_strs lost; omega), shaped_of (by decide) (by decide), _, rfl, ?_⟩
        cases hl0 : lost with
        | cons z0 rest =>
          rw [hl0] at hD8 hlost'
          refine iteT ?_
          refine ⟨hT8, fun H9 e9 T9 f9 => ?_⟩
          have mx9 := mx8.kn hd8 e9.n
          obtain ⟨dx9, t9, r9, l9, as9, hx9, _⟩ := id mx9
          have ht9 := e9.dk ht8
          refine ⟨_, rfl, x, dx9, _, rfl, hx9, mf_no _ _ _ _ (by decide +kernel) (by decide +kernel) (by decide +kernel) (by decide +kernel), _, rfl, x, t, ws, rs, ss, st, kvs, rfl, mx9, pt, ht9, fun z _ v e => PL_vt v (hkv z v e), ?_⟩
          rw [hlost']
          refine rs_n EE (fun p1 G s10 z1 g1 => ?_) f9
          have hD10 := s10 _ _ (e9.lst hD8)
          refine ⟨_, rfl, D, _, 0, _, rfl, rfl, SqL.of hD10, atI_nat (j := 0) (v := V.str z0) rfl, Nat.le_of_ble_eq_true rfl, fun p2 hp2 => ?_⟩
          have s11 := same_upd (o := .tup [V.str "entry", V.str z0]) hp2
          have oz : PyData.strOk z0 = true := olost z0 (by rw [hl0]; exact List.mem_cons_self ..)
          refine ⟨_, _, .tup (SqT.of (s11 _ _ g1)) (.cons (.str _) (.cons (.str _) .nil)), .tup (SqT.of upd_same) (.cons (.str _) (.cons (.str _) .nil)), shaped_of (by simp [PyData.canLay0, PyData.canLayAll0, oz]; decide +kernel) (by simp [PyData.depth, PyData.depthAll]), shaped_of (by simp [PyData.canLay0, PyData.canLayAll0, oz]; decide +kernel) (by simp [PyData.depth, PyData.depthAll]), ?_⟩
          rw [PySem.SeqAt.eqv_refl _ (by simp [PyData.canLay0, PyData.canLayAll0, oz]; decide +kernel)]
          exact k _ ((((e9.pen p8).same s10).same s11).mono (by omega)) (((k08.n.trans e9.n).trans (Kept.same s10).n).trans (Kept.same s11).n) ((T9.same s10).same s11)
        | nil =>
          rw [hl0] at hlost'
          refine iteF ?_
          rw [hl0] at hD8
          have hall : ∀ z ∈ ss, ∃ v, valV kvs (Sum.inr z) = some v ∧ v ∈ PL := fun z hz => by
            cases hv : valV kvs (Sum.inr z) with
            | none =>
              have : z ∈ ss.filter fun z => (valV kvs (Sum.inr z)).isNone := List.mem_filter.mpr ⟨hz, by rw [hv]; rfl⟩
              rw [hlost, hl0] at this
              exact nomatch this
            | some v => exact ⟨v, rfl, hkv z v hv⟩
          have hvl : (valsT kvs ss).length = ss.length := List.length_map _
          have hvi : ∀ i z, ss[i]? = some z → ∃ v, valV kvs (Sum.inr z) = some v ∧ v ∈ PL ∧ (valsT kvs ss)[i]? = some v ∧ (valsT kvs ss).getD i .non = v := fun i z e => by
            obtain ⟨v, hv, hm⟩ := hall z (List.mem_of_getElem? e)
            have e2 : (valsT kvs ss)[i]? = some v := by unfold valsT; rw [List.getElem?_map, e]; show some ((valV kvs (Sum.inr z)).getD .non) = _; rw [hv]; rfl
            exact ⟨v, hv, hm, e2, by rw [List.getD_eq_getElem?_getD, e2]; rfl⟩
          -- wrong
          refine ⟨_, rfl, _, ss.length, rfl, .inl ⟨_, SqL.of el8, (List.length_map _).symm⟩, (ss.length : Int), rfl, by omega, by omega, fun D2 hD2 => ?_⟩
          rw [Int.toNat_natCast]
          refine lc_range (lo := 0) (n := ss.length) (fun i H' => Same H8 H' ∧ H' D2 = some (.lst ((((List.range i).filter fun k => !(tellB ((valsT kvs ss).getD k .non))).map fun (k : Nat) => (k : Int)).map V.int))) ?_ ?_ ?_
          · exact ⟨same_upd hD2, upd_same⟩
          · rintro i H9 hi ⟨s9, hD9⟩
            have ez : ss[i]? = some (ss.getD i "") := getD_get ("" : Str) hi
            obtain ⟨v, hv, hm, e1, e2⟩ := hvi i _ ez
            have eat : at_deed (ws := ss) (k := 0 + (i : Int)) (by omega) (by omega) = at_deed (ws := ss) (k := 0 + (i : Int)) (by omega) (by omega) := rfl
            have ei : (0 + (i : Int)).toNat = i := by omega
            have hat := at_deed (ws := ss) (k := 0 + (i : Int)) (by omega) (by omega)
            rw [ei] at hat
            refine ⟨rfl, _, rfl, _, rfl, _, rfl, l, _, _, _, rfl, rfl, SqL.of (s9 _ _ el8), hat, t, v, rfl, by rw [← hv]; exact DGet.k (k := Sum.inr (ss.getD i "")) (s9 _ _ ht8), "w", 61, rfl, rfl, rfl, by decide, by decide, Nat.le_of_ble_eq_true rfl, fun q hq => ?_⟩
            have s10 := same_upd (o := .tup BL) hq
            refine ⟨q, BL, rfl, .inr (SqT.of upd_same), PL_flat v hm, rfl, ?_⟩
            have eb : (if false = true then !inV v BL else inV v BL) = !(tellB v) := PL_bad v hm
            rw [eb]
            refine ⟨_, rfl, ?_⟩
            rw [List.range_succ, List.filter_append, List.filter_cons, e2]
            cases hw : tellB v with
            | false =>
              refine iteT ?_
              refine ⟨_, rfl, _, s10 _ _ hD9, ?_, fun b' o e => by rw [upd_ne (ne_of_none e hD2)]; exact s10 _ _ (s9 b' o e), ?_⟩
              · rw [List.length_map, List.length_map, sizeLine_eq]
                have h1 := List.length_filter_le (fun k => !(tellB ((valsT kvs ss).getD k .non))) (List.range i)
                rw [List.length_range] at h1; omega
              · rw [upd_same, List.map_append, List.map_append, Int.zero_add]; rfl
            | true =>
              refine iteF ?_
              refine ⟨s9.trans s10, ?_⟩
              refine Eq.trans (s10 _ _ hD9) ?_
              simp
          · rintro H9 ⟨s9, hD9⟩
            have hbt : badT (valsT kvs ss) = ((List.range ss.length).filter fun k => !(tellB ((valsT kvs ss).getD k .non))).head? := by
              rw [List.head?_filter]; unfold badT firstBad; rw [hvl]
            have hmemr : ∀ k ∈ (List.range ss.length).filter (fun k => !(tellB ((valsT kvs ss).getD k .non))), k < ss.length := fun k hk => List.mem_range.mp (List.mem_filter.mp hk).1
            have hnil : ((List.range ss.length).filter fun k => !(tellB ((valsT kvs ss).getD k .non))) = [] → ∀ k, k < ss.length → tellB ((valsT kvs ss).getD k .non) = true := fun h k hk => by
              have := List.filter_eq_nil_iff.mp h k (List.mem_range.mpr hk)
              simpa using this
            generalize ((List.range ss.length).filter fun k => !(tellB ((valsT kvs ss).getD k .non))) = wr at hD9 hbt hnil hmemr
            have k09 : Kept d H H9 := k08.trans (.same s9)
            have p9 := p8.same s9
            have hT9 := hT8.same s9
            have ht9 := s9 _ _ ht8
            have el9 := s9 _ _ el8
            have mx9 := mx8.same s9
            have pl9 := pl8.same s9
            clear k08 p8 hT8 ht8 el8 mx8 pl8 s9 hD8 eq8 hD2 hd8
            refine ⟨_, rfl, Nat.le_of_ble_eq_true rfl, fun q hq => ?_⟩
            have s10 := same_upd (o := .lst []) hq
            have eq10 : upd H9 q (.lst []) q = some (.lst []) := upd_same
            have hD10 := s10 _ _ hD9
            have k010 : Kept d H (upd H9 q (.lst [])) := k09.trans (.same s10)
            have p10 := p9.same s10
            have hT10 := hT9.same s10
            have ht10 := s10 _ _ ht9
            have el10 := s10 _ _ el9
            have mx10 := mx9.same s10
            have pl10 := pl9.same s10
            generalize upd H9 q (.lst []) = H10 at eq10 hD10 k010 p10 hT10 ht10 el10 mx10 pl10 ⊢
            clear k09 p9 hT9 ht9 el9 mx9 pl9 s10 hD9 hq
            obtain ⟨kv10, hd10⟩ := p10.dk
            refine ⟨_, _, .lst (SqL.of hD10) (dp_ints _), .lst (SqL.of eq10) .nil, shaped_ints _, shaped_of (by decide) (by decide), _, rfl, ?_⟩
            cases hw0 : wr with
            | cons k0 rest =>
              rw [hw0] at hD10 hbt
              refine iteT ?_
              refine ⟨hT10, fun H11 e11 T11 f11 => ?_⟩
              have mx11 := mx10.kn hd10 e11.n
              obtain ⟨dx11, t11, r11, l11, as11, hx11, _⟩ := id mx11
              refine ⟨_, rfl, x, dx11, _, rfl, hx11, mf_no _ _ _ _ (by decide +kernel) (by decide +kernel) (by decide +kernel) (by decide +kernel), _, rfl, x, t, ws, rs, ss, st, kvs, rfl, mx11, pt, e11.dk ht10, fun z _ v e => PL_vt v (hkv z v e), ?_⟩
              rw [hlost']
              show match badT (valsT kvs ss) with | some k => _ | none => _
              rw [hbt]
              refine rs_b EE (fun p1 G s12 z1 g1 => ?_) f11
              have hD12 := s12 _ _ (e11.lst hD10)
              refine ⟨_, rfl, D2, _, 0, _, rfl, rfl, SqL.of hD12, atI_nat (j := 0) (v := V.int (k0 : Int)) rfl, Nat.le_of_ble_eq_true rfl, fun p2 hp2 => ?_⟩
              have s13 := same_upd (o := .tup [V.str "tell", V.int (k0 : Int)]) hp2
              refine ⟨_, _, .tup (SqT.of (s13 _ _ g1)) (.cons (.str _) (.cons (.int _) .nil)), .tup (SqT.of upd_same) (.cons (.str _) (.cons (.int _) .nil)), shaped_of (by simp [PyData.canLay0, PyData.canLayAll0]; decide +kernel) (by simp [PyData.depth, PyData.depthAll]), shaped_of (by simp [PyData.canLay0, PyData.canLayAll0]; decide +kernel) (by simp [PyData.depth, PyData.depthAll]), ?_⟩
              rw [PySem.SeqAt.eqv_refl _ (by simp [PyData.canLay0, PyData.canLayAll0]; decide +kernel)]
              exact k _ ((((e11.pen p10).same s12).same s13).mono (by omega)) (((k010.n.trans e11.n).trans (Kept.same s12).n).trans (Kept.same s13).n) ((T11.same s12).same s13)
            | nil =>
              rw [hw0] at hbt
              refine iteF ?_
              obtain ⟨zs, ezs, hzt⟩ : ∃ zs : List Str, valsT kvs ss = zs.map V.str ∧ ∀ z ∈ zs, Tl z := by
                refine strs_of fun v hv => ?_
                obtain ⟨i, hi⟩ := List.getElem?_of_mem hv
                have hil : i < ss.length := by rw [← hvl]; exact (List.getElem?_eq_some_iff.mp hi).1
                have := hnil hw0 i hil
                rwa [List.getD_eq_getElem?_getD, hi] at this
              have hzl : zs.length = ss.length := by rw [← hvl, ezs, List.length_map]
              -- due
              obtain ⟨t1, r1, l1, rl1, ep1, etd, er1, el1, hR1⟩ := id pl10
              have ell : l1 = l := by
                have h1 := k010 _ _ ep npd
                rw [ep1] at h1
                exact plainK_l h1
              subst ell
              intro du hdu
              have s11 := same_upd (o := .dK []) hdu
              have ed11 : upd H10 du (.dK []) du = some (.dK []) := upd_same
              generalize upd H10 du (.dK []) = H11 at s11 ed11 ⊢
              refine ⟨_, rfl, p, _, rfl, gDeeds (s11 _ _ ep1), _, rfl, p, _, rfl, gRows (s11 _ _ ep1), _, rfl, l1, rfl, ⟨_, SqL.of (s11 _ _ el1)⟩, fun D3 hD3 => ?_⟩
              refine lc_list (K := K) (a := l1) (xs := ss.map V.str) (fun i H' => Same H11 H' ∧ H' D3 = some (.lst ((zs.take i).map V.str))) ?_ ?_ ?_ ?_
              · exact ⟨same_upd hD3, upd_same⟩
              · exact fun i H' _ q => SqL.of (q.1 _ _ (s11 _ _ el1))
              · rintro i yv H12 hi ⟨s12, hD12⟩
                rw [List.getElem?_map] at hi
                obtain ⟨z, ez, rfl⟩ := Option.map_eq_some_iff.mp hi
                obtain ⟨v, hv, hm, e1, e2⟩ := hvi i z ez
                rw [ezs, List.getElem?_map] at e1
                obtain ⟨y, ey, rfl⟩ := Option.map_eq_some_iff.mp e1
                have hil := (List.getElem?_eq_some_iff.mp ey).1
                refine ⟨rfl, _, rfl, _, rfl, t, V.str y, rfl, by rw [← hv]; exact DGet.k (k := Sum.inr z) (s12 _ _ (s11 _ _ ht10)), ?_⟩
                refine ⟨_, hD12, ?_, fun b' o e => by rw [upd_ne (ne_of_none e hD3)]; exact s12 b' o e, ?_⟩
                · rw [List.length_map, List.length_take, sizeLine_eq]; omega
                · rw [upd_same, List.take_add_one, ey, List.map_append]; rfl
              · rintro H12 ⟨s12, hD12⟩
                rw [List.length_map, ← hzl, List.take_length] at hD12
                refine ⟨s12 _ _ ed11, [(kDeeds, .ref t1), (kRows, .ref r1), (kTells, .ref D3)], rfl, by show 3 ≤ 15; decide, ?_⟩
                have s13 : Same H10 (upd H12 du (.dK (mergeK [] [(kDeeds, .ref t1), (kRows, .ref r1), (kTells, .ref D3)]))) := fun b o e => by rw [upd_ne (ne_of_none e hdu)]; exact s12 _ _ (s11 _ _ e)
                have ed13 : upd H12 du (.dK (mergeK [] [(kDeeds, .ref t1), (kRows, .ref r1), (kTells, .ref D3)])) du = some (.dK (mergeK [] [(kDeeds, .ref t1), (kRows, .ref r1), (kTells, .ref D3)])) := upd_same
                have hD13 : upd H12 du (.dK (mergeK [] [(kDeeds, .ref t1), (kRows, .ref r1), (kTells, .ref D3)])) D3 = some (.lst (zs.map V.str)) := by rw [upd_ne (ne_of_none ed11 hD3).symm]; exact hD12
                generalize upd H12 du (.dK (mergeK [] [(kDeeds, .ref t1), (kRows, .ref r1), (kTells, .ref D3)])) = H13 at s13 ed13 hD13 ⊢
                have hdn : ∀ {b : Addr} {o : HO}, H10 b = some o → b ≠ du := fun e => ne_of_none e hdu
                refine ⟨_, rfl, p, _, rfl, gStart (s13 _ _ ep1), _, rfl, du, _, rfl, DPut.k (k := kStart) ed13 (by show (mergeK [] [(kDeeds, V.ref t1), (kRows, V.ref r1), (kTells, V.ref D3)]).length < _; rw [sizeLine_eq]; exact Nat.lt_of_le_of_lt (merge3_len _ _ _) (by decide)), ?_⟩
                rw [due3]
                have s14 : Same H10 (upd H13 du (.dK (plainK t1 r1 D3 st))) := fun b o e => by rw [upd_ne (hdn e)]; exact s13 b o e
                have ed14 : upd H13 du (.dK (plainK t1 r1 D3 st)) du = some (.dK (plainK t1 r1 D3 st)) := upd_same
                have hD14 : upd H13 du (.dK (plainK t1 r1 D3 st)) D3 = some (.lst (zs.map V.str)) := by rw [upd_ne (ne_of_none ed11 hD3).symm]; exact hD13
                generalize upd H13 du (.dK (plainK t1 r1 D3 st)) = H14 at s14 ed14 hD14 ⊢
                have mx14 := mx10.same s14
                have pl14 := pl10.same s14
                have k014 : Kept d H H14 := k010.trans (.same s14)
                obtain ⟨dx, tx, rx, lx, asx, hx14, _⟩ := id mx14
                refine ⟨_, rfl, x, dx, _, rfl, hx14, mf_no _ _ _ _ (by decide +kernel) (by decide +kernel) (by decide +kernel) (by decide +kernel), _, rfl, x, t, ws, rs, ss, st, kvs, rfl, mx14, pt, s14 _ _ ht10, fun z _ v e => PL_vt v (hkv z v e), ?_⟩
                rw [hlost']
                show match badT (valsT kvs ss) with | some k => _ | none => _
                rw [hbt]
                intro y H15 hy s15 hmv
                rw [ezs] at hmv
                refine ⟨_, rfl, y, du, ws, rs, zs, st, rfl, hmv, ⟨t1, r1, D3, rl1, s15 _ _ ed14, (etd.same s14).same s15, s15 _ _ (s14 _ _ er1), s15 _ _ hD14, (hR1.same s14).same s15⟩, ow, ok_tl hzt, h60, fun H16 s16 => ⟨true, rfl, ?_⟩⟩
                refine iteT ?_
                have s146 := s15.trans s16
                refine ⟨_, rfl, _, rfl, x, p, ws, rs, ss, st, rfl, mx14.same s146, pl14.same s146, ow, os, h60, fun H17 s17 => ?_⟩
                have s1417 := s146.trans s17
                exact k H17 (((p10.same s14).same s1417).mono (by omega)) (k014.trans (.same s1417)).n ((hT10.same s14).same s1417)
end
end K1
set_option Elab.async false
set_option linter.all false
set_option maxRecDepth 100000
set_option maxHeartbeats 1000000
/-! _law_pair -/
namespace K1
open PySem L2 LamX
abbrev sPair : Stmt := top 52
/-- two plain machines -/
structure Two (H : Hp) (ws : List Str) (p1 p2 : Addr) (rs1 : List (List Int)) (ss1 : List Str) (st1 : Int) (rs2 : List (List Int)) (ss2 : List Str) (st2 : Int) : Prop where
  pl1 : PlainAt H p1 ws rs1 ss1 st1
  pl2 : PlainAt H p2 ws rs2 ss2 st2
  pt1 : Parts ws rs1 ss1 st1
  pt2 : Parts ws rs2 ss2 st2
def spPair (K : PySem.W.Frag) : Sp := fun vs H Q _ => ∃ (d c dl : Addr) (n : Nat) (ws : List Str), vs = [.ref d, .ref dl] ∧ PenAt H d c n ∧ n ≤ 700000 ∧ SqL K H dl (ws.map V.str) ∧ dl ≠ d ∧ GoodD ws ∧
  ∀ (l p1 p2 : Addr) (rs1 : List (List Int)) (ss1 : List Str) (st1 : Int) (rs2 : List (List Int)) (ss2 : List Str) (st2 : Int) (H' : Hp), H l = none → H p1 = none → H p2 = none → H' l = some (.lst [.ref p1, .ref p2]) → Two H' ws p1 p2 rs1 ss1 st1 rs2 ss2 st2 →
    PenAt H' d c (n + 1000) → Kept d H H' → Q (.ref l) H'
theorem PlainAt.updE {H : Hp} {p D : Addr} {ws : List Str} {rs : List (List Int)} {ss : List Str} {st : Int} (h : PlainAt H p ws rs ss st) (pt : Parts ws rs ss st) {xs : List V} (hD : H D = some (.lst xs)) (hx : xs = [] ∨ ∃ q kv, xs = [.ref q] ∧ H q = some (.dK kv)) (o : HO) : PlainAt (upd H D o) p ws rs ss st := by
  obtain ⟨t, r, l, as, e1, ⟨ob, e2, e2'⟩, e3, e4, e5⟩ := h
  have n1 := pt.many.1
  have nl := pt.tl.1
  have nw := pt.gd.len.1
  have go : ∀ {a : Addr} {ys : List V}, H a = some (.lst ys) → ys ≠ xs → upd H D o a = some (.lst ys) := fun {a ys} e ne => by
    rw [upd_ne (fun z => by rw [z, hD] at e; cases e; exact ne rfl)]; exact e
  refine ⟨t, r, l, as, ?_, ⟨ob, ?_, e2'⟩, go e3 (fun z => ?_), go e4 (fun z => ?_), e5.1, fun i a q f1 f2 => go (e5.2 i a q f1 f2) (fun z => ?_)⟩
  · rw [upd_ne (ne_of e1 hD (by intro z; cases z))]; exact e1
  · rw [upd_ne (ne_of e2 hD (by intro z; cases z))]; exact e2
  · rcases hx with hx | ⟨q, kv, hx, hq⟩
    · rw [hx] at z
      have := congrArg List.length z
      rw [List.length_map, e5.1] at this
      have h0 : rs.length = 0 := this
      omega
    · rw [hx] at z
      match as, rs, z, e5, n1 with
      | [a], r0 :: rs', z, e5, _ =>
        injection z with z _
        injection z with z
        have := e5.2 0 a r0 rfl rfl
        rw [z, hq] at this
        cases this
      | [a], [], z, e5, n1 => exact absurd n1 (by simp)
      | [], _, z, _, _ => cases z
      | _ :: _ :: _, _, z, _, _ => cases z
  · rcases hx with hx | ⟨q, kv, hx, hq⟩
    · rw [hx] at z
      have := congrArg List.length z
      rw [List.length_map] at this
      have h0 : ss.length = 0 := this
      omega
    · rw [hx] at z
      cases ss with
      | nil => cases z
      | cons a b => injection z with z _; cases z
  · have hl := (pt.row q (List.mem_of_getElem? f2)).1
    rcases hx with hx | ⟨q', kv, hx, hq⟩
    · rw [hx] at z
      have := congrArg List.length z
      rw [List.length_map] at this
      have h0 : q.length = 0 := this
      omega
    · rw [hx] at z
      cases q with
      | nil => cases z
      | cons a b => injection z with z _; cases z
/-- plain machines that have come -/
def Got (H H' : Hp) (ws : List Str) (as : List Addr) : Prop := ∀ a ∈ as, H a = none ∧ ∃ rs ss st, PlainAt H' a ws rs ss st ∧ Parts ws rs ss st
theorem Got.more {H H' : Hp} {ws : List Str} {as : List Addr} {D p : Addr} (g : Got H H' ws as) (h1 : as.length ≤ 1) (hD : H' D = some (.lst (as.map V.ref))) (z : H p = none) {rs : List (List Int)} {ss : List Str} {st : Int} (h : PlainAt H' p ws rs ss st) (pt : Parts ws rs ss st) (o : HO) : Got H (upd H' D o) ws (as ++ [p]) := by
  have hx : as.map V.ref = [] ∨ ∃ q kv, as.map V.ref = [.ref q] ∧ H' q = some (.dK kv) := by
    match as, h1, g with
    | [], _, _ => exact .inl rfl
    | [q], _, g =>
      obtain ⟨_, rs, ss, st, ⟨t, r, l, as', e1, _⟩, _⟩ := g q (List.mem_cons_self ..)
      exact .inr ⟨q, _, rfl, e1⟩
    | _ :: _ :: _, h1, _ => exact absurd h1 (by simp)
  intro a ha
  rcases List.mem_append.mp ha with ha | ha
  · obtain ⟨z1, rs, ss, st, h2, p2⟩ := g a ha
    exact ⟨z1, rs, ss, st, h2.updE p2 hD hx o, p2⟩
  · rw [List.mem_singleton.mp ha]
    exact ⟨z, rs, ss, st, h.updE pt hD hx o, pt⟩
theorem Got.kd {H H' H'' : Hp} {ws : List Str} {as : List Addr} {d : Addr} {kv kv' : List (Key × V)} (g : Got H H' ws as) (hd0 : H d = some (.dK kv')) (hd : H' d = some (.dK kv)) (k : Kept d H' H'') : Got H H'' ws as := fun a ha => by
  obtain ⟨z, rs, ss, st, h2, p2⟩ := g a ha
  exact ⟨z, rs, ss, st, h2.kd hd (ne_of_none hd0 z).symm k, p2⟩
theorem Got.two {H H' : Hp} {ws : List Str} {as : List Addr} (g : Got H H' ws as) (hl : as.length = 2) : ∃ p1 p2 rs1 ss1 st1 rs2 ss2 st2, as = [p1, p2] ∧ H p1 = none ∧ H p2 = none ∧ Two H' ws p1 p2 rs1 ss1 st1 rs2 ss2 st2 := by
  match as, hl with
  | [p1, p2], _ =>
    obtain ⟨z1, rs1, ss1, st1, h1, q1⟩ := g p1 (by simp)
    obtain ⟨z2, rs2, ss2, st2, h2, q2⟩ := g p2 (by simp)
    exact ⟨p1, p2, rs1, ss1, st1, rs2, ss2, st2, rfl, z1, z2, h1, h2, q1, q2⟩
theorem rep_stem {z : Str} {c : Nat} {n : Nat} (hz : z.cps.toList = [c]) : (repZ z n).cps.toList = List.replicate n c := by
  rw [repZ_tl, hz]
  induction n with
  | zero => rfl
  | succ n ih => rw [List.replicate_succ, List.flatten_cons, ih, List.replicate_succ]; rfl
theorem rep_tl {z : Str} {c : Nat} {n : Nat} (hz : z.cps.toList = [c]) (hc : c ∈ TL') (h1 : 1 ≤ n) (h2 : n ≤ 60) : Tl (repZ z n) := by
  unfold Tl
  rw [rep_stem hz, List.length_replicate]
  exact ⟨h1, h2, fun x hx => by rw [List.eq_of_mem_replicate hx]; exact hc⟩
theorem rep_st {z : Str} {c : Nat} {n : Nat} (hz : z.cps.toList = [c]) (hc : c ∈ AL) (h2 : n ≤ 50) : Stem (repZ z n) := by
  unfold Stem
  rw [rep_stem hz, List.length_replicate]
  exact ⟨h2, fun x hx => by rw [List.eq_of_mem_replicate hx]; exact hc⟩
theorem tl_lit {z : Str} (h : 1 ≤ z.cps.toList.length ∧ z.cps.toList.length ≤ 60 ∧ ∀ x ∈ z.cps.toList, x ∈ TL') : Tl z := h
abbrev sizesL : List (Int × Int) := [(7, 8), (6, 10), (4, 15), (7, 9), (8, 8), (1, 60), (2, 31), (5, 12), (5, 13)]
theorem sizes_ok : ∀ p ∈ sizesL, (1 ≤ p.1 ∧ p.1 ≤ 60) ∧ 1 ≤ p.2 ∧ p.2 ≤ 60 := by decide +kernel
section
variable {P : Program} {w : World} {K : PySem.W.Frag} {mg : Str → Option Value} {base : Heap}
abbrev pPair : List Str := ["_law_pen_here", "_law_deeds"]
abbrev nPair : List Str := ["_law_pen_here", "_law_deeds", "_law_way", "_law_sizes", "_law_stem", "_law_size", "_law_long", "_law_k"]
theorem scPair : FnScope nPair pPair (defScope sPair) := ⟨rfl, rfl, rfl, by decide +kernel, rfl, by decide +kernel, by decide +kernel⟩
theorem ok_pair {f fD fP fL fR : Addr} {fd fdD fdP fdL fdR : FuncData} (D : Df K mg "_law_pair" sPair pPair f fd) (DD : Df K mg "_law_draw" sDraw pDraw fD fdD) (DP : Df K mg "_law_pick" sPick pPick fP fdP) (DL : Df K mg "_law_plain" sPlain pPlain fL fdL) (DR : Df K mg "_law_ring" sRing pRing fR fdR) (T : Bt2 mg) : FnOk P w K mg base CX0 4 f fd pPair (spPair K) := by
  have TB : Bt mg := T.toBt
  have GD : FnOk P w K mg base CX0 1 fD fdD pDraw spDraw := ok_draw DD.F TB
  have GP : FnOk P w K mg base CX0 2 fP fdP pPick (spPickL K) := ok_pickL DP DD TB
  have GL : FnOk P w K mg base CX0 3 fL fdL pPlain (spPlain K) := ok_plain DL DD DP TB
  have GR : FnOk P w K mg base CX0 1 fR fdR pRing (spRing K) := ok_ring DR T
  refine D.F.ok scPair (fun vs H Q E h => ?_) (fun cdv A outer s H vs Q E hr h => ?_)
  · obtain ⟨d, c, dl, n, ws, rfl, _⟩ := h
    rfl
  · obtain ⟨d, c, dl, n, ws, rfl, hp, hn, hdl, ndl, gd, k⟩ := h
    have hr1 : Room 1 _ := hr.mono (by decide)
    have hr2 : Room 2 _ := hr.mono (by decide)
    refine ⟨_, pss_cons (ps_set (i := 2) scPair.nd rfl (Or.inl rfl) (pe_call GD hr1 rfl DD.g DD.F.kp DD.b .nil pass0 (pa_cons (pv 0) (pa_cons pe_int pa_nil))))
      (pss_cons (ps_if (pt_cmpR op_eq (pv 2) pe_int (nomark _))
        (pss_cons (ps_set (i := 3) scPair.nd rfl (Or.inl rfl) (pe_call GP hr2 rfl DP.g DP.F.kp DP.b .nil pass0 (pa_cons (pv 0) (pa_cons (pe_lst (t := tPairsI sizesL) (pa_cons (pe_tup (pa_cons pe_int (pa_cons pe_int pa_nil))) (pa_cons (pe_tup (pa_cons pe_int (pa_cons pe_int pa_nil))) (pa_cons (pe_tup (pa_cons pe_int (pa_cons pe_int pa_nil)))
            (pa_cons (pe_tup (pa_cons pe_int (pa_cons pe_int pa_nil))) (pa_cons (pe_tup (pa_cons pe_int (pa_cons pe_int pa_nil))) (pa_cons (pe_tup (pa_cons pe_int (pa_cons pe_int pa_nil))) (pa_cons (pe_tup (pa_cons pe_int (pa_cons pe_int pa_nil))) (pa_cons (pe_tup (pa_cons pe_int (pa_cons pe_int pa_nil))) (pa_cons (pe_tup (pa_cons pe_int (pa_cons pe_int pa_nil))) pa_nil)))))))))) pa_nil))))
        (pss_cons (ps_set (i := 4) scPair.nd rfl (Or.inr rfl) (pe_op op_repStr pe_str (pe_call GP hr2 rfl DP.g DP.F.kp DP.b .nil pass0 (pa_cons (pv 0) (pa_cons (pe_lst (pa_cons pe_int (pa_cons pe_int (pa_cons pe_int pa_nil)))) pa_nil)))))
        (pss_one (ps_ret (pe_lc (own := [("_law_size", 5)]) (g := gName 5) (by rfl) scPair.nd (pi_tup (pv 3))
            (blkOk_by (own := [("_law_size", 5)]) (N := nPair) (sc := defScope sPair) (by decide +kernel)) (fun _ _ _ _ _ => pg_name (i := 5) scPair.nd rfl (Or.inl rfl)) (fun _ _ _ _ _ => pts_nil)
            (fun _ _ _ _ _ => pe_call GR hr1 rfl DR.g DR.F.kp DR.b .nil pass0 (pa_cons (pv 0) (pa_cons (pv 1) (pa_cons (pv 5) (pa_cons (pv 4) pa_nil))))))))))
        pss_nil)
      (pss_cons (ps_if (pt_cmpR op_eq (pv 2) pe_int (nomark _))
        (pss_cons (ps_set (i := 6) scPair.nd rfl (Or.inl rfl) (pe_call GP hr2 rfl DP.g DP.F.kp DP.b .nil pass0 (pa_cons (pv 0) (pa_cons (pe_lst (pa_cons pe_int (pa_cons pe_int (pa_cons pe_int (pa_cons pe_int (pa_cons pe_int (pa_cons pe_int (pa_cons pe_int pa_nil)))))))) pa_nil))))
        (pss_one (ps_ret (pe_lst (pa_cons (pe_call GL hr rfl DL.g DL.F.kp DL.b .nil pass0 (pa_cons (pv 0) (pa_cons (pv 1) (pa_cons pe_int (pa_cons (pe_lst (pa_cons (pe_op op_repStr pe_str (pv 6)) (pa_cons pe_str pa_nil))) pa_nil)))))
          (pa_cons (pe_call GL hr rfl DL.g DL.F.kp DL.b .nil pass0 (pa_cons (pv 0) (pa_cons (pv 1) (pa_cons pe_int (pa_cons (pe_lst (pa_cons pe_str (pa_cons (pe_op op_repStr pe_str pe_int) pa_nil))) pa_nil))))) pa_nil))))))
        pss_nil)
      (pss_one (ps_ret (pe_lc (own := [("_law_k", 7)]) (g := gName 7) (by rfl) scPair.nd (pi_range1 rfl T.range (pa_cons pe_int pa_nil))
            (blkOk_by (own := [("_law_k", 7)]) (N := nPair) (sc := defScope sPair) (by decide +kernel)) (fun _ _ _ _ _ => pg_name (i := 7) scPair.nd rfl (Or.inl rfl)) (fun _ _ _ _ _ => pts_nil)
            (fun _ _ _ _ _ => pe_call GL hr rfl DL.g DL.F.kp DL.b .nil pass0 (pa_cons (pv 0) (pa_cons (pv 1) (pa_cons pe_int (pa_cons (pe_lst (pa_cons pe_str (pa_cons pe_str (pa_cons pe_str pa_nil)))) pa_nil)))))))))), ?_⟩
    have hw6 := gd.len.2
    refine ⟨_, rfl, d, c, n, 4, rfl, hp, by omega, by decide, by decide, fun wy H1 w0 w1 hp1 k1 => ?_⟩
    have hdl1 := k1.seq ndl hdl
    obtain ⟨kv0, hd0⟩ := hp.dk
    refine ⟨_, rfl, rfl, _, rfl, ?_⟩
    refine ite2 (fun h0 => ?_) (fun h0 => ?_)
    · -- rings
      refine ⟨_, rfl, ?_⟩
      dsimp only [tCons, tLst]
      refine pairsI_read sizesL _ (fun ts H2 s2 htl htn hti => ?_)
      refine ⟨by rw [List.length_map, htl, sizeLine_eq]; decide, fun q hq => ?_⟩
      have sq := same_upd (o := .lst (ts.map V.ref)) hq
      have hpq := hp1.same (s2.trans sq)
      have nqd : q ≠ d := ((hp1.same s2).ne hq).1
      refine ⟨d, c, q, n + 1, ts.map V.ref, rfl, hpq, by omega, nqd, SqL.of upd_same, by rw [List.length_map, htl]; decide, by rw [List.length_map, htl]; decide, fun x H4 hx p4 k4 => ?_⟩
      obtain ⟨t, ht, rfl⟩ := List.mem_map.mp hx
      obtain ⟨it, eit⟩ := List.getElem?_of_mem ht
      have hil : it < sizesL.length := by rw [← htl]; exact (List.getElem?_eq_some_iff.mp eit).1
      have epr : sizesL[it]? = some sizesL[it] := List.getElem?_eq_getElem hil
      obtain ⟨⟨u1, u2⟩, v1, v2⟩ := sizes_ok _ (List.getElem_mem hil)
      have et2 := hti it t _ eit epr
      obtain ⟨m1, em1⟩ : ∃ m : Nat, sizesL[it].1 = (m : Int) := ⟨sizesL[it].1.toNat, by omega⟩
      obtain ⟨m2, em2⟩ : ∃ m : Nat, sizesL[it].2 = (m : Int) := ⟨sizesL[it].2.toNat, by omega⟩
      rw [em1, em2] at et2
      rw [em1] at u1 u2
      rw [em2] at v1 v2
      have ntd : t ≠ d := (hp1.ne (htn t ht)).1
      have et4 := k4 _ _ (sq _ _ et2) ntd
      have k04 : Kept d H H4 := (k1.trans (.same (s2.trans sq))).trans k4
      clear epr hti htn htl hx sq hpq k4
      -- the stem
      refine ⟨_, rfl, Nat.le_of_ble_eq_true rfl, fun q2 hq2 => ?_⟩
      have sq2 := same_upd (o := .lst [V.int 1, V.int 1, V.int 30]) hq2
      refine ⟨d, c, q2, n + 1 + 1, _, rfl, p4.same sq2, by omega, (p4.ne hq2).1, SqL.of upd_same, Nat.le_of_ble_eq_true rfl, Nat.le_of_ble_eq_true rfl, fun y H6 hy p6 k6 => ?_⟩
      obtain ⟨nn, rfl, nn1, nn2⟩ : ∃ nn : Nat, y = .int (nn : Int) ∧ 1 ≤ nn ∧ nn ≤ 30 := by
        simp only [List.mem_cons, List.not_mem_nil, or_false] at hy
        rcases hy with rfl | rfl | rfl
        · exact ⟨1, rfl, by decide, by decide⟩
        · exact ⟨1, rfl, by decide, by decide⟩
        · exact ⟨30, rfl, by decide, by decide⟩
      have et6 := k6 _ _ (sq2 _ _ et4) ntd
      have k06 : Kept d H H6 := (k04.trans (.same sq2)).trans k6
      have hst : Stem (repZ "r" nn) := rep_st (c := 114) (by decide +kernel) (by decide +kernel) (by omega)
      refine ⟨"r", nn, rfl, rfl, rfl, nn1, by omega, ?_⟩
      refine ⟨_, rfl, t, rfl, ⟨_, SqT.of et6⟩, fun D hD => ?_⟩
      have hdl6 := k06.seq ndl hdl
      have zD : H D = none := k06.free p6 hD
      obtain ⟨nDd, nDc⟩ := hp.ne zD
      obtain ⟨kv6, hd6⟩ := p6.dk
      refine lc_tup (K := K) (a := t) (xs := [V.int (m1 : Int), V.int (m2 : Int)]) (fun i H' => Same H6 H' ∧ ∃ as : List Addr, as.length = i ∧ H' D = some (.lst (as.map V.ref)) ∧ Got H H' ws as) ?_ ?_ ?_ ?_
      · exact ⟨same_upd hD, [], rfl, upd_same, fun a h => nomatch h⟩
      · exact fun i H' _ z => SqT.of (z.1 _ _ et6)
      · rintro i y H7 hi ⟨s7, as, has, hD7, hg⟩
        obtain ⟨mm, rfl, mm1, mm2⟩ : ∃ mm : Nat, y = .int (mm : Int) ∧ 1 ≤ mm ∧ mm ≤ 60 := by
          match i, hi with
          | 0, hi => exact ⟨m1, (Option.some.inj hi).symm, by omega, by omega⟩
          | 1, hi => exact ⟨m2, (Option.some.inj hi).symm, by omega, by omega⟩
          | _ + 2, hi => simp at hi
        have hi2 : i < 2 := (List.getElem?_eq_some_iff.mp hi).1
        refine ⟨rfl, _, rfl, _, rfl, _, rfl, _, rfl, d, dl, ws, mm, repZ "r" nn, rfl, s7.seq hdl6, by omega, mm1, mm2, hst.1, fun p H8 hp8 s8 hpl => ?_⟩
        have zp : H p = none := k06.free p6 (s7.free hp8)
        refine ⟨_, s8 _ _ hD7, ?_, fun b o e => by rw [upd_ne (ne_of_none e hD)]; exact s8 _ _ (s7 _ _ e), as ++ [p], by simp [has], by rw [upd_same]; simp, ?_⟩
        · rw [List.length_map, has, sizeLine_eq]; omega
        · have hg8 : Got H H8 ws as := fun a ha => by
            obtain ⟨z, rs, ss, st, h2, p2⟩ := hg a ha
            exact ⟨z, rs, ss, st, h2.same s8, p2⟩
          exact hg8.more (by omega) (s8 _ _ hD7) zp hpl (ring_parts gd mm1 mm2 hst) _
      · rintro H7 ⟨s7, as, has, hD7, hg⟩
        obtain ⟨p1, p2, rs1, ss1, st1, rs2, ss2, st2, rfl, z1, z2, tw⟩ := hg.two has
        exact k D p1 p2 rs1 ss1 st1 rs2 ss2 st2 H7 zD z1 z2 hD7 tw ((p6.same s7).mono (by omega)) (k06.trans (.same s7))
    refine ⟨_, rfl, rfl, _, rfl, ?_⟩
    refine ite2 (fun h1 => ?_) (fun h1 => ?_)
    · refine ⟨_, rfl, Nat.le_of_ble_eq_true rfl, fun q hq => ?_⟩
      have sq := fun o => same_upd (o := o) hq
      refine ⟨d, c, q, n + 1, _, rfl, hp1.same (sq _), by omega, (hp1.ne hq).1, SqL.of upd_same, Nat.le_of_ble_eq_true rfl, Nat.le_of_ble_eq_true rfl, fun y H4 hy p4 k4 => ?_⟩
      obtain ⟨nn, rfl, nn1, nn2⟩ : ∃ nn : Nat, y = .int (nn : Int) ∧ 1 ≤ nn ∧ nn ≤ 60 := by
        simp only [List.mem_cons, List.not_mem_nil, or_false] at hy
        rcases hy with rfl | rfl | rfl | rfl | rfl | rfl | rfl
        · exact ⟨28, rfl, by decide, by decide⟩
        · exact ⟨29, rfl, by decide, by decide⟩
        · exact ⟨30, rfl, by decide, by decide⟩
        · exact ⟨31, rfl, by decide, by decide⟩
        · exact ⟨58, rfl, by decide, by decide⟩
        · exact ⟨59, rfl, by decide, by decide⟩
        · exact ⟨60, rfl, by decide, by decide⟩
      have k04 : Kept d H H4 := (k1.trans (.same (sq _))).trans k4
      have tA : Tl (repZ "a" nn) := rep_tl (c := 97) (by decide +kernel) (by decide +kernel) nn1 nn2
      have tD : Tl (repZ "d" 30) := rep_tl (c := 100) (by decide +kernel) (by decide +kernel) (by decide) (by decide)
      have tB : Tl "b" := tl_lit (by decide +kernel)
      have tC' : Tl "c" := tl_lit (by decide +kernel)
      refine ⟨_, rfl, _, rfl, _, rfl, "a", nn, rfl, rfl, rfl, nn1, by omega, Nat.le_of_ble_eq_true rfl, fun q2 hq2 => ?_⟩
      have sq2 := same_upd (o := .lst ([repZ "a" nn, "b"].map V.str)) hq2
      refine ⟨d, c, dl, q2, n + 1 + 1, 3, ws, [repZ "a" nn, "b"], rfl, p4.same sq2, by omega, sq2.seq (k04.seq ndl hdl), ndl, by omega, SqL.of upd_same, (p4.ne hq2).1, Nat.le_of_ble_eq_true rfl, Nat.le_of_ble_eq_true rfl, by decide, by decide, fun a1 rs1 ss1 st1 H6 z1 pl1 g1 _ p6 k6 => ?_⟩
      have k06 : Kept d H H6 := (k04.trans (.same sq2)).trans k6
      have za1 : H a1 = none := k04.free p4 (sq2.free z1)
      have pt1 := g1.parts gd fun z hz => by
        simp only [List.mem_cons, List.not_mem_nil, or_false] at hz
        rcases hz with rfl | rfl
        · exact tA
        · exact tB
      refine ⟨_, rfl, _, rfl, "d", 30, rfl, rfl, rfl, by decide, by decide, Nat.le_of_ble_eq_true rfl, fun q3 hq3 => ?_⟩
      have sq3 := same_upd (o := .lst ((["c", repZ "d" 30] : List Str).map V.str)) hq3
      refine ⟨d, c, dl, q3, n + 1 + 1 + 400, 3, ws, ["c", repZ "d" 30], rfl, p6.same sq3, by omega, sq3.seq (k06.seq ndl hdl), ndl, by omega, SqL.of upd_same, (p6.ne hq3).1, Nat.le_of_ble_eq_true rfl, Nat.le_of_ble_eq_true rfl, by decide, by decide, fun a2 rs2 ss2 st2 H8 z2 pl2 g2 _ p8 k8 => ?_⟩
      have k08 : Kept d H H8 := (k06.trans (.same sq3)).trans k8
      have za2 : H a2 = none := k06.free p6 (sq3.free z2)
      have pt2 := g2.parts gd fun z hz => by
        simp only [List.mem_cons, List.not_mem_nil, or_false] at hz
        rcases hz with rfl | rfl
        · exact tC'
        · exact tD
      obtain ⟨kv6, hd6⟩ := (p6.same sq3).dk
      have pl1' := (pl1.same sq3).kd hd6 (ne_of_none hd0 za1).symm k8
      refine ⟨Nat.le_of_ble_eq_true rfl, fun l hl => ?_⟩
      have sl := same_upd (o := .lst [V.ref a1, V.ref a2]) hl
      exact k l a1 a2 rs1 ss1 st1 rs2 ss2 st2 _ (k08.free p8 hl) za1 za2 upd_same ⟨pl1'.same sl, pl2.same sl, pt1, pt2⟩ ((p8.same sl).mono (by omega)) (k08.trans (.same sl))
    · refine ⟨2, rfl, by decide, by decide, fun D hD => ?_⟩
      have zD : H D = none := k1.free hp1 hD
      obtain ⟨nDd, nDc⟩ := hp.ne zD
      refine lc_range (lo := 0) (n := 2) (fun i H' => PenAt H' d c (n + 1 + 400 * i) ∧ Kept d H H' ∧ ∃ as : List Addr, as.length = i ∧ H' D = some (.lst (as.map V.ref)) ∧ Got H H' ws as) ?_ ?_ ?_
      · exact ⟨(hp1.upd nDd nDc), k1.upd zD, [], rfl, upd_same, fun a h => nomatch h⟩
      · rintro i H2 hi ⟨p2, k2, as, has, hD2, hg⟩
        have tY : Tl "yes" := tl_lit (by decide +kernel)
        have tN : Tl "no" := tl_lit (by decide +kernel)
        have t0 : Tl "0" := tl_lit (by decide +kernel)
        refine ⟨rfl, _, rfl, _, rfl, Nat.le_of_ble_eq_true rfl, fun q hq => ?_⟩
        have sq := same_upd (o := .lst ((["yes", "no", "0"] : List Str).map V.str)) hq
        refine ⟨d, c, dl, q, n + 1 + 400 * i, 5, ws, ["yes", "no", "0"], rfl, p2.same sq, by omega, sq.seq (k2.seq ndl hdl), ndl, by omega, SqL.of upd_same, (p2.ne hq).1, by decide, by decide, by decide, by decide, fun a rs ss st H4 za pl g _ p4 k4 => ?_⟩
        have k24 : Kept d H2 H4 := (Kept.same sq).trans k4
        have k04 : Kept d H H4 := k2.trans k24
        have zaH : H a = none := k2.free p2 (sq.free za)
        have pt := g.parts gd fun z hz => by
          simp only [List.mem_cons, List.not_mem_nil, or_false] at hz
          rcases hz with rfl | rfl | rfl
          · exact tY
          · exact tN
          · exact t0
        obtain ⟨kv2, hd2⟩ := p2.dk
        have hD4 := k24 _ _ hD2 nDd
        refine ⟨_, hD4, ?_, (p4.upd nDd nDc).mono (by omega), k04.upd zD, as ++ [a], by simp [has], by rw [upd_same]; simp, (hg.kd hd0 hd2 k24).more (by omega) hD4 zaH pl pt _⟩
        rw [List.length_map, has, sizeLine_eq]; omega
      · rintro H2 ⟨p2, k2, as, has, hD2, hg⟩
        obtain ⟨a1, a2, rs1, ss1, st1, rs2, ss2, st2, rfl, z1, z2, tw⟩ := hg.two has
        exact k D a1 a2 rs1 ss1 st1 rs2 ss2 st2 H2 zD z1 z2 hD2 tw (p2.mono (by omega)) k2
end
end K1
set_option Elab.async false
set_option linter.all false
set_option maxRecDepth 100000
set_option maxHeartbeats 1000000
/-! _law_product -/
namespace K1
open PySem L2 LamX
abbrev sProd : Stmt := top 49
theorem idx_app {α : Type} [DecidableEq α] {U N : List α} {x : α} (h : x ∈ U) : idxD (U ++ N) x = idxD U x := by unfold idxD; rw [List.idxOf_append, if_pos h]
theorem entP_no {U : List (List Int)} (hn : U.Nodup) {z : List Int} (h : z ∉ U) : valV (entP U) (keyI z) = none := by rw [valV_entP hn, if_neg h]
theorem entP_get {U : List (List Int)} (hn : U.Nodup) {z : List Int} (h : z ∈ U) : valV (entP U) (keyI z) = some (V.int (idxD U z : Nat)) := by rw [valV_entP hn, if_pos h]
/-- the product's search: its dict and its queue -/
structure PqAt (H : Hp) (f q : Addr) (aq : List Addr) (r : List Nat → List Int) (M : List (List Nat)) : Prop where
  la : aq.length = M.length
  hf : H f = some (.dT (entP (M.map r)))
  hq : H q = some (.lst (aq.map V.ref))
  rq : ∀ (i : Nat) (a : Addr) (u : List Nat), aq[i]? = some a → M[i]? = some u → H a = some (.tup ((r u).map V.int))
theorem PqAt.same {H H' : Hp} {f q : Addr} {aq : List Addr} {r : List Nat → List Int} {M : List (List Nat)} (h : PqAt H f q aq r M) (s : Same H H') : PqAt H' f q aq r M :=
  ⟨h.la, s _ _ h.hf, s _ _ h.hq, fun i a u e1 e2 => s _ _ (h.rq i a u e1 e2)⟩
theorem PqAt.more {H : Hp} {f q a : Addr} {aq : List Addr} {r : List Nat → List Int} {M : List (List Nat)} {v : List Nat} (h : PqAt H f q aq r M) (nd : (M.map r).Nodup) (hn : r v ∉ M.map r) (ha : H a = some (.tup ((r v).map V.int))) :
    PqAt (upd (upd H f (.dT (putK (entP (M.map r)) (keyI (r v)) (.int (M.length : Int))))) q (.lst (aq.map V.ref ++ [V.ref a]))) f q (aq ++ [a]) r (M ++ [v]) := by
  have nfq : f ≠ q := ne_of h.hf h.hq (by intro z; cases z)
  have nt : ∀ {b : Addr} {xs : List V}, H b = some (.tup xs) → upd (upd H f (.dT (putK (entP (M.map r)) (keyI (r v)) (.int (M.length : Int))))) q (.lst (aq.map V.ref ++ [V.ref a])) b = some (.tup xs) := fun e => by
    rw [upd_ne (ne_of e h.hq (by intro z; cases z)), upd_ne (ne_of e h.hf (by intro z; cases z))]; exact e
  refine ⟨by simp [h.la], ?_, by rw [upd_same]; simp, fun i b u e1 e2 => ?_⟩
  · rw [upd_ne nfq, upd_same, putK_new _ (entP_no nd hn), List.map_append, List.map_singleton, entP_snoc, List.length_map]
  · by_cases hi : i < aq.length
    · rw [List.getElem?_append_left hi] at e1
      rw [List.getElem?_append_left (by rw [← h.la]; exact hi)] at e2
      exact nt (h.rq i b u e1 e2)
    · have hi2 : i = aq.length := by
        have := (List.getElem?_eq_some_iff.mp e1).1
        rw [List.length_append, List.length_singleton] at this; omega
      subst hi2
      rw [List.getElem?_append_right (Nat.le_refl _), Nat.sub_self] at e1
      rw [List.getElem?_append_right (by rw [← h.la]; exact Nat.le_refl _), ← h.la, Nat.sub_self] at e2
      obtain rfl := Option.some.inj e1
      obtain rfl := Option.some.inj e2
      exact nt ha
theorem Qu.mem {r : List Nat → List Int} {w : Nat} {M : List (List Nat)} {i j : Nat} (qu : Qu r w M i j) {u : List Nat} (hu : u ∈ M.take i) {k : Nat} (hk : k < w) : r (u ++ [k]) ∈ M.map r := by
  have h : r (u ++ [k]) ∈ (dd r [[]] (exts w (M.take i) ++ (ext w (M.getD i [])).take j)).map r := dd_mem (List.mem_append_left _ (mem_exts.mpr ⟨u, hu, k, hk, rfl⟩))
  rwa [← qu.eq] at h
/-- a word's row of places -/
def rowP (w : Nat) (r : List Nat → List Int) (M : List (List Nat)) (u : List Nat) : List Int := (List.range w).map fun k => ((idxD (M.map r) (r (u ++ [k])) : Nat) : Int)
theorem rowP_app {w : Nat} {r : List Nat → List Int} {M N : List (List Nat)} {u : List Nat} (h : ∀ k, k < w → r (u ++ [k]) ∈ M.map r) : rowP w r (M ++ N) u = rowP w r M u := by
  unfold rowP
  refine List.map_congr_left fun k hk => ?_
  rw [List.map_append, idx_app (h k (List.mem_range.mp hk))]
def spProd (K : PySem.W.Frag) : Sp := fun vs H Q _ => ∃ (p1 p2 : Addr) (ws : List Str) (rs1 : List (List Int)) (ss1 : List Str) (st1 : Int) (rs2 : List (List Int)) (ss2 : List Str) (st2 : Int), vs = [.ref p1, .ref p2] ∧ PlainAt H p1 ws rs1 ss1 st1 ∧ PlainAt H p2 ws rs2 ss2 st2 ∧
  Parts ws rs1 ss1 st1 ∧ Parts ws rs2 ss2 st2 ∧
  ∀ (q : Addr) (M : List (List Nat)) (n : Nat) (H' : Hp), bfs (runT [rs1, rs2] [st1, st2]) ws.length n = (M, []) → H q = none → Same H H' → PlainAt H' q ws (prR ws.length (runT [rs1, rs2] [st1, st2]) M) (prT ss1 ss2 (runT [rs1, rs2] [st1, st2]) M) 0 → Q (.ref q) H'
section
variable {P : Program} {w : World} {K : PySem.W.Frag} {mg : Str → Option Value} {base : Heap}
abbrev pProd : List Str := ["_law_one", "_law_other"]
abbrev nProd : List Str := ["_law_one", "_law_other", "_law_numbers", "_law_queue", "_law_rows", "_law_a", "_law_b", "_law_row", "_law_k", "_law_pair_here", "_law_tells"]
theorem scProd : FnScope nProd pProd (defScope sProd) := ⟨rfl, rfl, rfl, by decide +kernel, rfl, by decide +kernel, by decide +kernel⟩
theorem ok_prod {f : Addr} {fd : FuncData} (D : Df K mg "_law_product" sProd pProd f fd) (T : Bt mg) : FnOk P w K mg base CX0 1 f fd pProd (spProd K) := by
  refine D.F.ok scProd (fun vs H Q E h => ?_) (fun cdv A outer s H vs Q E hr h => ?_)
  · obtain ⟨p1, p2, ws, rs1, ss1, st1, rs2, ss2, st2, rfl, _⟩ := h
    rfl
  · obtain ⟨p1, p2, ws, rs1, ss1, st1, rs2, ss2, st2, rfl, hp1, hp2, px, py, k⟩ := h
    have hu := hu_of hr
    refine ⟨_, pss_cons (ps_asg (pe_tup (pa_cons (pe_disp1T hu (pe_tup (pa_cons (pe_dget hu (pv 0) pe_str (fun _ _ => rfl)) (pa_cons (pe_dget hu (pv 1) pe_str (fun _ _ => rfl)) pa_nil))) pe_int)
          (pa_cons (pe_lst (pa_cons (pe_tup (pa_cons (pe_dget hu (pv 0) pe_str (fun _ _ => rfl)) (pa_cons (pe_dget hu (pv 1) pe_str (fun _ _ => rfl)) pa_nil))) pa_nil)) (pa_cons (pe_lst pa_nil) pa_nil))))
          (pg_tup (by rfl) (pgs_cons (pg_name (i := 2) scProd.nd rfl (Or.inr rfl)) (pgs_cons (pg_name (i := 3) scProd.nd rfl (Or.inl rfl)) (pgs_cons (pg_name (i := 4) scProd.nd rfl (Or.inl rfl)) pgs_nil)))))
      (pss_cons (ps_while PassesOwn.never (pt_cmpR op_lt (pe_callB call_len (by rfl) T.len PySem.boot_len (pa_cons (pv 4) pa_nil)) (pe_callB call_len (by rfl) T.len PySem.boot_len (pa_cons (pv 3) pa_nil)) (nomark _))
        (pss_cons (ps_asg (pe_ix ix_list (pv 3) (pe_callB call_len (by rfl) T.len PySem.boot_len (pa_cons (pv 4) pa_nil)) (fun _ _ => rfl)) (pg_tup (by rfl) (pgs_cons (pg_name (i := 5) scProd.nd rfl (Or.inr rfl)) (pgs_cons (pg_name (i := 6) scProd.nd rfl (Or.inr rfl)) pgs_nil))))
        (pss_cons (ps_setLc (i := 7) (own := [("_law_k", 8)]) (g := gName 8) (by rfl) scProd.nd rfl rfl (sw_true rfl rfl rfl (by decide +kernel)) (pi_range1 rfl T.range (pa_cons (pe_callB call_len (by rfl) T.len PySem.boot_len (pa_cons (pe_dget hu (pv 0) pe_str (fun _ _ => rfl)) pa_nil)) pa_nil))
            (blkOk_by (own := [("_law_k", 8)]) (N := nProd) (sc := defScope sProd) (by decide +kernel)) (fun _ _ _ _ _ => pg_name (i := 8) scProd.nd rfl (Or.inl rfl)) (fun _ _ _ _ _ => pts_nil)
            (fun _ _ _ _ _ => pe_tup (pa_cons (pe_ix (r := rIxL K) ix_list (pe_ix (r := rIxL K) ix_list (pe_dget hu (pv 0) pe_str (fun _ _ => rfl)) (pv 5) (fun _ _ => rfl)) (pv 8) (fun _ _ => rfl)) (pa_cons (pe_ix (r := rIxL K) ix_list (pe_ix (r := rIxL K) ix_list (pe_dget hu (pv 1) pe_str (fun _ _ => rfl)) (pv 6) (fun _ _ => rfl)) (pv 8) (fun _ _ => rfl)) pa_nil))))
        (pss_cons (ps_for PassesOwn.never rfl (pi_list (pv 7)) (pg_name (i := 9) scProd.nd rfl (Or.inl rfl))
            (pss_one (ps_if (pt_cmp (pc_dnotin hu (pv 9) (pv 2)))
              (pss_cons (ps_dput hu (pv 2) (pv 9) (pe_callB call_len (by rfl) T.len PySem.boot_len (pa_cons (pv 3) pa_nil)) rfl)
              (pss_one (ps_expr (pe_bm PySem.F.plainAttrs_list PySem.F.slot_list_append PySem.F.type_list_append mt_append (pv 3) (pa_cons (pv 9) pa_nil))))) pss_nil)))
        (pss_one (ps_expr (pe_bm PySem.F.plainAttrs_list PySem.F.slot_list_append PySem.F.type_list_append mt_append (pv 4) (pa_cons (pe_lc (own := [("_law_pair_here", 9)]) (g := gName 9) (by rfl) scProd.nd (pi_list (pv 7))
            (blkOk_by (own := [("_law_pair_here", 9)]) (N := nProd) (sc := defScope sProd) (by decide +kernel)) (fun _ _ _ _ _ => pg_name (i := 9) scProd.nd rfl (Or.inl rfl)) (fun _ _ _ _ _ => pts_nil)
            (fun _ _ _ _ _ => pe_dget hu (pv 2) (pv 9) (fun _ _ => rfl))) pa_nil))))))))
      (pss_cons (ps_setLc (i := 10) (own := [("_law_a", 5), ("_law_b", 6)]) (g := gTup K 2 (gCons (gName 5) (gCons (gName 6) gNil))) (by rfl) scProd.nd rfl rfl (sw_true rfl rfl rfl (by decide +kernel)) (pi_list (pv 3))
          (blkOk_by (own := [("_law_a", 5), ("_law_b", 6)]) (N := nProd) (sc := defScope sProd) (by decide +kernel)) (fun _ _ _ _ _ => pg_tup (by rfl) (pgs_cons (pg_name (i := 5) scProd.nd rfl (Or.inl rfl)) (pgs_cons (pg_name (i := 6) scProd.nd rfl (Or.inl rfl)) pgs_nil))) (fun _ _ _ _ _ => pts_nil)
          (fun _ _ _ _ _ => pe_op op_add_str (pe_op op_add_str (pe_ix (r := rIxL K) ix_list (pe_dget hu (pv 0) pe_str (fun _ _ => rfl)) (pv 5) (fun _ _ => rfl)) pe_str) (pe_ix (r := rIxL K) ix_list (pe_dget hu (pv 1) pe_str (fun _ _ => rfl)) (pv 6) (fun _ _ => rfl))))
      (pss_one (ps_ret (pe_disp (pps_cons pe_str (pe_dget hu (pv 0) pe_str (fun _ _ => rfl)) (pps_cons pe_str (pv 4) (pps_cons pe_str (pv 10) (pps_cons pe_str pe_int pps_nil)))) (by rfl) (by rfl) (fun z => by cases z) (by decide)))))), ?_⟩
    obtain ⟨t1, r1, l1, rl1, ep1, et1, er1, el1, hR1⟩ := id hp1
    obtain ⟨t2, r2, l2, rl2, ep2, et2, er2, el2, hR2⟩ := id hp2
    have w6 := px.gd.len.2
    have h60 := px.many.2
    have h60' := py.many.2
    obtain ⟨hs0, htab⟩ := two_st px py
    have hpn : prodN [rs1, rs2] ≤ 3600 := by
      show rs1.length * (rs2.length * 1) ≤ 3600
      rw [Nat.mul_one]
      exact Nat.le_trans (Nat.mul_le_mul h60 h60') (by decide)
    have hrc := runT_c [rs1, rs2] [st1, st2]
    have hml : ∀ {M : List (List Nat)}, (M.map (runT [rs1, rs2] [st1, st2])).Nodup → (∀ u ∈ M, ∀ k ∈ u, k < ws.length) → M.length ≤ 3600 := fun nd lt => Nat.le_trans (met_len hs0 htab nd lt) hpn
    have hrun : ∀ u, (∀ k ∈ u, k < ws.length) → StOk [rs1, rs2] (runT [rs1, rs2] [st1, st2] u) := fun u => hs0.run htab u
    have hgo : ∀ u k, runT [rs1, rs2] [st1, st2] (u ++ [k]) = stepT [rs1, rs2] k (runT [rs1, rs2] [st1, st2] u) := fun u k => runT_snoc _ _ u k
    have hr0 : runT [rs1, rs2] [st1, st2] [] = [st1, st2] := rfl
    generalize hR : runT [rs1, rs2] [st1, st2] = r at *
    -- numbers
    intro f hf
    have hfH := hf
    have s1 := same_upd (o := .dT []) hf
    have ef1 : upd H f (.dT []) f = some (.dT []) := upd_same
    generalize upd H f (.dT []) = H1 at s1 ef1 ⊢
    refine ⟨_, rfl, p1, _, rfl, gStart (s1 _ _ ep1), _, rfl, p2, _, rfl, gStart (s1 _ _ ep2), Nat.le_of_ble_eq_true rfl, fun b0 hb0 => ?_⟩
    have s2 := same_upd (o := .tup [V.int st1, V.int st2]) hb0
    have eb2 : upd H1 b0 (.tup [V.int st1, V.int st2]) b0 = some (.tup ((keyI [st1, st2]).map kV)) := by rw [keyI_kV]; exact upd_same
    have ef2 := s2 _ _ ef1
    generalize upd H1 b0 (.tup [V.int st1, V.int st2]) = H2 at s2 eb2 ef2 ⊢
    refine ⟨ef2, b0, keyI [st1, st2], .int 0, rfl, eb2, ?_⟩
    have s02 := s1.trans s2
    have s03 : Same H (upd H2 f (.dT [(keyI [st1, st2], V.int 0)])) := fun b o e => by rw [upd_ne (ne_of_none e hf)]; exact s02 b o e
    have ef3 : upd H2 f (.dT [(keyI [st1, st2], V.int 0)]) f = some (.dT (entP [[st1, st2]])) := upd_same
    generalize upd H2 f (.dT [(keyI [st1, st2], V.int 0)]) = H3 at s03 ef3 ⊢
    -- queue
    refine ⟨_, rfl, p1, _, rfl, gStart (s03 _ _ ep1), _, rfl, p2, _, rfl, gStart (s03 _ _ ep2), Nat.le_of_ble_eq_true rfl, fun b hb => ⟨Nat.le_of_ble_eq_true rfl, fun q hq => ⟨Nat.le_of_ble_eq_true rfl, fun rw hrw => ⟨Nat.le_of_ble_eq_true rfl, fun tp htp => ?_⟩⟩⟩⟩
    have s4 := same_upd (o := .tup [V.int st1, V.int st2]) hb
    have eb4 : upd H3 b (.tup [V.int st1, V.int st2]) b = some (.tup ([st1, st2].map V.int)) := upd_same
    generalize upd H3 b (.tup [V.int st1, V.int st2]) = H4 at s4 eb4 hq hrw htp ⊢
    have s5 := same_upd (o := .lst [V.ref b]) hq
    have eq5 : upd H4 q (.lst [V.ref b]) q = some (.lst [V.ref b]) := upd_same
    generalize upd H4 q (.lst [V.ref b]) = H5 at s5 eq5 hrw htp ⊢
    have s6 := same_upd (o := .lst []) hrw
    have er6 : upd H5 rw (.lst []) rw = some (.lst []) := upd_same
    generalize upd H5 rw (.lst []) = H6 at s6 er6 htp ⊢
    have s7 := same_upd (o := .tup [V.ref f, V.ref q, V.ref rw]) htp
    have et7 : upd H6 tp (.tup [V.ref f, V.ref q, V.ref rw]) tp = some (.tup [V.ref f, V.ref q, V.ref rw]) := upd_same
    generalize upd H6 tp (.tup [V.ref f, V.ref q, V.ref rw]) = H7 at s7 et7 ⊢
    refine ⟨tp, _, rfl, SqT.of et7, rfl, _, _, rfl, _, _, rfl, _, _, rfl, rfl, ?_⟩
    dsimp only
    have s07 : Same H H7 := s03.trans (s4.trans (s5.trans (s6.trans s7)))
    have s04 := s03.trans s4
    have zq : H q = none := s04.free hq
    have zr : H rw = none := (s04.trans s5).free hrw
    have pq7 : PqAt H7 f q [b] r [[]] := by
      refine ⟨rfl, ?_, s7 _ _ (s6 _ _ eq5), fun i a u e1 e2 => ?_⟩
      · rw [List.map_singleton, hr0]; exact s7 _ _ (s6 _ _ (s5 _ _ (s4 _ _ ef3)))
      · match i, e1, e2 with
        | 0, e1, e2 => cases e1; cases e2; rw [hr0]; exact s7 _ _ (s6 _ _ (s5 _ _ eb4))
        | _ + 1, e1, _ => simp at e1
    have er7 := s7 _ _ er6
    have nqr : q ≠ rw := ne_of_none eq5 hrw
    clear s1 ef1 s2 eb2 ef2 s02 ef3 s4 eb4 s5 eq5 s6 er6 s7 et7 s04 s03 hb0 hb hq hrw htp
    refine while_ix (fun m σ H' => ∃ (i : Nat) (M : List (List Nat)) (aq bs : List Addr) (v5 v6 v7 v9 : Option V), (∀ b ∈ bs, b ≠ q ∧ b ≠ rw) ∧ m = 3600 - i ∧ σ = [some (.ref p1), some (.ref p2), some (.ref f), some (.ref q), some (.ref rw), v5, v6, v7, none, v9, none] ∧ Same H H' ∧ Qu r ws.length M i 0 ∧ PqAt H' f q aq r M ∧ i ≤ M.length ∧
      H' rw = some (.lst (bs.map V.ref)) ∧ RowsAt H' bs ((M.take i).map (rowP ws.length r M))) 3600 ?_ ?_ ?_
    · exact ⟨0, [[]], [b], [], none, none, none, none, (fun b h => nomatch h), rfl, rfl, s07, Qu.init, pq7, Nat.zero_le _, er7, ⟨rfl, fun i a q e => by simp at e⟩⟩
    · rintro m σ H8 ⟨i, M, aq, bs, v5, v6, v7, v9, hbne, rfl, rfl, s8, qu, pq, hiM, hrw8, hRb⟩
      have hM := hml qu.nd qu.lt
      have hbl : bs.length = i := by rw [hRb.1, List.length_map, List.length_take]; omega
      refine ⟨_, rfl, _, i, rfl, .inl ⟨_, SqL.of hrw8, by rw [List.length_map, hbl]⟩, _, rfl, _, M.length, rfl, .inl ⟨_, SqL.of pq.hq, by rw [List.length_map, pq.la]⟩, _, _, rfl, rfl, _, rfl, ?_⟩
      refine ite2 (fun hlt => ?_) (fun hge => ?_)
      · have hlt' : i < M.length := by have := of_decide_eq_true hlt; omega
        have eu : M[i]? = some (M.getD i []) := getD_get ([] : List Nat) hlt'
        have hum := List.mem_of_getElem? eu
        have hult := qu.lt _ hum
        obtain ⟨a, b', er, a0, a1, b0', b1⟩ := two_at (hrun _ hult)
        obtain ⟨ai, eaq⟩ : ∃ ai, aq[i]? = some ai := ⟨_, List.getElem?_eq_getElem (by rw [pq.la]; exact hlt')⟩
        have hqi := pq.rq i _ _ eaq eu
        rw [er] at hqi
        refine ⟨_, rfl, _, rfl, _, i, rfl, .inl ⟨_, SqL.of hrw8, by rw [List.length_map, hbl]⟩, q, _, _, _, rfl, rfl, SqL.of pq.hq, atI_nat (by rw [List.getElem?_map, eaq]; rfl), ai, _, rfl, SqT.of hqi, rfl, _, _, rfl, _, _, rfl, rfl, ?_⟩
        obtain ⟨u, hu0⟩ : ∃ u, M.getD i [] = u := ⟨_, rfl⟩
        rw [hu0] at eu hum hult er
        have hla : a.toNat < rs1.length := by omega
        have hlb : b'.toNat < rs2.length := by omega
        obtain ⟨ra, era, ata⟩ := at_ref (as := rl1) (k := a) a0 (by rw [hR1.1]; omega)
        obtain ⟨rb, erb, atb⟩ := at_ref (as := rl2) (k := b') b0' (by rw [hR2.1]; omega)
        have hra := s8 _ _ (hR1.2 _ _ _ era (getD_get ([] : List Int) hla))
        have hrb := s8 _ _ (hR2.2 _ _ _ erb (getD_get ([] : List Int) hlb))
        have wl1 := (px.row _ (List.mem_of_getElem? (getD_get ([] : List Int) hla))).1
        have wl2 := (py.row _ (List.mem_of_getElem? (getD_get ([] : List Int) hlb))).1
        have hstep : ∀ k, r (u ++ [k]) = [(rs1.getD a.toNat []).getD k 0, (rs2.getD b'.toNat []).getD k 0] := fun k => by rw [hgo, er]; rfl
        generalize rs1.getD a.toNat [] = xa at hra wl1 hstep
        generalize rs2.getD b'.toNat [] = xb at hrb wl2 hstep
        -- the row
        refine ⟨_, rfl, p1, _, rfl, gDeeds (s8 _ _ ep1), _, ws.length, rfl, .inr ⟨_, (et1.same s8).sq, (List.length_map _).symm⟩, (ws.length : Int), rfl, by omega, by omega, fun D1 hD1 => ?_⟩
        rw [Int.toNat_natCast]
        refine lc_range (lo := 0) (n := ws.length) (fun j H' => Same H8 H' ∧ ∃ ps : List Addr, ps.length = j ∧ H' D1 = some (.lst (ps.map V.ref)) ∧ (∀ b ∈ ps, b ≠ D1) ∧ ∀ (m : Nat) (c : Addr), ps[m]? = some c → H' c = some (.tup ((r (u ++ [m])).map V.int))) ?_ ?_ ?_
        · exact ⟨same_upd hD1, [], rfl, upd_same, (fun b h => nomatch h), fun m c e => by simp at e⟩
        · rintro j H9 hj ⟨s9, ps, hps, hD9, hpD, hpc⟩
          have s89 := s8.trans s9
          refine ⟨rfl, _, rfl, p1, _, rfl, gRows (s89 _ _ ep1), _, rfl, r1, _, _, _, rfl, rfl, SqL.of (s89 _ _ er1), ata, _, rfl, ra, _, _, _, rfl, rfl, SqL.of (s9 _ _ hra), at_int (k := 0 + (j : Int)) (by omega) (by omega), _, rfl, p2, _, rfl, gRows (s89 _ _ ep2), _, rfl, r2, _, _, _, rfl, rfl, SqL.of (s89 _ _ er2), atb, _, rfl, rb, _, _, _, rfl, rfl, SqL.of (s9 _ _ hrb), at_int (k := 0 + (j : Int)) (by omega) (by omega), Nat.le_of_ble_eq_true rfl, fun t ht => ?_⟩
          have ej : (0 + (j : Int)).toNat = j := by omega
          rw [ej]
          have s10 := same_upd (o := .tup [V.int (xa.getD j 0), V.int (xb.getD j 0)]) ht
          have et : upd H9 t (.tup [V.int (xa.getD j 0), V.int (xb.getD j 0)]) t = some (.tup ((r (u ++ [j])).map V.int)) := by rw [hstep]; exact upd_same
          have ntD : t ≠ D1 := (ne_of_none hD9 ht).symm
          generalize upd H9 t (.tup [V.int (xa.getD j 0), V.int (xb.getD j 0)]) = H10 at s10 et ⊢
          refine ⟨_, s10 _ _ hD9, ?_, fun c o e => by rw [upd_ne (ne_of_none e hD1)]; exact s10 _ _ (s9 _ _ e), ps ++ [t], by simp [hps], by rw [upd_same]; simp, fun c hc => ?_, fun m c e => ?_⟩
          · rw [List.length_map, hps, sizeLine_eq]; omega
          · rcases List.mem_append.mp hc with z | z
            · exact hpD c z
            · rw [List.mem_singleton.mp z]; exact ntD
          · by_cases hm : m < ps.length
            · rw [List.getElem?_append_left hm] at e
              rw [upd_ne (hpD c (List.mem_of_getElem? e))]
              exact s10 _ _ (hpc m c e)
            · have hm2 : m = ps.length := by
                have := (List.getElem?_eq_some_iff.mp e).1
                rw [List.length_append, List.length_singleton] at this; omega
              subst hm2
              rw [List.getElem?_append_right (Nat.le_refl _), Nat.sub_self] at e
              obtain rfl := Option.some.inj e
              rw [upd_ne ntD, hps]; exact et
        · rintro H9 ⟨s9, ps, hps, hD9, hpD, hpc⟩
          have s89 := s8.trans s9
          have pq9 := pq.same s9
          have hrw9 := s9 _ _ hrw8
          have nD1q : D1 ≠ q := (ne_of_none pq.hq hD1).symm
          have nD1r : D1 ≠ rw := (ne_of_none hrw8 hD1).symm
          have hRb9 := hRb.same s9
          -- the loop over the row
          refine ⟨_, rfl, D1, rfl, ⟨_, SqL.of hD9⟩, for_list (K := K) (a := D1) (xs := ps.map V.ref) (fun j σ H' => ∃ (N : List (List Nat)) (aq' : List Addr) (v9 : Option V), σ = [some (.ref p1), some (.ref p2), some (.ref f), some (.ref q), some (.ref rw), some (.int a), some (.int b'), some (.ref D1), none, v9, none] ∧
            (∀ b o, b ≠ f → b ≠ q → H9 b = some o → H' b = some o) ∧ Qu r ws.length (M ++ N) i j ∧ PqAt H' f q aq' r (M ++ N)) ?_ ?_ ?_ ?_⟩
          · exact ⟨[], aq, v9, rfl, fun b o _ _ e => e, by rw [List.append_nil]; exact qu, by rw [List.append_nil]; exact pq9⟩
          · rintro j σ H' _ ⟨N, aq', v9, rfl, kx, _, pq'⟩
            exact SqL.of (kx _ _ (ne_of hD9 pq9.hf (by intro z; cases z)) nD1q hD9)
          · rintro j yv σ H10 hj ⟨N, aq', v9, rfl, kx, qu', pq'⟩
            rw [List.getElem?_map] at hj
            obtain ⟨c, ec, rfl⟩ := Option.map_eq_some_iff.mp hj
            have hjw : j < ws.length := by rw [← hps]; exact (List.getElem?_eq_some_iff.mp ec).1
            have hc9 := hpc j c ec
            have hc10 := kx _ _ (ne_of hc9 pq9.hf (by intro z; cases z)) (ne_of hc9 pq9.hq (by intro z; cases z)) hc9
            have hck : H10 c = some (.tup ((keyI (r (u ++ [j]))).map kV)) := by rw [keyI_kV]; exact hc10
            have hiMN : i < (M ++ N).length := by rw [List.length_append]; omega
            have hg : (M ++ N).getD i [] = u := by rw [List.getD_eq_getElem?_getD, List.getElem?_append_left hlt', eu]; rfl
            obtain ⟨qs, _⟩ := qu'.step hiMN hjw
            rw [hg] at qs
            have hMN := hml qu'.nd qu'.lt
            refine ⟨_, rfl, _, rfl, f, _, rfl, DGet.t pq'.hf hck, ?_⟩
            by_cases hz : r (u ++ [j]) ∈ (M ++ N).map r
            · rw [entP_get qu'.nd hz]
              refine ⟨_, rfl, ?_⟩
              refine iteF ?_
              have edd : dd r (M ++ N) [u ++ [j]] = M ++ N := by rw [dd_cons, dd_nil, if_pos hz]
              rw [edd] at qs
              exact ⟨N, aq', _, rfl, kx, qs, pq'⟩
            · rw [entP_no qu'.nd hz]
              refine ⟨_, rfl, ?_⟩
              refine iteT ?_
              have edd : dd r (M ++ N) [u ++ [j]] = M ++ (N ++ [u ++ [j]]) := by rw [dd_cons, dd_nil, if_neg hz, List.append_assoc]
              rw [edd] at qs
              have nqf : q ≠ f := ne_of pq'.hq pq'.hf (by intro z; cases z)
              refine ⟨_, rfl, _, (M ++ N).length, rfl, .inl ⟨_, SqL.of pq'.hq, by rw [List.length_map, pq'.la]⟩, _, rfl, _, rfl, f, _, rfl, DPut.t pq'.hf hck (by rw [entP_len, List.length_map, sizeLine_eq]; omega), ?_⟩
              refine ⟨_, rfl, .inl ⟨rfl, _, SqL.of (by rw [upd_ne nqf]; exact pq'.hq)⟩, _, rfl, q, _, _, rfl, rfl, by rw [upd_ne nqf]; exact pq'.hq, by rw [List.length_map, pq'.la, sizeLine_eq]; omega, ?_⟩
              refine ⟨N ++ [u ++ [j]], aq' ++ [c], _, rfl, fun b o n1 n2 e => by rw [upd_ne n2, upd_ne n1]; exact kx b o n1 n2 e, qs, ?_⟩
              rw [← List.append_assoc]
              exact pq'.more qu'.nd hz hc10
          · rintro σ H10 ⟨N, aq', v9, rfl, kx, qu', pq'⟩
            rw [List.length_map, hps] at qu'
            have hiMN : i < (M ++ N).length := by rw [List.length_append]; omega
            have qn := qu'.next hiMN
            have etk : (M ++ N).take (i + 1) = M.take i ++ [u] := by rw [List.take_append_of_le_length (by omega), List.take_add_one, eu]; rfl
            have hmem : ∀ k, k < ws.length → r (u ++ [k]) ∈ (M ++ N).map r := fun k hk => qn.mem (by rw [etk]; exact List.mem_append_right _ (List.mem_singleton.mpr rfl)) hk
            have nfr : rw ≠ f := ne_of hrw9 pq9.hf (by intro z; cases z)
            have hrw10 := kx _ _ nfr nqr.symm hrw9
            have hD10 := kx _ _ (ne_of hD9 pq9.hf (by intro z; cases z)) nD1q hD9
            have hRb10 : RowsAt H10 bs ((M.take i).map (rowP ws.length r M)) := ⟨hRb9.1, fun j c q' f1 f2 => by
              have h1 := hRb9.2 j c q' f1 f2
              exact kx _ _ (ne_of h1 pq9.hf (by intro z; cases z)) (hbne c (List.mem_of_getElem? f1)).1 h1⟩
            have hpc10 : ∀ (m : Nat) (c : Addr), ps[m]? = some c → H10 c = some (.tup ((keyI (r (u ++ [m]))).map kV)) := fun m c e => by
              have h1 := hpc m c e
              rw [keyI_kV]
              exact kx _ _ (ne_of h1 pq9.hf (by intro z; cases z)) (ne_of h1 pq9.hq (by intro z; cases z)) h1
            have s010 : Same H H10 := fun b o e => kx b o (ne_of_none e hfH) (ne_of_none e zq) (s89 b o e)
            refine ⟨_, rfl, .inl ⟨rfl, _, SqL.of hrw10⟩, _, rfl, D1, rfl, ⟨_, SqL.of hD10⟩, fun D2 hD2 => ?_⟩
            refine lc_list (K := K) (a := D1) (xs := ps.map V.ref) (fun j H' => Same H10 H' ∧ H' D2 = some (.lst (((rowP ws.length r (M ++ N) u).take j).map V.int))) ?_ ?_ ?_ ?_
            · exact ⟨same_upd hD2, upd_same⟩
            · exact fun j H' _ p => SqL.of (p.1 _ _ hD10)
            · rintro j yv H11 hj ⟨s11, hD11⟩
              rw [List.getElem?_map] at hj
              obtain ⟨c, ec, rfl⟩ := Option.map_eq_some_iff.mp hj
              have hjw : j < ws.length := by rw [← hps]; exact (List.getElem?_eq_some_iff.mp ec).1
              have eg := entP_get qu'.nd (hmem j hjw)
              have en : (rowP ws.length r (M ++ N) u)[j]? = some ((idxD ((M ++ N).map r) (r (u ++ [j])) : Nat) : Int) := by unfold rowP; rw [List.getElem?_map, List.getElem?_range hjw]; rfl
              refine ⟨rfl, _, rfl, _, rfl, f, _, rfl, by rw [← eg]; exact DGet.t (s11 _ _ pq'.hf) (s11 _ _ (hpc10 j c ec)), ?_⟩
              generalize (idxD ((M ++ N).map r) (r (u ++ [j])) : Nat) = zi at en ⊢
              refine ⟨_, hD11, ?_, fun b' o e => by rw [upd_ne (ne_of_none e hD2)]; exact s11 _ _ e, ?_⟩
              · rw [List.length_map, List.length_take, sizeLine_eq]; omega
              · rw [upd_same, List.take_add_one, en, List.map_append]; rfl
            · rintro H11 ⟨s11, hD11⟩
              have hrl : (rowP ws.length r (M ++ N) u).length = ws.length := by unfold rowP; rw [List.length_map, List.length_range]
              rw [List.take_of_length_le (by rw [hrl, List.length_map, hps]; exact Nat.le_refl _)] at hD11
              (try delta tNil)
              have nD2r : D2 ≠ rw := (ne_of_none hrw10 hD2).symm
              have nD2q : D2 ≠ q := (ne_of_none pq'.hq hD2).symm
              refine ⟨rw, _, _, rfl, rfl, s11 _ _ hrw10, by rw [List.length_map, hbl, sizeLine_eq]; omega, ?_⟩
              have hrw11 := s11 _ _ hrw10
              have pq11 := pq'.same s11
              have s011 : Same H (upd H11 rw (.lst (bs.map V.ref ++ [V.ref D2]))) := fun b o e => by rw [upd_ne (ne_of_none e zr)]; exact s11 _ _ (s010 _ _ e)
              refine ⟨3600 - (i + 1), by omega, i + 1, M ++ N, aq', bs ++ [D2], _, _, _, _, fun c hc => ?_, rfl, rfl, s011, qn, ?_, by rw [List.length_append]; omega, by rw [upd_same]; simp, ?_⟩
              · rcases List.mem_append.mp hc with z | z
                · exact hbne c z
                · rw [List.mem_singleton.mp z]; exact ⟨nD2q, nD2r⟩
              · have nt : ∀ {b : Addr} {xs : List V}, H11 b = some (.tup xs) → upd H11 rw (.lst (bs.map V.ref ++ [V.ref D2])) b = some (.tup xs) := fun e => by rw [upd_ne (ne_of e hrw11 (by intro z; cases z))]; exact e
                exact ⟨pq11.la, by rw [upd_ne nfr.symm]; exact pq11.hf, by rw [upd_ne nqr]; exact pq11.hq, fun m c u' e1 e2 => nt (pq11.rq m c u' e1 e2)⟩
              · have e8 : (M.take i).map (rowP ws.length r M) = (M.take i).map (rowP ws.length r (M ++ N)) := List.map_congr_left fun u' hu' => (rowP_app fun k hk => qu.mem hu' hk).symm
                have e7 : RowsAt H11 (bs ++ [D2]) ((M.take i).map (rowP ws.length r (M ++ N)) ++ [rowP ws.length r (M ++ N) u]) := by
                  rw [← e8]; exact (hRb10.same s11).snoc hD11
                rw [etk, List.map_append, List.map_singleton]
                refine ⟨e7.1, fun j c q' f1 f2 => ?_⟩
                have hc : c ≠ rw := by
                  rcases List.mem_append.mp (List.mem_of_getElem? f1) with z | z
                  · exact (hbne c z).2
                  · rw [List.mem_singleton.mp z]; exact nD2r
                rw [upd_ne hc]
                exact e7.2 j c q' f1 f2
      · have hge' : M.length ≤ i := by
          have : ¬ (i : Int) < (M.length : Int) := fun z => hge (decide_eq_true z)
          omega
        have hiE : i = M.length := by omega
        subst hiE
        obtain ⟨n, eb⟩ := queue_bfs hrc (qu.fin (Nat.le_refl _)) qu.lt
        have pt1 := px.tl.1
        have pt2 := py.tl.1
        refine ⟨_, rfl, q, rfl, ⟨_, SqL.of pq.hq⟩, fun D hD => ?_⟩
        refine lc_list (K := K) (a := q) (xs := aq.map V.ref) (fun i H' => Same H8 H' ∧ H' D = some (.lst (((prT ss1 ss2 r M).take i).map V.str))) ?_ ?_ ?_ ?_
        · exact ⟨same_upd hD, upd_same⟩
        · exact fun i H' _ z => SqL.of (z.1 _ _ pq.hq)
        · rintro i y H9 hi ⟨s9, hD9⟩
          rw [List.getElem?_map] at hi
          obtain ⟨c, ec, rfl⟩ := Option.map_eq_some_iff.mp hi
          have hil : i < M.length := by rw [← pq.la]; exact (List.getElem?_eq_some_iff.mp ec).1
          obtain ⟨u, eu⟩ : ∃ u, M[i]? = some u := ⟨_, List.getElem?_eq_getElem hil⟩
          obtain ⟨a, b', er, a0, a1, b0', b1⟩ := two_at (hrun u (qu.lt u (List.mem_of_getElem? eu)))
          have hc := s9 _ _ (pq.rq i c u ec eu)
          rw [er] at hc
          have s89 := s8.trans s9
          have t1' := (px.tl.2 _ (List.mem_of_getElem? (getD_get ("" : Str) (xs := ss1) (n := a.toNat) (by omega)))).2.1
          have t2' := (py.tl.2 _ (List.mem_of_getElem? (getD_get ("" : Str) (xs := ss2) (n := b'.toNat) (by omega)))).2.1
          have ez : (prT ss1 ss2 r M)[i]? = some (ss1.getD a.toNat "" ++ "/" ++ ss2.getD b'.toNat "") := by unfold prT; rw [List.getElem?_map, eu]; show some (prS ss1 ss2 (r u)) = _; rw [er]; rfl
          refine ⟨c, _, rfl, SqT.of hc, rfl, _, _, rfl, _, _, rfl, rfl, rfl, _, rfl, p1, _, rfl, gTells (s89 _ _ ep1), _, rfl, l1, _, _, _, rfl, rfl, SqL.of (s89 _ _ el1), at_deed a0 (by omega), _, _, rfl, rfl, ?_, _, rfl, p2, _, rfl, gTells (s89 _ _ ep2), _, rfl, l2, _, _, _, rfl, rfl, SqL.of (s89 _ _ el2), at_deed b0' (by omega), _, _, rfl, rfl, ?_, ?_⟩
          · rw [len_tl, len_tl, sizeLine_eq]; have : ("/" : Str).cps.toList.length = 1 := rfl; omega
          · rw [len_tl, len_tl, sizeLine_eq]
            have e1 := TL.tl_append (ss1.getD a.toNat "") "/"
            unfold TL.tl at e1
            rw [e1, List.length_append]; have : ("/" : Str).cps.toList.length = 1 := rfl; omega
          · refine ⟨_, hD9, ?_, fun b' o e => by rw [upd_ne (ne_of_none e hD)]; exact s9 b' o e, ?_⟩
            · rw [List.length_map, List.length_take, sizeLine_eq]; omega
            · rw [upd_same, List.take_add_one, ez, List.map_append]; rfl
        · rintro H9 ⟨s9, hD9⟩
          rw [List.take_of_length_le (by rw [prT_len, List.length_map, pq.la]; exact Nat.le_refl _)] at hD9
          rw [List.take_length] at hRb
          intro pp hpp
          have s89 := s8.trans s9
          have zp : H pp = none := s89.free hpp
          have s10 : Same H9 (upd H9 pp (.dK [])) := same_upd hpp
          refine ⟨_, rfl, p1, _, rfl, gDeeds (s10 _ _ (s89 _ _ ep1)), _, rfl, _, rfl, upd_same, plainK t1 rw D 0, rfl, by show 4 ≤ 15; decide, ?_⟩
          rw [plainK_merge]
          have nn : ∀ {b : Addr} {o : HO}, H9 b = some o → b ≠ pp := fun e => ne_of_none e hpp
          have s11 : Same H9 (upd (upd H9 pp (.dK [])) pp (.dK (plainK t1 rw D 0))) := fun b o e => by rw [upd_ne (nn e)]; exact s10 _ _ e
          have epp : upd (upd H9 pp (.dK [])) pp (.dK (plainK t1 rw D 0)) pp = some (.dK (plainK t1 rw D 0)) := upd_same
          generalize upd (upd H9 pp (.dK [])) pp (.dK (plainK t1 rw D 0)) = H11 at s11 epp ⊢
          exact k pp M n H11 eb zp (s89.trans s11) ⟨t1, rw, D, bs, epp, (et1.same s89).same s11, s11 _ _ (s9 _ _ hrw8), s11 _ _ hD9, (hRb.same s9).same s11⟩
    · rintro σ H' Q1 Q2 hQ ⟨v1, e1, x1, n1, f1, g1, v2, e2, x2, n2, f2, g2, i1, i2, h1, h2, c, h3, h4⟩
      exact ⟨v1, e1, x1, n1, f1, g1, v2, e2, x2, n2, f2, g2, i1, i2, h1, h2, c, h3, hQ _ _ h4⟩
end
end K1
set_option Elab.async false
set_option linter.all false
set_option maxRecDepth 100000
set_option maxHeartbeats 2000000
/-! the law -/
namespace K1
open PySem L2 LamX
abbrev sLaw : Stmt := top 54
abbrev qLaw : Str := "law.<locals>.<lambda>"
def spLaw (K : PySem.W.Frag) (T : List (Addr × Str)) : Sp := fun vs H Q _ => ∃ (a : Addr) (ns : List Int), vs = [.ref a] ∧ SqL K H a (ns.map V.int) ∧ ns.length ≤ 63 ∧ Tabs T H ∧ ∀ H', Q (.bl true) H'
/-- what the law calls -/
structure Fs (P : Program) (w : World) (K : PySem.W.Frag) (mg : Str → Option Value) (base : Heap) (C : Addr) (cs : Cs) (T : List (Addr × Str)) : Prop where
  T2 : Bt2 mg
  M : Tm K mg C
  pen : ∃ f fd, mg "_law_pen" = some (.ref f) ∧ PySem.W.keepIn K (.ref f) = true ∧ Binds K fd ["_law_script"] [] ∧ FnOk P w K mg base CX0 1 f fd ["_law_script"] (spPen K)
  draw : ∃ f fd, mg "_law_draw" = some (.ref f) ∧ PySem.W.keepIn K (.ref f) = true ∧ Binds K fd pDraw [] ∧ FnOk P w K mg base CX0 1 f fd pDraw spDraw
  words : ∃ f fd, mg "_law_words" = some (.ref f) ∧ PySem.W.keepIn K (.ref f) = true ∧ Binds K fd pDraw [] ∧ FnOk P w K mg base CX0 3 f fd pDraw (spWords K)
  made : ∃ f fd, mg "_law_made" = some (.ref f) ∧ PySem.W.keepIn K (.ref f) = true ∧ Binds K fd ["_law_plain_here"] [] ∧ FnOk P w K mg base CX0 7 f fd ["_law_plain_here"] (spMade K C)
  ism : ∃ f fd, mg "_law_is_machine" = some (.ref f) ∧ PySem.W.keepIn K (.ref f) = true ∧ Binds K fd pIsM [] ∧ FnOk P w K mg base CX0 3 f fd pIsM (spIsM K C)
  prod : ∃ f fd, mg "_law_product" = some (.ref f) ∧ PySem.W.keepIn K (.ref f) = true ∧ Binds K fd pProd [] ∧ FnOk P w K mg base CX0 1 f fd pProd (spProd K)
  pair : ∃ f fd, mg "_law_pair" = some (.ref f) ∧ PySem.W.keepIn K (.ref f) = true ∧ Binds K fd pPair [] ∧ FnOk P w K mg base CX0 4 f fd pPair (spPair K)
  told : ∃ f fd, mg "_law_is_told" = some (.ref f) ∧ PySem.W.keepIn K (.ref f) = true ∧ Binds K fd pIsTold [] ∧ FnOk P w K mg base CX0 11 f fd pIsTold (spIsTold K C T)
  ref : ∃ f fd, Df K mg "_law_refused" sRefE pRefE f fd
  mul : ∃ f fd, OwnB K C f (PySem.dunder Operator.Mult.info.2) ∧ Binds K fd pMul [] ∧ FnOk P w K mg base (L2.CX P w) 8 f fd pMul (spMul K C cs.CO cs.CT)
  mach : ∃ f fd ds, Mk K C f ∧ Binds K fd pInit ds ∧ Vals [.int 0] ds ∧ FnOk P w K mg base CX0 5 f fd pInit (spMInit K C)
  oo : ∃ f fd, OOtherDeeds K mg cs.CO f fd
  ot : ∃ f fd, OTooMany K mg cs.CT f fd
  on : ∃ f fd, ONoEntry K mg cs.CN f fd
  ob : ∃ f fd, OBadTell K mg cs.CB f fd
  ol : mg "LooksError" = some (.ref cs.CL)
  any : mg "any" = none
  ee : Ee K cs
abbrev lawBody : List Stmt := forBody (stOf sLaw 1)
/-- a turn's things -/
structure Rnd (K : PySem.W.Frag) (C : Addr) (T : List (Addr × Str)) (H : Hp) (d cc : Addr) (n : Nat) (dw dl p1 x1 x2 du : Addr) (w4 dws : List Str) (rs1 : List (List Int)) (ss1 : List Str) (st1 : Int) (rs2 : List (List Int)) (ss2 : List Str) (st2 : Int) (M : List (List Nat)) : Prop where
  pen : PenAt H d cc n
  tab : Tabs T H
  hdw : H dw = some (.lst (w4.map V.str))
  hdl : H dl = some (.lst (dws.map V.str))
  m1 : MachAt K C H x1 dws rs1 ss1 st1
  m2 : MachAt K C H x2 dws rs2 ss2 st2
  pl1 : PlainAt H p1 dws rs1 ss1 st1
  pdu : PlainAt H du dws (prR dws.length (runT [rs1, rs2] [st1, st2]) M) (prT ss1 ss2 (runT [rs1, rs2] [st1, st2]) M) 0
section
variable {K : PySem.W.Frag} {C : Addr} {T : List (Addr × Str)} {H H' : Hp} {d cc : Addr} {n : Nat} {dw dl p1 x1 x2 du : Addr} {w4 dws : List Str} {rs1 : List (List Int)} {ss1 : List Str} {st1 : Int} {rs2 : List (List Int)} {ss2 : List Str} {st2 : Int} {M : List (List Nat)}
theorem Rnd.same (R : Rnd K C T H d cc n dw dl p1 x1 x2 du w4 dws rs1 ss1 st1 rs2 ss2 st2 M) (s : Same H H') : Rnd K C T H' d cc n dw dl p1 x1 x2 du w4 dws rs1 ss1 st1 rs2 ss2 st2 M :=
  ⟨R.pen.same s, R.tab.same s, s _ _ R.hdw, s _ _ R.hdl, R.m1.same s, R.m2.same s, R.pl1.same s, R.pdu.same s⟩
theorem Rnd.kn (R : Rnd K C T H d cc n dw dl p1 x1 x2 du w4 dws rs1 ss1 st1 rs2 ss2 st2 M) (n1 : dw ≠ d) (n2 : dl ≠ d) (n3 : p1 ≠ d) (n4 : du ≠ d) (k : KeptN d H H') (p : PenAt H' d cc n) (t : Tabs T H') : Rnd K C T H' d cc n dw dl p1 x1 x2 du w4 dws rs1 ss1 st1 rs2 ss2 st2 M := by
  obtain ⟨kv, hd⟩ := R.pen.dk
  exact ⟨p, t, k.lst n1 R.hdw, k.lst n2 R.hdl, R.m1.kn hd k, R.m2.kn hd k, R.pl1.kn hd n3 k, R.pdu.kn hd n4 k⟩
/-- a product's tells are at most 121 signs long -/
theorem tl60 {nn : Nat} (p1' : Parts dws rs1 ss1 st1) (p2' : Parts dws rs2 ss2 st2) (hb : bfs (runT [rs1, rs2] [st1, st2]) dws.length nn = (M, [])) {z : Str} (hz : z ∈ prT ss1 ss2 (runT [rs1, rs2] [st1, st2]) M) : z.length ≤ sizeLine := by
  have I := bfs_ok (runT_c [rs1, rs2] [st1, st2]) dws.length nn
  rw [hb] at I
  obtain ⟨hs, ht⟩ := two_st p1' p2'
  obtain ⟨u, hu, rfl⟩ := List.mem_map.mp hz
  obtain ⟨a, b, e, a0, a1, b0, b1⟩ := two_at (hs.run ht u (I.lt u hu))
  have l1 := p1'.tl.1
  have l2 := p2'.tl.1
  have t1 := (p1'.tl.2 _ (List.mem_of_getElem? (getD_get ("" : Str) (xs := ss1) (n := a.toNat) (by omega)))).2.1
  have t2 := (p2'.tl.2 _ (List.mem_of_getElem? (getD_get ("" : Str) (xs := ss2) (n := b.toNat) (by omega)))).2.1
  rw [e]
  show (ss1.getD a.toNat "" ++ "/" ++ ss2.getD b.toNat "").length ≤ _
  rw [len_tl, tl_two, List.length_append, List.length_append, sizeLine_eq]
  have : ("/" : Str).cps.toList.length = 1 := rfl
  omega
end
section
variable {P : Program} {w : World} {K : PySem.W.Frag} {mg : Str → Option Value} {base : Heap} {C : Addr} {cs : Cs} {T : List (Addr × Str)}
abbrev nLaw : List Str := ["_law_script", "_law_pen_here", "_law_turn", "_law_words_here", "_law_deeds", "_law_one", "_law_other", "_law_first", "_law_second", "_law_due", "_law_told", "_law_tell", "_law_strange"]
theorem scLaw : FnScope nLaw ["_law_script"] (defScope sLaw) := ⟨rfl, rfl, rfl, by decide +kernel, rfl, by decide +kernel, by decide +kernel⟩
theorem ok_law (F : Fs P w K mg base C cs T) {f c pT : Addr} {fd : FuncData} (FL : FunC K "law" "law" sLaw f fd c) (TB : TabB base mg c pT) (mem : (pT, qLaw) ∈ T) (uni : ∀ p ∈ T, p.1 = pT → p.2 = qLaw) : FnOk P w K mg base CX0 12 f fd ["_law_script"] (spLaw K T) := by
  obtain ⟨T2, M, ⟨fE, fdE, mgE, kpE, bE, GE⟩, ⟨fD, fdD, mgD, kpD, bD, GD⟩, ⟨fW, fdW, mgW, kpW, bW, GW⟩, ⟨fM, fdM, mgM, kpM, bM, GM⟩, ⟨fI, fdI, mgI, kpI, bI, GI⟩, ⟨fP, fdP, mgP, kpP, bP, GP⟩, ⟨fR, fdR, mgR, kpR, bR, GR⟩, ⟨fT, fdT, mgT, kpT, bT, GT⟩, ⟨fF, fdF, DF⟩, ⟨fU, fdU, OU, bU, GU⟩, ⟨fN, fdN, dsN, MkN, bN, vN, GN⟩, ⟨_, _, OO⟩, ⟨_, _, OT⟩, ⟨_, _, ON⟩, ⟨_, _, OB⟩, hL, hany, EE⟩ := F
  have T1 : Bt mg := T2.toBt
  refine FL.ok scLaw (fun vs H Q E h => ?_) (fun A outer s H vs Q E hr h => ?_)
  · obtain ⟨a, ns, rfl, _⟩ := h
    rfl
  · obtain ⟨a, ns, rfl, ha, hns, hT, k⟩ := h
    have hu := hu_of hr
    have hr1 : Room 1 (cxOf CX0 P w K mg base nLaw "law" (defScope sLaw) f (.ref c) A outer s H E).nox.A := hr.mono (by decide)
    have hr3 : Room 3 (cxOf CX0 P w K mg base nLaw "law" (defScope sLaw) f (.ref c) A outer s H E).nox.A := hr.mono (by decide)
    have hr4 : Room 4 (cxOf CX0 P w K mg base nLaw "law" (defScope sLaw) f (.ref c) A outer s H E).nox.A := hr.mono (by decide)
    have hr6 : Room 6 (cxOf CX0 P w K mg base nLaw "law" (defScope sLaw) f (.ref c) A outer s H E).nox.A := hr.mono (by decide)
    have hr7 : Room 7 (cxOf CX0 P w K mg base nLaw "law" (defScope sLaw) f (.ref c) A outer s H E).nox.A := hr.mono (by decide)
    have hr8 : Room 8 (cxOf CX0 P w K mg base nLaw "law" (defScope sLaw) f (.ref c) A outer s H E).nox.A := hr.mono (by decide)
    have hr10 : Room 10 (cxOf CX0 P w K mg base nLaw "law" (defScope sLaw) f (.ref c) A outer s H E).nox.A := hr.mono (by decide)
    obtain ⟨tR, htR, hqR⟩ : ∃ tR, PSs (cxOf CX0 P w K mg base nLaw "law" (defScope sLaw) f (.ref c) A outer s H E).nox (lawBody.drop 6) tR ∧ ∀ (D : Ends) (H1 : Hp) (v0 v2 v6 v9 v10 v12 : Option V) (d cc dw dl p1 x1 x2 du : Addr) (n : Nat) (w4 dws : List Str) (rs1 : List (List Int)) (ss1 : List Str) (st1 : Int) (rs2 : List (List Int)) (ss2 : List Str) (st2 : Int) (M : List (List Nat)) (w3 : Str),
        Rnd K C T H1 d cc n dw dl p1 x1 x2 du w4 dws rs1 ss1 st1 rs2 ss2 st2 M → dw ≠ d → dl ≠ d → p1 ≠ d → du ≠ d → w4[3]? = some w3 → Wd w3 → GoodD dws → dws ≠ [w3] → Parts dws rs1 ss1 st1 → Parts dws rs2 ss2 st2 → n ≤ 600000 →
        (∀ (v12 : Option V) (H' : Hp), PenAt H' d cc (n + 300) → Tabs T H' → D.nx [v0, some (.ref d), v2, some (.ref dw), some (.ref dl), some (.ref p1), v6, some (.ref x1), some (.ref x2), v9, v10, none, v12] H') →
        tR D [v0, some (.ref d), v2, some (.ref dw), some (.ref dl), some (.ref p1), v6, some (.ref x1), some (.ref x2), v9, v10, none, v12] H1 := by
      refine ⟨_, pss_cons (ps_set (i := 12) scLaw.nd rfl (Or.inr rfl) (pe_make MkN GN hr6 rfl M.mgC bN vN pass0 (pa_cons (pe_lst (pa_cons (pe_ix (r := rIxL K) ix_list (pv 3) pe_int (fun _ _ => rfl)) pa_nil)) (pa_cons (pe_lst (pa_cons (pe_lst (pa_cons pe_int pa_nil)) pa_nil)) (pa_cons (pe_lst (pa_cons pe_str pa_nil)) pa_nil)))))
        (pss_cons (ps_if (pt_cmpR (op_neD hr.units) (pe_lamS (T := T) (k := 8) DF scRefE rfl (Or.inl rfl) rfl (fun gcd => gives_refE OO OT ON OB hL) TB rfl mem uni hr10 (lamS_by (by show lamSB (defScope sLaw) _ = true; decide +kernel))
          (fun A outer s2 H2 E f c' hr8 => pe_ownB (E := fun _ => E) OU GU hr8 bU (fun σ => passAt (takes_of rfl rfl rfl rfl) σ) (pv 7) (pv 12)))
          (pe_tup (pa_cons pe_str (pa_cons (pe_callTy (r := rTu K) call_tuple_of (by rfl) T1.tuple PyProof.Rows.boot_tuple (pa_cons (pv 4) pa_nil)) (pa_cons (pe_tup (pa_cons (pe_ix (r := rIxL K) ix_list (pv 3) pe_int (fun _ _ => rfl)) pa_nil)) pa_nil)))) (nomark _)) (pss_one (ps_ret pe_bl)) pss_nil)
        (pss_one (ps_if (pt_not (pt_val (pe_call GT hr rfl mgT kpT bT .nil pass0 (pa_cons (pv 1) (pa_cons (pv 7) (pa_cons (pv 5) pa_nil)))))) (pss_one (ps_ret pe_bl)) pss_nil))), ?_⟩
      intro D H1 v0 v2 v6 v9 v10 v12 d cc dw dl p1 x1 x2 du n w4 dws rs1 ss1 st1 rs2 ss2 st2 M' w3 R ndw ndl np1 ndu ew3 wd3 gd hne3 pt1 pt2 hn done
      have ow := ok_wd gd.wd
      have gd3 : GoodD [w3] := ⟨by simp, fun z hz => by rw [List.mem_singleton.mp hz]; exact wd3, Nat.le_of_ble_eq_true rfl, Nat.le_of_ble_eq_true rfl⟩
      have ow3 := ok_wd gd3.wd
      have at3 : ∀ {G : Hp}, atI (w4.map V.str) 3 = some (V.str w3) := fun {G} => atI_nat (j := 3) (by rw [List.getElem?_map, ew3]; rfl)
      refine ⟨_, rfl, dw, _, 3, _, rfl, rfl, SqL.of R.hdw, at3 (G := H1), Nat.le_of_ble_eq_true rfl, fun q1 hq1 => ⟨Nat.le_of_ble_eq_true rfl, fun q2 hq2 => ⟨Nat.le_of_ble_eq_true rfl, fun q3 hq3 => ⟨Nat.le_of_ble_eq_true rfl, fun q4 hq4 => ?_⟩⟩⟩⟩
      have s1 := same_upd (o := .lst [V.str w3]) hq1
      have e1 : upd H1 q1 (.lst [V.str w3]) q1 = some (.lst ([w3].map V.str)) := upd_same
      generalize upd H1 q1 (.lst [V.str w3]) = H2 at s1 e1 hq2 hq3 hq4 ⊢
      have s2 := same_upd (o := .lst [V.int 0]) hq2
      have e2 : upd H2 q2 (.lst [V.int 0]) q2 = some (.lst (([0] : List Int).map V.int)) := upd_same
      generalize upd H2 q2 (.lst [V.int 0]) = H3 at s2 e2 hq3 hq4 ⊢
      have s3 := same_upd (o := .lst [V.ref q2]) hq3
      have e3 : upd H3 q3 (.lst [V.ref q2]) q3 = some (.lst ([q2].map V.ref)) := upd_same
      generalize upd H3 q3 (.lst [V.ref q2]) = H4 at s3 e3 hq4 ⊢
      have s4 := same_upd (o := .lst [V.str "no"]) hq4
      have e4 : upd H4 q4 (.lst [V.str "no"]) q4 = some (.lst ((["no"] : List Str).map V.str)) := upd_same
      generalize upd H4 q4 (.lst [V.str "no"]) = H5 at s4 e4 ⊢
      (try delta tNil)
      intro y dy hy hdy ndy
      have s5 : Same H5 (upd (upd H5 dy (.own y)) y (.ins C dy [])) := fun b o e => by rw [upd_ne (ne_of_none e hy), upd_ne (ne_of_none e hdy)]; exact e
      have tN : Tl "no" := tl_lit (by decide +kernel)
      have pt3 : Parts [w3] [[0]] ["no"] 0 := ⟨gd3, by decide, fun r hr => by rw [List.mem_singleton.mp hr]; exact ⟨rfl, fun x hx => by rw [List.mem_singleton.mp hx]; decide⟩, ⟨rfl, fun z hz => by rw [List.mem_singleton.mp hz]; exact tN⟩, by decide⟩
      refine ⟨y, dy, q1, q3, q4, [q2], [w3], [[0]], ["no"], 0, rfl, upd_same, .inr (SqL.of (s5 _ _ (s4 _ _ (s3 _ _ (s2 _ _ e1))))), SqL.of (s5 _ _ (s4 _ _ e3)), ⟨rfl, fun i a r g1 g2 => ?_⟩, SqL.of (s5 _ _ e4), pt3, fun H6 m3 hk => ⟨rfl, ?_⟩⟩
      · match i, g1, g2 with
        | 0, g1, g2 => cases g1; cases g2; exact s5 _ _ (s4 _ _ (s3 _ _ e2))
        | _ + 1, g1, _ => simp at g1
      have s05 : Same H1 H5 := s1.trans (s2.trans (s3.trans s4))
      have zy : H1 y = none := s05.free hy
      have s06 : Same H1 H6 := fun b o e => hk b o (s5 _ _ (s05 _ _ e)) (ne_of_none e zy)
      have R6 := R.same s06
      -- the strange one
      refine ⟨R6.tab, fun H7 e7 T7 f7 => ?_⟩
      have R7 := R6.kn ndw ndl np1 ndu e7.n (e7.pen R6.pen) T7
      obtain ⟨kv6, hd6⟩ := R6.pen.dk
      have m37 := m3.kn hd6 e7.n
      obtain ⟨dx1, _, _, _, _, hx1, _⟩ := id R7.m1
      obtain ⟨dx3, _, _, _, _, hx3, _⟩ := id m37
      refine ⟨_, rfl, _, rfl, x1, y, dx1, dx3, _, _, rfl, rfl, hx1, hx3, x1, y, dws, rs1, ss1, st1, [w3], [[0]], ["no"], 0, rfl, R7.m1, m37, pt1, pt3, ow, ow3, fun _ t1 t2 ht1 ht2 => rs_o EE (fun q8 G s8 z8 g8 => ?_) f7, fun h => absurd h hne3⟩
      have R8 := R7.same s8
      refine ⟨_, rfl, dl, _, rfl, .inl ⟨SqL.of R8.hdl, fun q9 hq9 => ?_⟩⟩
      have s9 := same_upd (o := .tup (dws.map V.str)) hq9
      have e9 : upd G q9 (.tup (dws.map V.str)) q9 = some (.tup (dws.map V.str)) := upd_same
      generalize upd G q9 (.tup (dws.map V.str)) = H9 at s9 e9 ⊢
      have R9 := R8.same s9
      refine ⟨_, rfl, dw, _, 3, _, rfl, rfl, SqL.of R9.hdw, at3 (G := H9), Nat.le_of_ble_eq_true rfl, fun q10 hq10 => ⟨Nat.le_of_ble_eq_true rfl, fun q11 hq11 => ?_⟩⟩
      have s10 := same_upd (o := .tup [V.str w3]) hq10
      have e10 : upd H9 q10 (.tup [V.str w3]) q10 = some (.tup ([w3].map V.str)) := upd_same
      generalize upd H9 q10 (.tup [V.str w3]) = H10 at s10 e10 hq11 ⊢
      have s11 := same_upd (o := .tup [V.str "deeds", V.ref q9, V.ref q10]) hq11
      have e11 : upd H10 q11 (.tup [V.str "deeds", V.ref q9, V.ref q10]) q11 = some (.tup [V.str "deeds", V.ref q9, V.ref q10]) := upd_same
      generalize upd H10 q11 (.tup [V.str "deeds", V.ref q9, V.ref q10]) = H11 at s11 e11 ⊢
      have s8_11 := s9.trans (s10.trans s11)
      have lay : (PyData.tuple [.str "deeds", .tuple (dws.map PyData.str), .tuple ([w3].map PyData.str)]).canLay0 = true := by
        have o1 : PyData.strOk "deeds" = true := by decide +kernel
        simp only [PyData.canLay0, PyData.canLayAll0, canLay_strs _ ow, canLay_strs _ ow3, o1, Bool.and_self]
      have dep : (PyData.tuple [.str "deeds", .tuple (dws.map PyData.str), .tuple ([w3].map PyData.str)]).depth ≤ 64 := by
        have h1 := depth_strs dws
        have h2 := depth_strs [w3]
        simp only [PyData.depth, PyData.depthAll]
        omega
      refine ⟨_, _, .tup (SqT.of (s8_11 _ _ g8)) (.cons (.str _) (.cons (.tup ((ht1.same s8).same s8_11).sq (dp_strs dws)) (.cons (.tup ((ht2.same s8).same s8_11).sq (dp_strs [w3])) .nil))), .tup (SqT.of e11) (.cons (.str _) (.cons (.tup (SqT.of (s11 _ _ (s10 _ _ e9))) (dp_strs dws)) (.cons (.tup (SqT.of (s11 _ _ e10)) (dp_strs [w3])) .nil))), shaped_of lay dep, shaped_of lay dep, _, rfl, ?_⟩
      rw [PySem.SeqAt.eqv_refl _ lay]
      refine iteF ?_
      have R11 := R8.same s8_11
      refine ⟨_, rfl, _, rfl, _, rfl, d, cc, x1, p1, n, dws, rs1, ss1, st1, rfl, R11.pen, by omega, R11.m1, R11.pl1, np1, pt1, ow, R11.tab, fun H12 p12 k12 T12 => ⟨true, rfl, ?_⟩⟩
      refine iteF ?_
      exact done _ H12 p12 T12
    refine ⟨_, pss_cons (ps_set (i := 1) scLaw.nd rfl (Or.inl rfl) (pe_call GE hr1 rfl mgE kpE bE .nil pass0 (pa_cons (pv 0) pa_nil)))
      (pss_cons (ps_for PassesOwn.never rfl (pi_range1 rfl T1.range (pa_cons (pe_op op_add pe_int (pe_callB (call_min2 rfl) (by rfl) T2.min PyProof.Rows.boot_min (pa_cons pe_int (pa_cons (pe_callB call_len (by rfl) T1.len PySem.boot_len (pa_cons (pv 0) pa_nil)) pa_nil)))) pa_nil)) (pg_name (i := 2) scLaw.nd rfl (Or.inl rfl))
        (pss_cons (ps_set (i := 3) scLaw.nd rfl (Or.inl rfl) (pe_call GW hr3 rfl mgW kpW bW .nil pass0 (pa_cons (pv 1) (pa_cons pe_int pa_nil))))
        (pss_cons (ps_set (i := 4) scLaw.nd rfl (Or.inl rfl) (pe_slice sl_list (pv 3) po_none (po_some (pe_op op_add pe_int (pe_call GD hr1 rfl mgD kpD bD .nil pass0 (pa_cons (pv 1) (pa_cons pe_int pa_nil)))))))
        (pss_cons (ps_asg (pe_call GR hr4 rfl mgR kpR bR .nil pass0 (pa_cons (pv 1) (pa_cons (pv 4) pa_nil))) (pg_unl (by rfl) (pgs_cons (pg_name (i := 5) scLaw.nd rfl (Or.inl rfl)) (pgs_cons (pg_name (i := 6) scLaw.nd rfl (Or.inl rfl)) pgs_nil))))
        (pss_cons (ps_asg (pe_tup (pa_cons (pe_call GM hr7 rfl mgM kpM bM .nil pass0 (pa_cons (pv 5) pa_nil)) (pa_cons (pe_call GM hr7 rfl mgM kpM bM .nil pass0 (pa_cons (pv 6) pa_nil)) (pa_cons (pe_call GP hr1 rfl mgP kpP bP .nil pass0 (pa_cons (pv 5) (pa_cons (pv 6) pa_nil))) pa_nil))))
            (pg_tup (by rfl) (pgs_cons (pg_name (i := 7) scLaw.nd rfl (Or.inr rfl)) (pgs_cons (pg_name (i := 8) scLaw.nd rfl (Or.inr rfl)) (pgs_cons (pg_name (i := 9) scLaw.nd rfl (Or.inl rfl)) pgs_nil)))))
        (pss_cons (ps_set (i := 10) scLaw.nd rfl (Or.inl rfl) (pe_lamS (T := T) (k := 8) DF scRefE rfl (Or.inl rfl) rfl (fun gcd => gives_refE OO OT ON OB hL) TB rfl mem uni hr10 (lamS_by (by show lamSB (defScope sLaw) _ = true; decide +kernel))
          (fun A outer s2 H2 E f c' hr8 => pe_ownB (E := fun _ => E) OU GU hr8 bU (fun σ => passAt (takes_of rfl rfl rfl rfl) σ) (pv 7) (pv 8))))
        (pss_cons (ps_if (pt_cmpR op_gt (pe_callB call_len (by rfl) T1.len PySem.boot_len (pa_cons (pe_dget hu (pv 9) pe_str (fun _ _ => rfl)) pa_nil)) pe_int (nomark _))
            (pss_one (ps_if (pt_cmpR (op_neD hr.units) (pv 10) (pe_tup (pa_cons pe_str (pa_cons pe_str (pa_cons pe_int (pa_cons pe_int pa_nil))))) (nomark _)) (pss_one (ps_ret pe_bl)) pss_nil))
            (pss_one (ps_if (pt_val (pe_callB (cr_any rfl) (by rfl) hany PyProof.Rows.boot_any (pa_cons (pe_lc (own := [("_law_tell", 11)]) (g := gName 11) (by rfl) scLaw.nd (pi_list (pe_dget hu (pv 9) pe_str (fun _ _ => rfl)))
                  (blkOk_by (own := [("_law_tell", 11)]) (N := nLaw) (sc := defScope sLaw) (by decide +kernel)) (fun _ _ _ _ _ => pg_name (i := 11) scLaw.nd rfl (Or.inl rfl)) (fun _ _ _ _ _ => pts_nil)
                  (fun _ _ _ _ _ => pe_cmpR op_gt (pe_callB call_len_str (by rfl) T1.len PySem.boot_len (pa_cons (pv 11) pa_nil)) pe_int (nomark _))) pa_nil)))
              (pss_one (ps_if (pt_cmpR (op_neD hr.units) (pv 10) (pe_tup (pa_cons pe_str (pa_cons pe_str (pa_cons pe_int (pa_cons pe_int pa_nil))))) (nomark _)) (pss_one (ps_ret pe_bl)) pss_nil))
              (pss_one (ps_if (PW.pt (pw_or (pt_cmpR op_notN (pv 10) pe_non (nomark _)) (pw_or1 (pt_not (pt_val (pe_call GI hr3 rfl mgI kpI bI .nil pass0 (pa_cons (pe_ownB (E := fun _ => E0) OU GU hr8 bU (fun σ pins H s e s' I h => passL pins σ H s e s' I h) (pv 7) (pv 8)) (pa_cons (pv 9) pa_nil)))))))) (pss_one (ps_ret pe_bl)) pss_nil)))))
        htR)))))))
      (pss_one (ps_ret pe_bl))), ?_⟩
    refine ⟨_, rfl, a, ns, rfl, ha, hns, fun d cc Hs hd0 hc0 hpen0 sm0 => ?_⟩
    refine ⟨_, rfl, _, ns.length, rfl, .inl ⟨_, sm0.seq ha, (List.length_map _).symm⟩, _, _, rfl, _, _, rfl, rfl, ?_⟩
    obtain ⟨J, eJ, hJ⟩ : ∃ J : Nat, (4 + (if (ns.length : Int) < 5 then (ns.length : Int) else 5)) = (J : Int) ∧ J ≤ 9 := by
      by_cases h : (ns.length : Int) < 5
      · rw [if_pos h]; exact ⟨4 + ns.length, by omega, by omega⟩
      · rw [if_neg h]; exact ⟨9, by omega, by omega⟩
    refine ⟨(J : Int), by rw [← eJ], by omega, by omega, ?_⟩
    rw [Int.toNat_natCast]
    refine for_range (lo := 0) (n := J) (fun i σ H' => ∃ (v2 v3 v4 v5 v6 v7 v8 v9 v10 v12 : Option V) (n : Nat), σ = [some (.ref a), some (.ref d), v2, v3, v4, v5, v6, v7, v8, v9, v10, none, v12] ∧ PenAt H' d cc n ∧ n ≤ 2000 * i ∧ Tabs T H') ?_ ?_ ?_
    · exact ⟨_, _, _, _, _, _, _, _, _, _, 0, rfl, hpen0, Nat.le_refl _, hT.same sm0⟩
    · rintro i σ H1 hi ⟨v2, v3, v4, v5, v6, v7, v8, v9, v10, v12, n, rfl, hp1, hn, hT1⟩
      -- words
      refine ⟨_, rfl, d, cc, n, 4, rfl, hp1, by omega, by decide, fun dw w4 H2 hdw0 hdw2 hwl hnd hwd _ hp2 kp2 => ?_⟩
      have hT2 := hT1.pen hp1 kp2
      have ndw := (hp1.ne hdw0).1
      -- deeds
      refine ⟨_, rfl, _, rfl, d, cc, _, 3, rfl, hp2, by omega, by decide, by decide, fun r0 H3 r00 r01 hp3 kp3 => ⟨_, _, rfl, rfl, ?_⟩⟩
      obtain ⟨m, em, hm⟩ : ∃ m : Nat, 1 + r0 = (m : Int) ∧ (1 ≤ m ∧ m ≤ 3) := ⟨(1 + r0).toNat, by omega, by omega, by omega⟩
      have hT3 := hT2.pen hp2 kp3
      have hdw3 := kp3 _ _ hdw2 ndw
      refine ⟨_, by show V.int (1 + r0) = _; rw [em], dw, _, rfl, SqL.of hdw3, fun dl hdl => ?_⟩
      rw [cut_to (by rw [List.length_map, hwl]; omega), ← List.map_take]
      have s4 := same_upd (o := .lst ((w4.take m).map V.str)) hdl
      have edl4 : upd H3 dl (.lst ((w4.take m).map V.str)) dl = some (.lst ((w4.take m).map V.str)) := upd_same
      have hp4 := hp3.same s4
      have hT4 := hT3.same s4
      have hdw4 := s4 _ _ hdw3
      have ndl := (hp3.ne hdl).1
      generalize upd H3 dl (.lst ((w4.take m).map V.str)) = H4 at s4 edl4 hp4 hT4 hdw4 ⊢
      obtain ⟨w3, ew3⟩ : ∃ z, w4[3]? = some z := ⟨_, List.getElem?_eq_getElem (by omega)⟩
      have hlm : (w4.take m).length = m := by rw [List.length_take]; omega
      have gd : GoodD (w4.take m) := ⟨hnd.sublist (List.take_sublist _ _), fun z hz => hwd z (List.mem_of_mem_take hz), by omega, by omega⟩
      have wd3 : Wd w3 := hwd w3 (List.mem_of_getElem? ew3)
      have hne3 : w4.take m ≠ [w3] := fun e => by
        have h1 : m = 1 := by have := congrArg List.length e; rw [hlm] at this; exact this
        have h2 : (w4.take m)[0]? = some w3 := by rw [e]; rfl
        rw [List.getElem?_take, if_pos (by omega)] at h2
        have h3 := (List.getElem?_eq_some_iff.mp h2)
        have h4 := (List.getElem?_eq_some_iff.mp ew3)
        obtain ⟨b1, c1⟩ := h3
        obtain ⟨b2, c2⟩ := h4
        have := (List.getElem_inj hnd).mp (c1.trans c2.symm)
        omega
      clear hnd hwd em r00 r01
      generalize w4.take m = dws at *
      -- the pair
      refine ⟨_, rfl, _, rfl, d, cc, dl, _, dws, rfl, hp4, by omega, SqL.of edl4, ndl, gd, fun lp p1 p2 rs1 ss1 st1 rs2 ss2 st2 H5 zl z1 z2 el5 tw p5 k5 => ?_⟩
      refine ⟨lp, _, rfl, SqL.of el5, rfl, _, _, rfl, _, _, rfl, rfl, ?_⟩
      dsimp only
      have hT5 := hT4.pen hp4 k5
      have hdw5 := k5 _ _ hdw4 ndw
      have edl5 := k5 _ _ edl4 ndl
      have np1 := (hp4.ne z1).1
      have ow := ok_wd gd.wd
      -- made, made, product
      refine ⟨_, rfl, p1, dws, rs1, ss1, st1, rfl, tw.pl1, tw.pt1, fun x1 H6 hx1 m1 s6 => ?_⟩
      refine ⟨_, rfl, p2, dws, rs2, ss2, st2, rfl, tw.pl2.same s6, tw.pt2, fun x2 H7 hx2 m2 s7 => ?_⟩
      refine ⟨_, rfl, _, rfl, p1, p2, dws, rs1, ss1, st1, rs2, ss2, st2, rfl, (tw.pl1.same s6).same s7, (tw.pl2.same s6).same s7, tw.pt1, tw.pt2, fun du M nn H8 hb zdu s8 pdu => ?_⟩
      refine ⟨Nat.le_of_ble_eq_true rfl, fun tp htp => ?_⟩
      have s9 := same_upd (o := .tup [V.ref x1, V.ref x2, V.ref du]) htp
      have e9 : upd H8 tp (.tup [V.ref x1, V.ref x2, V.ref du]) tp = some (.tup [V.ref x1, V.ref x2, V.ref du]) := upd_same
      have ndu : du ≠ d := ((p5.same (s6.trans s7)).ne zdu).1
      have s59 := s6.trans (s7.trans (s8.trans s9))
      generalize upd H8 tp (.tup [V.ref x1, V.ref x2, V.ref du]) = H9 at s9 e9 s59 ⊢
      refine ⟨tp, _, rfl, SqT.of e9, rfl, _, _, rfl, _, _, rfl, _, _, rfl, rfl, ?_⟩
      dsimp only
      have R9 : Rnd K C T H9 d cc (n + 20 + 1 + 1000) dw dl p1 x1 x2 du w4 dws rs1 ss1 st1 rs2 ss2 st2 M :=
        ⟨p5.same s59, hT5.same s59, s59 _ _ hdw5, s59 _ _ edl5, (m1.same (s7.trans (s8.trans s9))), (m2.same (s8.trans s9)), tw.pl1.same s59, pdu.same s9⟩
      have I : BfsI (runT [rs1, rs2] [st1, st2]) dws.length nn M [] := by
        have := bfs_ok (runT_c [rs1, rs2] [st1, st2]) dws.length nn
        rw [hb] at this
        exact this
      -- told
      refine ⟨R9.tab, fun H10 e10 T10 f10 => ?_⟩
      have R10 := R9.kn ndw ndl np1 ndu e10.n (e10.pen R9.pen) T10
      obtain ⟨dx1, _, _, _, _, hx10, _⟩ := id R10.m1
      obtain ⟨dx2, _, _, _, _, hx20, _⟩ := id R10.m2
      refine ⟨_, rfl, _, rfl, x1, x2, dx1, dx2, _, _, rfl, rfl, hx10, hx20, x1, x2, dws, rs1, ss1, st1, dws, rs2, ss2, st2, rfl, R10.m1, R10.m2, tw.pt1, tw.pt2, ow, ow, fun h => absurd rfl h, fun _ => ⟨nn, M, hb, fun hbig => ?_, fun hle hlong => ?_, fun hle hall y H11 hy s11 my => ⟨y, rfl, ?_⟩⟩⟩
      · refine rs_t EE (fun q10 G s11 zq gq => ?_) f10
        have R11 := R10.same s11
        obtain ⟨td, rd, ld, ad, epd, etd, erd, eld, hRd⟩ := id R11.pdu
        refine ⟨_, rfl, du, _, rfl, gRows epd, _, M.length, rfl, .inl ⟨_, SqL.of erd, by rw [List.length_map, hRd.1, prR_len]⟩, _, _, rfl, rfl, _, rfl, ?_⟩
        refine ite2 (fun _ => ?_) (fun h => absurd (decide_eq_true (by omega)) h)
        refine ⟨_, rfl, Nat.le_of_ble_eq_true rfl, fun q hq => ?_⟩
        have sq := same_upd (o := .tup [V.str "many", V.str "states", V.int 61, V.int 60]) hq
        refine ⟨_, _, .tup (SqT.of (sq _ _ gq)) (.cons (.str _) (.cons (.str _) (.cons (.int _) (.cons (.int _) .nil)))), .tup (SqT.of upd_same) (.cons (.str _) (.cons (.str _) (.cons (.int _) (.cons (.int _) .nil)))), by decide +kernel, by decide +kernel, _, rfl, ?_⟩
        rw [PySem.SeqAt.eqv_refl _ (by decide +kernel)]
        refine iteF ?_
        exact hqR _ _ _ _ _ _ _ _ d cc dw dl p1 x1 x2 du _ w4 dws rs1 ss1 st1 rs2 ss2 st2 M w3 (R11.same sq) ndw ndl np1 ndu ew3 wd3 gd hne3 tw.pt1 tw.pt2 (by omega) fun v12 H' p' T' => ⟨_, _, _, _, _, _, _, _, _, _, _, rfl, p', by omega, T'⟩
      · refine rs_t EE (fun q10 G s11 zq gq => ?_) f10
        have R11 := R10.same s11
        obtain ⟨td, rd, ld, ad, epd, etd, erd, eld, hRd⟩ := id R11.pdu
        refine ⟨_, rfl, du, _, rfl, gRows epd, _, M.length, rfl, .inl ⟨_, SqL.of erd, by rw [List.length_map, hRd.1, prR_len]⟩, _, _, rfl, rfl, _, rfl, ?_⟩
        refine ite2 (fun h => absurd (of_decide_eq_true h) (by omega)) (fun _ => ?_)
        refine ⟨_, rfl, du, _, rfl, gTells epd, ld, rfl, ⟨_, SqL.of eld⟩, fun D hD => ?_⟩
        refine lc_list (K := K) (a := ld) (xs := (prT ss1 ss2 (runT [rs1, rs2] [st1, st2]) M).map V.str) (fun i H' => Same G H' ∧ H' D = some (.lst ((((prT ss1 ss2 (runT [rs1, rs2] [st1, st2]) M).take i).map fun z => decide ((60 : Int) < (z.length : Int))).map V.bl))) ?_ ?_ ?_ ?_
        · exact ⟨same_upd hD, upd_same⟩
        · exact fun i H' _ q => SqL.of (q.1 _ _ eld)
        · rintro i yv H12 hi ⟨s12, hD12⟩
          rw [List.getElem?_map] at hi
          obtain ⟨z, ez, rfl⟩ := Option.map_eq_some_iff.mp hi
          have hil := (List.getElem?_eq_some_iff.mp ez).1
          rw [prT_len] at hil
          refine ⟨rfl, _, rfl, z, rfl, tl60 tw.pt1 tw.pt2 hb (List.mem_of_getElem? ez), _, _, rfl, rfl, ?_⟩
          refine ⟨_, hD12, ?_, fun b' o e => by rw [upd_ne (ne_of_none e hD)]; exact s12 b' o e, ?_⟩
          · rw [List.length_map, List.length_map, List.length_take, sizeLine_eq]; omega
          · rw [upd_same, List.take_add_one, ez, List.map_append, List.map_append]; rfl
        rintro H12 ⟨s12, hD12⟩
        rw [List.length_map, List.take_length] at hD12
        have hany' : ((prT ss1 ss2 (runT [rs1, rs2] [st1, st2]) M).map fun z => decide ((60 : Int) < (z.length : Int))).any id = true := by
          obtain ⟨z, hz, h60⟩ := hlong
          rw [List.any_eq_true]
          exact ⟨true, List.mem_map.mpr ⟨z, hz, decide_eq_true (by omega)⟩, rfl⟩
        refine ⟨D, _, rfl, SqL.of hD12, ?_⟩
        rw [hany']
        refine ⟨true, rfl, ?_⟩
        refine iteT ?_
        have R12 := R11.same s12
        refine ⟨_, rfl, Nat.le_of_ble_eq_true rfl, fun q hq => ?_⟩
        have sq := same_upd (o := .tup [V.str "many", V.str "characters", V.int 61, V.int 60]) hq
        refine ⟨_, _, .tup (SqT.of (sq _ _ (s12 _ _ gq))) (.cons (.str _) (.cons (.str _) (.cons (.int _) (.cons (.int _) .nil)))), .tup (SqT.of upd_same) (.cons (.str _) (.cons (.str _) (.cons (.int _) (.cons (.int _) .nil)))), by decide +kernel, by decide +kernel, _, rfl, ?_⟩
        rw [PySem.SeqAt.eqv_refl _ (by decide +kernel)]
        refine iteF ?_
        exact hqR _ _ _ _ _ _ _ _ d cc dw dl p1 x1 x2 du _ w4 dws rs1 ss1 st1 rs2 ss2 st2 M w3 (R12.same sq) ndw ndl np1 ndu ew3 wd3 gd hne3 tw.pt1 tw.pt2 (by omega) fun v12 H' p' T' => ⟨_, _, _, _, _, _, _, _, _, _, _, rfl, p', by omega, T'⟩
      · have R11 := R10.same s11
        obtain ⟨td, rd, ld, ad, epd, etd, erd, eld, hRd⟩ := id R11.pdu
        refine ⟨_, rfl, du, _, rfl, gRows epd, _, M.length, rfl, .inl ⟨_, SqL.of erd, by rw [List.length_map, hRd.1, prR_len]⟩, _, _, rfl, rfl, _, rfl, ?_⟩
        refine ite2 (fun h => absurd (of_decide_eq_true h) (by omega)) (fun _ => ?_)
        refine ⟨_, rfl, du, _, rfl, gTells epd, ld, rfl, ⟨_, SqL.of eld⟩, fun D hD => ?_⟩
        refine lc_list (K := K) (a := ld) (xs := (prT ss1 ss2 (runT [rs1, rs2] [st1, st2]) M).map V.str) (fun i H' => Same H11 H' ∧ H' D = some (.lst ((((prT ss1 ss2 (runT [rs1, rs2] [st1, st2]) M).take i).map fun z => decide ((60 : Int) < (z.length : Int))).map V.bl))) ?_ ?_ ?_ ?_
        · exact ⟨same_upd hD, upd_same⟩
        · exact fun i H' _ q => SqL.of (q.1 _ _ eld)
        · rintro i yv H12 hi ⟨s12, hD12⟩
          rw [List.getElem?_map] at hi
          obtain ⟨z, ez, rfl⟩ := Option.map_eq_some_iff.mp hi
          have hil := (List.getElem?_eq_some_iff.mp ez).1
          rw [prT_len] at hil
          refine ⟨rfl, _, rfl, z, rfl, tl60 tw.pt1 tw.pt2 hb (List.mem_of_getElem? ez), _, _, rfl, rfl, ?_⟩
          refine ⟨_, hD12, ?_, fun b' o e => by rw [upd_ne (ne_of_none e hD)]; exact s12 b' o e, ?_⟩
          · rw [List.length_map, List.length_map, List.length_take, sizeLine_eq]; omega
          · rw [upd_same, List.take_add_one, ez, List.map_append, List.map_append]; rfl
        rintro H12 ⟨s12, hD12⟩
        rw [List.length_map, List.take_length] at hD12
        have hany' : ((prT ss1 ss2 (runT [rs1, rs2] [st1, st2]) M).map fun z => decide ((60 : Int) < (z.length : Int))).any id = false := by
          rw [List.any_eq_false]
          intro b hb'
          obtain ⟨z, hz, rfl⟩ := List.mem_map.mp hb'
          have := hall z hz
          simp; omega
        refine ⟨D, _, rfl, SqL.of hD12, ?_⟩
        rw [hany']
        refine ⟨false, rfl, ?_⟩
        refine iteF ?_
        have R12 := R11.same s12
        obtain ⟨dx1', _, _, _, _, hx1', _⟩ := id R12.m1
        obtain ⟨dx2', _, _, _, _, hx2', _⟩ := id R12.m2
        refine ⟨_, rfl, rfl, _, rfl, ?_⟩
        refine iteF ?_
        refine ⟨_, rfl, _, rfl, x1, x2, dx1', dx2', _, _, rfl, rfl, hx1', hx2', x1, x2, dws, rs1, ss1, st1, dws, rs2, ss2, st2, rfl, R12.m1, R12.m2, tw.pt1, tw.pt2, ow, ow, fun h => absurd rfl h, fun _ => ⟨nn, M, hb, fun hbig => absurd hle (by omega), fun _ ⟨z, hz, hz60⟩ => absurd (hall z hz) (by omega), fun _ _ y2 H13 hy2 s13 my2 => ⟨y2, rfl, ?_⟩⟩⟩
        have R13 := R12.same s13
        have ptd := pr_parts tw.pt1 tw.pt2 hb hle hall
        refine ⟨_, rfl, y2, du, dws, _, _, 0, rfl, my2, R13.pdu, ow, ok_tl ptd.tl.2, ptd.many.2, fun H14 s14 => ⟨true, rfl, ?_⟩⟩
        refine iteF ?_
        exact hqR _ _ _ _ _ _ _ _ d cc dw dl p1 x1 x2 du _ w4 dws rs1 ss1 st1 rs2 ss2 st2 M w3 (R13.same s14) ndw ndl np1 ndu ew3 wd3 gd hne3 tw.pt1 tw.pt2 (by omega) fun v12 H' p' T' => ⟨_, _, _, _, _, _, _, _, _, _, _, rfl, p', by omega, T'⟩
    · rintro σ H1 _
      exact k H1
end
end K1
set_option Elab.async false
set_option linter.all false
set_option maxRecDepth 100000
namespace K1
open PySem PyProof.Rows L2 LamX
set_option maxHeartbeats 0 in
theorem all_mk {l : PySem.W.OpenLaw} {q : Program} {w : World} {K : PySem.W.Frag} {h : Heap} {mg : Str → Option Value}
    {E0 f1 f2 f3 f4 f5 f6 f7 f8 f9 f10 f11 f12 f13 cc13 pt13 f14 cc14 pt14 f15 f16 f17 f18 f19 f20 f21 f22 f23 f24 f25 f26 T26 C f27 T27 f28 f29 f30 EO NO f31 ET NT f32 EN NN f33 EB NB f34 EU NU f35 fa : Addr}
    {od1 an1 od2 an2 od3 an3 od4 an4 od5 an5 od6 an6 od7 an7 od8 an8 od9 an9 od10 an10 od11 an11 od12 an12 dd13c od13 an13 dd14c od14 an14 od15 an15 od16 an16 od17 an17 od18 an18 od19 an19 od20 an20 od21 an21 od22 an22 od23 an23 od24 an24 od25 an25 odT26 od26 an26 odT27 od27 an27 od28 an28 od29 an29 od30 an30 ddO od31 an31 ddT od32 an32 ddN od33 an33 ddB od34 an34 ddU od35 an35 : Option Addr}
    {sl1 sl2 sl3 sl4 sl5 sl6 sl7 sl8 sl9 sl10 sl11 sl12 slc13 sl13 slc14 sl14 sl15 sl16 sl17 sl18 sl19 sl20 sl21 sl22 sl23 sl24 sl25 slT26 sl26 slT27 sl27 sl28 sl29 sl30 sl31 sl32 sl33 sl34 sl35 : Array (Option Value)}
    {oc1 kV1 dc1 pm1 ct1 cd1 oc2 kV2 dc2 pm2 ct2 cd2 oc3 kV3 dc3 pm3 ct3 cd3 oc4 kV4 dc4 pm4 ct4 cd4 oc5 kV5 dc5 pm5 ct5 cd5 oc6 kV6 dc6 pm6 ct6 cd6 oc7 kV7 dc7 pm7 ct7 cd7 oc8 kV8 dc8 pm8 ct8 cd8 oc9 kV9 dc9 pm9 ct9 cd9 oc10 kV10 dc10 pm10 ct10 cd10 oc11 kV11 dc11 pm11 ct11 cd11 oc12 kV12 dc12 pm12 ct12 cd12 ec13 oc13 kV13 dc13 pm13 ct13 ec14 oc14 kV14 dc14 pm14 ct14 oc15 kV15 dc15 pm15 ct15 cd15 oc16 kV16 dc16 pm16 ct16 cd16 oc17 kV17 dc17 pm17 ct17 cd17 oc18 kV18 dc18 pm18 ct18 cd18 oc19 kV19 dc19 pm19 ct19 cd19 oc20 kV20 dc20 pm20 ct20 cd20 oc21 kV21 dc21 pm21 ct21 cd21 oc22 kV22 dc22 pm22 ct22 cd22 oc23 kV23 dc23 pm23 ct23 cd23 oc24 kV24 dc24 pm24 ct24 cd24 oc25 kV25 dc25 pm25 ct25 cd25 ocT26 oc26 kV26 dc26 pm26 ct26 cd26 ocT27 oc27 kV27 dc27 pm27 ct27 cd27 oc28 kV28 dc28 pm28 ct28 cd28 oc29 kV29 dc29 pm29 ct29 cd29 oc30 kV30 dc30 pm30 ct30 cd30 oc31 kV31 dc31 pm31 ct31 cd31 oc32 kV32 dc32 pm32 ct32 cd32 oc33 kV33 dc33 pm33 ct33 cd33 oc34 kV34 dc34 pm34 ct34 cd34 oc35 kV35 dc35 pm35 ct35 cd35 : Value}
    {m0O m1O m2O m3O m5O m0T m1T m2T m3T m5T m0N m1N m2N m3N m5N m0B m1B m2B m3B m5B m0U m1U m2U m3U m5U : Option Value}
    {tc0 tc1 tc2 tc3 tc4 tc5 tc6 : Tok}
    {nT26 nT27 : Nat}
    {nmO qnO nmT qnT nmN qnN nmB qnB nmU qnU : Str}
    {bsO subO bsT subT bsN subN bsB subB bsU subU : List Value}
    {snO snT snN snB snU : List Str}
    {abO abT abN abB abU : Bool}
    {colO colT colN colB colU : Option Bool}
    {vs13 vs14 : Array Value}
    (X : K.In h) (G : h.Ns mainGlobals mg) (hfa : mg "law" = some (.ref fa)) (O : OwnTabs q mg h)
    (a1 : PySem.W.nsIn K mainGlobals "_law_pen" = some (some (.ref f1)))
    (l1 : K.lookup f1 = some ⟨oc1, od1, .func (PySem.W.fnOf "_law_pen" "_law_pen" (defArgs sPen) (defBody sPen) (defScope sPen) .none kV1 dc1 pm1 an1 cd1 ct1), sl1⟩)
    (c1 : PySem.W.codeIn K (cd1) "_law_pen" = true)
    (k1 : PySem.W.keepIn K (.ref f1) = true)
    (a2 : PySem.W.nsIn K mainGlobals "_law_draw" = some (some (.ref f2)))
    (l2 : K.lookup f2 = some ⟨oc2, od2, .func (PySem.W.fnOf "_law_draw" "_law_draw" (defArgs sDraw) (defBody sDraw) (defScope sDraw) .none kV2 dc2 pm2 an2 cd2 ct2), sl2⟩)
    (c2 : PySem.W.codeIn K (cd2) "_law_draw" = true)
    (k2 : PySem.W.keepIn K (.ref f2) = true)
    (a3 : PySem.W.nsIn K mainGlobals "_law_pick" = some (some (.ref f3)))
    (l3 : K.lookup f3 = some ⟨oc3, od3, .func (PySem.W.fnOf "_law_pick" "_law_pick" (defArgs sPick) (defBody sPick) (defScope sPick) .none kV3 dc3 pm3 an3 cd3 ct3), sl3⟩)
    (c3 : PySem.W.codeIn K (cd3) "_law_pick" = true)
    (k3 : PySem.W.keepIn K (.ref f3) = true)
    (a4 : PySem.W.nsIn K mainGlobals "_law_shuffled" = some (some (.ref f4)))
    (l4 : K.lookup f4 = some ⟨oc4, od4, .func (PySem.W.fnOf "_law_shuffled" "_law_shuffled" (defArgs sShufL) (defBody sShufL) (defScope sShufL) .none kV4 dc4 pm4 an4 cd4 ct4), sl4⟩)
    (c4 : PySem.W.codeIn K (cd4) "_law_shuffled" = true)
    (k4 : PySem.W.keepIn K (.ref f4) = true)
    (a5 : PySem.W.nsIn K mainGlobals "_law_words" = some (some (.ref f5)))
    (l5 : K.lookup f5 = some ⟨oc5, od5, .func (PySem.W.fnOf "_law_words" "_law_words" (defArgs sWords) (defBody sWords) (defScope sWords) .none kV5 dc5 pm5 an5 cd5 ct5), sl5⟩)
    (c5 : PySem.W.codeIn K (cd5) "_law_words" = true)
    (k5 : PySem.W.keepIn K (.ref f5) = true)
    (a6 : PySem.W.nsIn K mainGlobals "_law_plain" = some (some (.ref f6)))
    (l6 : K.lookup f6 = some ⟨oc6, od6, .func (PySem.W.fnOf "_law_plain" "_law_plain" (defArgs sPlain) (defBody sPlain) (defScope sPlain) .none kV6 dc6 pm6 an6 cd6 ct6), sl6⟩)
    (c6 : PySem.W.codeIn K (cd6) "_law_plain" = true)
    (k6 : PySem.W.keepIn K (.ref f6) = true)
    (a7 : PySem.W.nsIn K mainGlobals "_law_made" = some (some (.ref f7)))
    (l7 : K.lookup f7 = some ⟨oc7, od7, .func (PySem.W.fnOf "_law_made" "_law_made" (defArgs sMade) (defBody sMade) (defScope sMade) .none kV7 dc7 pm7 an7 cd7 ct7), sl7⟩)
    (c7 : PySem.W.codeIn K (cd7) "_law_made" = true)
    (k7 : PySem.W.keepIn K (.ref f7) = true)
    (a8 : PySem.W.nsIn K mainGlobals "_law_is_machine" = some (some (.ref f8)))
    (l8 : K.lookup f8 = some ⟨oc8, od8, .func (PySem.W.fnOf "_law_is_machine" "_law_is_machine" (defArgs sIsM) (defBody sIsM) (defScope sIsM) .none kV8 dc8 pm8 an8 cd8 ct8), sl8⟩)
    (c8 : PySem.W.codeIn K (cd8) "_law_is_machine" = true)
    (k8 : PySem.W.keepIn K (.ref f8) = true)
    (a9 : PySem.W.nsIn K mainGlobals "_law_product" = some (some (.ref f9)))
    (l9 : K.lookup f9 = some ⟨oc9, od9, .func (PySem.W.fnOf "_law_product" "_law_product" (defArgs sProd) (defBody sProd) (defScope sProd) .none kV9 dc9 pm9 an9 cd9 ct9), sl9⟩)
    (c9 : PySem.W.codeIn K (cd9) "_law_product" = true)
    (k9 : PySem.W.keepIn K (.ref f9) = true)
    (a10 : PySem.W.nsIn K mainGlobals "_law_refused" = some (some (.ref f10)))
    (l10 : K.lookup f10 = some ⟨oc10, od10, .func (PySem.W.fnOf "_law_refused" "_law_refused" (defArgs sRefE) (defBody sRefE) (defScope sRefE) .none kV10 dc10 pm10 an10 cd10 ct10), sl10⟩)
    (c10 : PySem.W.codeIn K (cd10) "_law_refused" = true)
    (k10 : PySem.W.keepIn K (.ref f10) = true)
    (a11 : PySem.W.nsIn K mainGlobals "_law_ring" = some (some (.ref f11)))
    (l11 : K.lookup f11 = some ⟨oc11, od11, .func (PySem.W.fnOf "_law_ring" "_law_ring" (defArgs sRing) (defBody sRing) (defScope sRing) .none kV11 dc11 pm11 an11 cd11 ct11), sl11⟩)
    (c11 : PySem.W.codeIn K (cd11) "_law_ring" = true)
    (k11 : PySem.W.keepIn K (.ref f11) = true)
    (a12 : PySem.W.nsIn K mainGlobals "_law_pair" = some (some (.ref f12)))
    (l12 : K.lookup f12 = some ⟨oc12, od12, .func (PySem.W.fnOf "_law_pair" "_law_pair" (defArgs sPair) (defBody sPair) (defScope sPair) .none kV12 dc12 pm12 an12 cd12 ct12), sl12⟩)
    (c12 : PySem.W.codeIn K (cd12) "_law_pair" = true)
    (k12 : PySem.W.keepIn K (.ref f12) = true)
    (a13 : PySem.W.nsIn K mainGlobals "_law_is_told" = some (some (.ref f13)))
    (l13 : K.lookup f13 = some ⟨oc13, od13, .func (PySem.W.fnOf "_law_is_told" "_law_is_told" (defArgs sIsTold) (defBody sIsTold) (defScope sIsTold) .none kV13 dc13 pm13 an13 (.ref cc13) ct13), sl13⟩)
    (c13 : PySem.W.codeIn K ((.ref cc13)) "_law_is_told" = true)
    (k13 : PySem.W.keepIn K (.ref f13) = true)
    (lc13 : K.lookup cc13 = some ⟨ec13, dd13c, .fields vs13, slc13⟩)
    (h13 : vs13[11]? = some (.ref pt13))
    (np13 : K.lookup pt13 = none)
    (mr13 : ((recsOf q).any fun e => e.name == ("_law_is_told" : Str)) = true)
    (a14 : PySem.W.nsIn K mainGlobals "law" = some (some (.ref f14)))
    (l14 : K.lookup f14 = some ⟨oc14, od14, .func (PySem.W.fnOf "law" "law" (defArgs sLaw) (defBody sLaw) (defScope sLaw) .none kV14 dc14 pm14 an14 (.ref cc14) ct14), sl14⟩)
    (c14 : PySem.W.codeIn K ((.ref cc14)) "law" = true)
    (k14 : PySem.W.keepIn K (.ref f14) = true)
    (lc14 : K.lookup cc14 = some ⟨ec14, dd14c, .fields vs14, slc14⟩)
    (h14 : vs14[11]? = some (.ref pt14))
    (np14 : K.lookup pt14 = none)
    (mr14 : ((recsOf q).any fun e => e.name == ("law" : Str)) = true)
    (a15 : PySem.W.nsIn K mainGlobals "is_integer" = some (some (.ref f15)))
    (l15 : K.lookup f15 = some ⟨oc15, od15, .func (PySem.W.fnOf "is_integer" "is_integer" (defArgs sIsInt) (defBody sIsInt) (defScope sIsInt) .none kV15 dc15 pm15 an15 cd15 ct15), sl15⟩)
    (c15 : PySem.W.codeIn K (cd15) "is_integer" = true)
    (k15 : PySem.W.keepIn K (.ref f15) = true)
    (a16 : PySem.W.nsIn K mainGlobals "is_index" = some (some (.ref f16)))
    (l16 : K.lookup f16 = some ⟨oc16, od16, .func (PySem.W.fnOf "is_index" "is_index" (defArgs sIsIndex) (defBody sIsIndex) (defScope sIsIndex) .none kV16 dc16 pm16 an16 cd16 ct16), sl16⟩)
    (c16 : PySem.W.codeIn K (cd16) "is_index" = true)
    (k16 : PySem.W.keepIn K (.ref f16) = true)
    (a17 : PySem.W.nsIn K mainGlobals "is_word" = some (some (.ref f17)))
    (l17 : K.lookup f17 = some ⟨oc17, od17, .func (PySem.W.fnOf "is_word" "is_word" (defArgs sIsWord) (defBody sIsWord) (defScope sIsWord) .none kV17 dc17 pm17 an17 cd17 ct17), sl17⟩)
    (c17 : PySem.W.codeIn K (cd17) "is_word" = true)
    (k17 : PySem.W.keepIn K (.ref f17) = true)
    (a18 : PySem.W.nsIn K mainGlobals "is_tell" = some (some (.ref f18)))
    (l18 : K.lookup f18 = some ⟨oc18, od18, .func (PySem.W.fnOf "is_tell" "is_tell" (defArgs sIsTell) (defBody sIsTell) (defScope sIsTell) .none kV18 dc18 pm18 an18 cd18 ct18), sl18⟩)
    (c18 : PySem.W.codeIn K (cd18) "is_tell" = true)
    (k18 : PySem.W.keepIn K (.ref f18) = true)
    (a19 : PySem.W.nsIn K mainGlobals "check_different" = some (some (.ref f19)))
    (l19 : K.lookup f19 = some ⟨oc19, od19, .func (PySem.W.fnOf "check_different" "check_different" (defArgs sCheckDiff) (defBody sCheckDiff) (defScope sCheckDiff) .none kV19 dc19 pm19 an19 cd19 ct19), sl19⟩)
    (c19 : PySem.W.codeIn K (cd19) "check_different" = true)
    (k19 : PySem.W.keepIn K (.ref f19) = true)
    (a20 : PySem.W.nsIn K mainGlobals "check_group" = some (some (.ref f20)))
    (l20 : K.lookup f20 = some ⟨oc20, od20, .func (PySem.W.fnOf "check_group" "check_group" (defArgs sCheckGroup) (defBody sCheckGroup) (defScope sCheckGroup) .none kV20 dc20 pm20 an20 cd20 ct20), sl20⟩)
    (c20 : PySem.W.codeIn K (cd20) "check_group" = true)
    (k20 : PySem.W.keepIn K (.ref f20) = true)
    (a21 : PySem.W.nsIn K mainGlobals "check_deeds" = some (some (.ref f21)))
    (l21 : K.lookup f21 = some ⟨oc21, od21, .func (PySem.W.fnOf "check_deeds" "check_deeds" (defArgs sCheckDeeds) (defBody sCheckDeeds) (defScope sCheckDeeds) .none kV21 dc21 pm21 an21 cd21 ct21), sl21⟩)
    (c21 : PySem.W.codeIn K (cd21) "check_deeds" = true)
    (k21 : PySem.W.keepIn K (.ref f21) = true)
    (a22 : PySem.W.nsIn K mainGlobals "check_rows" = some (some (.ref f22)))
    (l22 : K.lookup f22 = some ⟨oc22, od22, .func (PySem.W.fnOf "check_rows" "check_rows" (defArgs sCheckRows) (defBody sCheckRows) (defScope sCheckRows) .none kV22 dc22 pm22 an22 cd22 ct22), sl22⟩)
    (c22 : PySem.W.codeIn K (cd22) "check_rows" = true)
    (k22 : PySem.W.keepIn K (.ref f22) = true)
    (a23 : PySem.W.nsIn K mainGlobals "check_tells" = some (some (.ref f23)))
    (l23 : K.lookup f23 = some ⟨oc23, od23, .func (PySem.W.fnOf "check_tells" "check_tells" (defArgs sCheckTells) (defBody sCheckTells) (defScope sCheckTells) .none kV23 dc23 pm23 an23 cd23 ct23), sl23⟩)
    (c23 : PySem.W.codeIn K (cd23) "check_tells" = true)
    (k23 : PySem.W.keepIn K (.ref f23) = true)
    (a24 : PySem.W.nsIn K mainGlobals "next_layer" = some (some (.ref f24)))
    (l24 : K.lookup f24 = some ⟨oc24, od24, .func (PySem.W.fnOf "next_layer" "next_layer" (defArgs sNL) (defBody sNL) (defScope sNL) .none kV24 dc24 pm24 an24 cd24 ct24), sl24⟩)
    (c24 : PySem.W.codeIn K (cd24) "next_layer" = true)
    (k24 : PySem.W.keepIn K (.ref f24) = true)
    (a25 : PySem.W.nsIn K mainGlobals "side_by_side" = some (some (.ref f25)))
    (l25 : K.lookup f25 = some ⟨oc25, od25, .func (PySem.W.fnOf "side_by_side" "side_by_side" (defArgs sSide) (defBody sSide) (defScope sSide) .none kV25 dc25 pm25 an25 cd25 ct25), sl25⟩)
    (c25 : PySem.W.codeIn K (cd25) "side_by_side" = true)
    (k25 : PySem.W.keepIn K (.ref f25) = true)
    (a26 : PySem.W.nsIn K mainGlobals "first_steps" = some (some (.ref f26)))
    (l26 : K.lookup f26 = some ⟨oc26, od26, .func (PySem.W.fnOf "first_steps" "first_steps" (defArgs sFS) (defBody sFS) (defScope sFS) (.ref T26) kV26 dc26 pm26 an26 cd26 ct26), sl26⟩)
    (c26 : PySem.W.codeIn K (cd26) "first_steps" = true)
    (k26 : PySem.W.keepIn K (.ref f26) = true)
    (lT26 : K.lookup T26 = some ⟨ocT26, odT26, .seq #[.none] nT26, slT26⟩)
    (aC : PySem.W.nsIn K mainGlobals "Machine" = some (some (.ref C)))
    (pgC : PySem.W.plainGet K C Str.empty = true)
    (hdC : PySem.W.hasDictIn K C = true)
    (poC : PySem.W.plainOver K C = true)
    (saC : PySem.W.findIn K (.ref C) "__setattr__" = some (some (.builtin "object.__setattr__")))
    (mkC : PySem.W.makesIn K C = true)
    (kcC : PySem.W.keepIn K (.ref C) = true)
    (nC_deeds : PySem.W.findIn K (.ref C) "deeds" = some none)
    (nC_rows : PySem.W.findIn K (.ref C) "rows" = some none)
    (nC_tells : PySem.W.findIn K (.ref C) "tells" = some none)
    (nC_start : PySem.W.findIn K (.ref C) "start" = some none)
    (a27 : PySem.W.findIn K (.ref C) "__init__" = some (some (.ref f27)))
    (i27 : PySem.W.isFn K (.ref f27) = true)
    (l27 : K.lookup f27 = some ⟨oc27, od27, .func (PySem.W.fnOf "__init__" "Machine.__init__" (defArgs sMInit) (defBody sMInit) (defScope sMInit) (.ref T27) kV27 dc27 pm27 an27 cd27 ct27), sl27⟩)
    (c27 : PySem.W.codeIn K (cd27) "Machine.__init__" = true)
    (k27 : PySem.W.keepIn K (.ref f27) = true)
    (lT27 : K.lookup T27 = some ⟨ocT27, odT27, .seq #[.int 0 tc0] nT27, slT27⟩)
    (a28 : PySem.W.findIn K (.ref C) "telling" = some (some (.ref f28)))
    (i28 : PySem.W.isFn K (.ref f28) = true)
    (l28 : K.lookup f28 = some ⟨oc28, od28, .func (PySem.W.fnOf "telling" "Machine.telling" (defArgs sTelling) (defBody sTelling) (defScope sTelling) .none kV28 dc28 pm28 an28 cd28 ct28), sl28⟩)
    (c28 : PySem.W.codeIn K (cd28) "Machine.telling" = true)
    (k28 : PySem.W.keepIn K (.ref f28) = true)
    (a29 : PySem.W.findIn K (.ref C) "__mul__" = some (some (.ref f29)))
    (i29 : PySem.W.isFn K (.ref f29) = true)
    (l29 : K.lookup f29 = some ⟨oc29, od29, .func (PySem.W.fnOf "__mul__" "Machine.__mul__" (defArgs sMMul) (defBody sMMul) (defScope sMMul) .none kV29 dc29 pm29 an29 cd29 ct29), sl29⟩)
    (c29 : PySem.W.codeIn K (cd29) "Machine.__mul__" = true)
    (k29 : PySem.W.keepIn K (.ref f29) = true)
    (a30 : PySem.W.findIn K (.ref C) "__len__" = some (some (.ref f30)))
    (i30 : PySem.W.isFn K (.ref f30) = true)
    (l30 : K.lookup f30 = some ⟨oc30, od30, .func (PySem.W.fnOf "__len__" "Machine.__len__" (defArgs sMLen) (defBody sMLen) (defScope sMLen) .none kV30 dc30 pm30 an30 cd30 ct30), sl30⟩)
    (c30 : PySem.W.codeIn K (cd30) "Machine.__len__" = true)
    (k30 : PySem.W.keepIn K (.ref f30) = true)
    (sfC : PySem.W.selfFirst K C = true)
    (ca_C : PySem.W.findIn K (.ref C) "__class__" = some (some (.builtin "object.__class__")))
    (cs_C : PySem.W.specialIn K (.builtin "object.__class__") "__get__" = some (some (.builtin "getset_descriptor.__get__")))
    (ct_C : PySem.W.takesIn K (.builtin "object.__class__") = some true)
    (cm_C : PySem.W.mroIn K C (.type "object") = some true)
    (a00 : PySem.W.nsIn K mainGlobals "LooksError" = some (some (.ref E0)))
    (aO : PySem.W.nsIn K mainGlobals "OtherDeeds" = some (some (.ref EO)))
    (xO : K.lookup EO = some (excClassObj nmO qnO EO NO bsO [.ref E0, .type "ValueError", .type "Exception", .type "BaseException", .type "object"] true snO subO abO colO ddO m0O m1O m2O m3O m5O "ValueError.__new__"))
    (saO : PySem.W.findIn K (.ref EO) "__setattr__" = some (some (.builtin "object.__setattr__")))
    (gaO : PySem.W.findIn K (.ref EO) "__getattribute__" = some (some (.builtin "BaseException.__getattribute__")))
    (ggO : PySem.W.findIn K (.ref EO) "__getattr__" = some none)
    (eO : PySem.W.subIn K (.ref EO) (.type "BaseException") = some true)
    (tO : PySem.W.typeIn K (.ref EO) = some (.type "type"))
    (kkO : PySem.W.keepIn K (.ref EO) = true)
    (hO : PySem.W.hasDictIn K EO = true)
    (iO : PySem.W.isClsIn K EO = true)
    (noO_have : PySem.W.findIn K (.ref EO) "have" = some none)
    (noO_want : PySem.W.findIn K (.ref EO) "want" = some none)
    (a31 : PySem.W.findIn K (.ref EO) "__init__" = some (some (.ref f31)))
    (t31 : PySem.W.typeIn K (.ref f31) = some (.type "function"))
    (l31 : K.lookup f31 = some ⟨oc31, od31, .func (PySem.W.fnOf "__init__" "OtherDeeds.__init__" (defArgs sOtherDeeds) (defBody sOtherDeeds) (defScope sOtherDeeds) .none kV31 dc31 pm31 an31 cd31 ct31), sl31⟩)
    (c31 : PySem.W.codeIn K (cd31) "OtherDeeds.__init__" = true)
    (k31 : PySem.W.keepIn K (.ref f31) = true)
    (aT : PySem.W.nsIn K mainGlobals "TooMany" = some (some (.ref ET)))
    (xT : K.lookup ET = some (excClassObj nmT qnT ET NT bsT [.ref E0, .type "ValueError", .type "Exception", .type "BaseException", .type "object"] true snT subT abT colT ddT m0T m1T m2T m3T m5T "ValueError.__new__"))
    (saT : PySem.W.findIn K (.ref ET) "__setattr__" = some (some (.builtin "object.__setattr__")))
    (gaT : PySem.W.findIn K (.ref ET) "__getattribute__" = some (some (.builtin "BaseException.__getattribute__")))
    (ggT : PySem.W.findIn K (.ref ET) "__getattr__" = some none)
    (eT : PySem.W.subIn K (.ref ET) (.type "BaseException") = some true)
    (tT : PySem.W.typeIn K (.ref ET) = some (.type "type"))
    (kkT : PySem.W.keepIn K (.ref ET) = true)
    (hT : PySem.W.hasDictIn K ET = true)
    (iT : PySem.W.isClsIn K ET = true)
    (noT_what : PySem.W.findIn K (.ref ET) "what" = some none)
    (noT_many : PySem.W.findIn K (.ref ET) "many" = some none)
    (noT_most : PySem.W.findIn K (.ref ET) "most" = some none)
    (a32 : PySem.W.findIn K (.ref ET) "__init__" = some (some (.ref f32)))
    (t32 : PySem.W.typeIn K (.ref f32) = some (.type "function"))
    (l32 : K.lookup f32 = some ⟨oc32, od32, .func (PySem.W.fnOf "__init__" "TooMany.__init__" (defArgs sTooMany) (defBody sTooMany) (defScope sTooMany) .none kV32 dc32 pm32 an32 cd32 ct32), sl32⟩)
    (c32 : PySem.W.codeIn K (cd32) "TooMany.__init__" = true)
    (k32 : PySem.W.keepIn K (.ref f32) = true)
    (aN : PySem.W.nsIn K mainGlobals "NoEntry" = some (some (.ref EN)))
    (xN : K.lookup EN = some (excClassObj nmN qnN EN NN bsN [.ref E0, .type "ValueError", .type "Exception", .type "BaseException", .type "object"] true snN subN abN colN ddN m0N m1N m2N m3N m5N "ValueError.__new__"))
    (saN : PySem.W.findIn K (.ref EN) "__setattr__" = some (some (.builtin "object.__setattr__")))
    (gaN : PySem.W.findIn K (.ref EN) "__getattribute__" = some (some (.builtin "BaseException.__getattribute__")))
    (ggN : PySem.W.findIn K (.ref EN) "__getattr__" = some none)
    (eN : PySem.W.subIn K (.ref EN) (.type "BaseException") = some true)
    (tN : PySem.W.typeIn K (.ref EN) = some (.type "type"))
    (kkN : PySem.W.keepIn K (.ref EN) = true)
    (hN : PySem.W.hasDictIn K EN = true)
    (iN : PySem.W.isClsIn K EN = true)
    (noN_tell : PySem.W.findIn K (.ref EN) "tell" = some none)
    (a33 : PySem.W.findIn K (.ref EN) "__init__" = some (some (.ref f33)))
    (t33 : PySem.W.typeIn K (.ref f33) = some (.type "function"))
    (l33 : K.lookup f33 = some ⟨oc33, od33, .func (PySem.W.fnOf "__init__" "NoEntry.__init__" (defArgs sNoEntry) (defBody sNoEntry) (defScope sNoEntry) .none kV33 dc33 pm33 an33 cd33 ct33), sl33⟩)
    (c33 : PySem.W.codeIn K (cd33) "NoEntry.__init__" = true)
    (k33 : PySem.W.keepIn K (.ref f33) = true)
    (aB : PySem.W.nsIn K mainGlobals "BadTell" = some (some (.ref EB)))
    (xB : K.lookup EB = some (excClassObj nmB qnB EB NB bsB [.ref E0, .type "ValueError", .type "Exception", .type "BaseException", .type "object"] true snB subB abB colB ddB m0B m1B m2B m3B m5B "ValueError.__new__"))
    (saB : PySem.W.findIn K (.ref EB) "__setattr__" = some (some (.builtin "object.__setattr__")))
    (gaB : PySem.W.findIn K (.ref EB) "__getattribute__" = some (some (.builtin "BaseException.__getattribute__")))
    (ggB : PySem.W.findIn K (.ref EB) "__getattr__" = some none)
    (eB : PySem.W.subIn K (.ref EB) (.type "BaseException") = some true)
    (tB : PySem.W.typeIn K (.ref EB) = some (.type "type"))
    (kkB : PySem.W.keepIn K (.ref EB) = true)
    (hB : PySem.W.hasDictIn K EB = true)
    (iB : PySem.W.isClsIn K EB = true)
    (noB_index : PySem.W.findIn K (.ref EB) "index" = some none)
    (a34 : PySem.W.findIn K (.ref EB) "__init__" = some (some (.ref f34)))
    (t34 : PySem.W.typeIn K (.ref f34) = some (.type "function"))
    (l34 : K.lookup f34 = some ⟨oc34, od34, .func (PySem.W.fnOf "__init__" "BadTell.__init__" (defArgs sBadTell) (defBody sBadTell) (defScope sBadTell) .none kV34 dc34 pm34 an34 cd34 ct34), sl34⟩)
    (c34 : PySem.W.codeIn K (cd34) "BadTell.__init__" = true)
    (k34 : PySem.W.keepIn K (.ref f34) = true)
    (aU : PySem.W.nsIn K mainGlobals "Uneven" = some (some (.ref EU)))
    (xU : K.lookup EU = some (excClassObj nmU qnU EU NU bsU [.ref E0, .type "ValueError", .type "Exception", .type "BaseException", .type "object"] true snU subU abU colU ddU m0U m1U m2U m3U m5U "ValueError.__new__"))
    (saU : PySem.W.findIn K (.ref EU) "__setattr__" = some (some (.builtin "object.__setattr__")))
    (gaU : PySem.W.findIn K (.ref EU) "__getattribute__" = some (some (.builtin "BaseException.__getattribute__")))
    (ggU : PySem.W.findIn K (.ref EU) "__getattr__" = some none)
    (eU : PySem.W.subIn K (.ref EU) (.type "BaseException") = some true)
    (tU : PySem.W.typeIn K (.ref EU) = some (.type "type"))
    (kkU : PySem.W.keepIn K (.ref EU) = true)
    (hU : PySem.W.hasDictIn K EU = true)
    (iU : PySem.W.isClsIn K EU = true)
    (noU_many : PySem.W.findIn K (.ref EU) "many" = some none)
    (noU_most : PySem.W.findIn K (.ref EU) "most" = some none)
    (a35 : PySem.W.findIn K (.ref EU) "__init__" = some (some (.ref f35)))
    (t35 : PySem.W.typeIn K (.ref f35) = some (.type "function"))
    (l35 : K.lookup f35 = some ⟨oc35, od35, .func (PySem.W.fnOf "__init__" "Uneven.__init__" (defArgs sUneven) (defBody sUneven) (defScope sUneven) .none kV35 dc35 pm35 an35 cd35 ct35), sl35⟩)
    (c35 : PySem.W.codeIn K (cd35) "Uneven.__init__" = true)
    (k35 : PySem.W.keepIn K (.ref f35) = true)
    (sOO : PySem.W.subIn K (.ref EO) (.ref EO) = some true)
    (sTO : PySem.W.subIn K (.ref ET) (.ref EO) = some false)
    (sTT : PySem.W.subIn K (.ref ET) (.ref ET) = some true)
    (sNO : PySem.W.subIn K (.ref EN) (.ref EO) = some false)
    (sNT : PySem.W.subIn K (.ref EN) (.ref ET) = some false)
    (sNN : PySem.W.subIn K (.ref EN) (.ref EN) = some true)
    (sBO : PySem.W.subIn K (.ref EB) (.ref EO) = some false)
    (sBT : PySem.W.subIn K (.ref EB) (.ref ET) = some false)
    (sBN : PySem.W.subIn K (.ref EB) (.ref EN) = some false)
    (sBB : PySem.W.subIn K (.ref EB) (.ref EB) = some true)
    (co_LETTERS : PySem.W.nsIn K mainGlobals "LETTERS" = some (some (.str zLE tc1)))
    (co_DIGITS : PySem.W.nsIn K mainGlobals "DIGITS" = some (some (.str zDG tc2)))
    (co_LONGEST_WORD : PySem.W.nsIn K mainGlobals "LONGEST_WORD" = some (some (.int 12 tc3)))
    (co_LONGEST_TELL : PySem.W.nsIn K mainGlobals "LONGEST_TELL" = some (some (.int 60 tc4)))
    (co_MOST_DEEDS : PySem.W.nsIn K mainGlobals "MOST_DEEDS" = some (some (.int 6 tc5)))
    (co_MOST_STATES : PySem.W.nsIn K mainGlobals "MOST_STATES" = some (some (.int 60 tc6)))
    (z_int : PySem.W.nsIn K mainGlobals "int" = some none)
    (z_len : PySem.W.nsIn K mainGlobals "len" = some none)
    (z_list : PySem.W.nsIn K mainGlobals "list" = some none)
    (z_range : PySem.W.nsIn K mainGlobals "range" = some none)
    (z_tuple : PySem.W.nsIn K mainGlobals "tuple" = some none)
    (z_isinstance : PySem.W.nsIn K mainGlobals "isinstance" = some none)
    (z_bool : PySem.W.nsIn K mainGlobals "bool" = some none)
    (z_str : PySem.W.nsIn K mainGlobals "str" = some none)
    (z_all : PySem.W.nsIn K mainGlobals "all" = some none)
    (z_enumerate : PySem.W.nsIn K mainGlobals "enumerate" = some none)
    (z_min : PySem.W.nsIn K mainGlobals "min" = some none)
    (z_zip : PySem.W.nsIn K mainGlobals "zip" = some none)
    (z_any : PySem.W.nsIn K mainGlobals "any" = some none)
    (npp : pt14 ≠ pt13) :
    LawAtS l w K L2.CX0 12 63 "_law_script" mg fa h := by
  have e := (PySem.W.mg_of X G a14).symm.trans hfa
  cases e
  have D1 : Df K mg "_law_pen" sPen ["_law_script"] f1 _ := ⟨fun_mk (st := sPen) l1 c1 k1, PySem.W.mg_of X G a1, (fun_mk (st := sPen) l1 c1 k1).binds (ps := ["_law_script"]) fun _ _ _ _ _ _ us hl => match us, hl with | [_], _ => rfl⟩
  have D2 : Df K mg "_law_draw" sDraw ["_law_pen_here", "_law_many"] f2 _ := ⟨fun_mk (st := sDraw) l2 c2 k2, PySem.W.mg_of X G a2, (fun_mk (st := sDraw) l2 c2 k2).binds (ps := ["_law_pen_here", "_law_many"]) fun _ _ _ _ _ _ us hl => match us, hl with | [_, _], _ => rfl⟩
  have D3 : Df K mg "_law_pick" sPick ["_law_pen_here", "_law_some"] f3 _ := ⟨fun_mk (st := sPick) l3 c3 k3, PySem.W.mg_of X G a3, (fun_mk (st := sPick) l3 c3 k3).binds (ps := ["_law_pen_here", "_law_some"]) fun _ _ _ _ _ _ us hl => match us, hl with | [_, _], _ => rfl⟩
  have D4 : Df K mg "_law_shuffled" sShufL ["_law_pen_here", "_law_some"] f4 _ := ⟨fun_mk (st := sShufL) l4 c4 k4, PySem.W.mg_of X G a4, (fun_mk (st := sShufL) l4 c4 k4).binds (ps := ["_law_pen_here", "_law_some"]) fun _ _ _ _ _ _ us hl => match us, hl with | [_, _], _ => rfl⟩
  have D5 : Df K mg "_law_words" sWords ["_law_pen_here", "_law_many"] f5 _ := ⟨fun_mk (st := sWords) l5 c5 k5, PySem.W.mg_of X G a5, (fun_mk (st := sWords) l5 c5 k5).binds (ps := ["_law_pen_here", "_law_many"]) fun _ _ _ _ _ _ us hl => match us, hl with | [_, _], _ => rfl⟩
  have D6 : Df K mg "_law_plain" sPlain ["_law_pen_here", "_law_deeds", "_law_most", "_law_tells"] f6 _ := ⟨fun_mk (st := sPlain) l6 c6 k6, PySem.W.mg_of X G a6, (fun_mk (st := sPlain) l6 c6 k6).binds (ps := ["_law_pen_here", "_law_deeds", "_law_most", "_law_tells"]) fun _ _ _ _ _ _ us hl => match us, hl with | [_, _, _, _], _ => rfl⟩
  have D7 : Df K mg "_law_made" sMade ["_law_plain_here"] f7 _ := ⟨fun_mk (st := sMade) l7 c7 k7, PySem.W.mg_of X G a7, (fun_mk (st := sMade) l7 c7 k7).binds (ps := ["_law_plain_here"]) fun _ _ _ _ _ _ us hl => match us, hl with | [_], _ => rfl⟩
  have D8 : Df K mg "_law_is_machine" sIsM ["_law_machine", "_law_plain_here"] f8 _ := ⟨fun_mk (st := sIsM) l8 c8 k8, PySem.W.mg_of X G a8, (fun_mk (st := sIsM) l8 c8 k8).binds (ps := ["_law_machine", "_law_plain_here"]) fun _ _ _ _ _ _ us hl => match us, hl with | [_, _], _ => rfl⟩
  have D9 : Df K mg "_law_product" sProd ["_law_one", "_law_other"] f9 _ := ⟨fun_mk (st := sProd) l9 c9 k9, PySem.W.mg_of X G a9, (fun_mk (st := sProd) l9 c9 k9).binds (ps := ["_law_one", "_law_other"]) fun _ _ _ _ _ _ us hl => match us, hl with | [_, _], _ => rfl⟩
  have D10 : Df K mg "_law_refused" sRefE ["_law_call"] f10 _ := ⟨fun_mk (st := sRefE) l10 c10 k10, PySem.W.mg_of X G a10, (fun_mk (st := sRefE) l10 c10 k10).binds (ps := ["_law_call"]) fun _ _ _ _ _ _ us hl => match us, hl with | [_], _ => rfl⟩
  have D11 : Df K mg "_law_ring" sRing ["_law_pen_here", "_law_deeds", "_law_many", "_law_stem"] f11 _ := ⟨fun_mk (st := sRing) l11 c11 k11, PySem.W.mg_of X G a11, (fun_mk (st := sRing) l11 c11 k11).binds (ps := ["_law_pen_here", "_law_deeds", "_law_many", "_law_stem"]) fun _ _ _ _ _ _ us hl => match us, hl with | [_, _, _, _], _ => rfl⟩
  have D12 : Df K mg "_law_pair" sPair ["_law_pen_here", "_law_deeds"] f12 _ := ⟨fun_mk (st := sPair) l12 c12 k12, PySem.W.mg_of X G a12, (fun_mk (st := sPair) l12 c12 k12).binds (ps := ["_law_pen_here", "_law_deeds"]) fun _ _ _ _ _ _ us hl => match us, hl with | [_, _], _ => rfl⟩
  have FC13 : FunC K "_law_is_told" "_law_is_told" sIsTold f13 _ cc13 := ⟨⟨_, _, _, _, _, _, _, _, rfl, l13, c13⟩, k13⟩
  have TA13 := tab_at (q := q) X O mr13 (PySem.W.mg_of X G a13) l13 rfl lc13 h13
  have D13 : Df K mg "_law_is_told" sIsTold ["_law_pen_here", "_law_made_here", "_law_plain_here"] f13 _ := ⟨FC13.toFun, PySem.W.mg_of X G a13, FC13.toFun.binds (ps := ["_law_pen_here", "_law_made_here", "_law_plain_here"]) fun _ _ _ _ _ _ us hl => match us, hl with | [_, _, _], _ => rfl⟩
  have FC14 : FunC K "law" "law" sLaw f14 _ cc14 := ⟨⟨_, _, _, _, _, _, _, _, rfl, l14, c14⟩, k14⟩
  have TA14 := tab_at (q := q) X O mr14 (PySem.W.mg_of X G a14) l14 rfl lc14 h14
  have D14 : Df K mg "law" sLaw ["_law_script"] f14 _ := ⟨FC14.toFun, PySem.W.mg_of X G a14, FC14.toFun.binds (ps := ["_law_script"]) fun _ _ _ _ _ _ us hl => match us, hl with | [_], _ => rfl⟩
  have D15 : Df K mg "is_integer" sIsInt ["value"] f15 _ := ⟨fun_mk (st := sIsInt) l15 c15 k15, PySem.W.mg_of X G a15, (fun_mk (st := sIsInt) l15 c15 k15).binds (ps := ["value"]) fun _ _ _ _ _ _ us hl => match us, hl with | [_], _ => rfl⟩
  have D16 : Df K mg "is_index" sIsIndex ["value", "many"] f16 _ := ⟨fun_mk (st := sIsIndex) l16 c16 k16, PySem.W.mg_of X G a16, (fun_mk (st := sIsIndex) l16 c16 k16).binds (ps := ["value", "many"]) fun _ _ _ _ _ _ us hl => match us, hl with | [_, _], _ => rfl⟩
  have D17 : Df K mg "is_word" sIsWord ["value"] f17 _ := ⟨fun_mk (st := sIsWord) l17 c17 k17, PySem.W.mg_of X G a17, (fun_mk (st := sIsWord) l17 c17 k17).binds (ps := ["value"]) fun _ _ _ _ _ _ us hl => match us, hl with | [_], _ => rfl⟩
  have D18 : Df K mg "is_tell" sIsTell ["value"] f18 _ := ⟨fun_mk (st := sIsTell) l18 c18 k18, PySem.W.mg_of X G a18, (fun_mk (st := sIsTell) l18 c18 k18).binds (ps := ["value"]) fun _ _ _ _ _ _ us hl => match us, hl with | [_], _ => rfl⟩
  have D19 : Df K mg "check_different" sCheckDiff ["deeds"] f19 _ := ⟨fun_mk (st := sCheckDiff) l19 c19 k19, PySem.W.mg_of X G a19, (fun_mk (st := sCheckDiff) l19 c19 k19).binds (ps := ["deeds"]) fun _ _ _ _ _ _ us hl => match us, hl with | [_], _ => rfl⟩
  have D20 : Df K mg "check_group" sCheckGroup ["deeds"] f20 _ := ⟨fun_mk (st := sCheckGroup) l20 c20 k20, PySem.W.mg_of X G a20, (fun_mk (st := sCheckGroup) l20 c20 k20).binds (ps := ["deeds"]) fun _ _ _ _ _ _ us hl => match us, hl with | [_], _ => rfl⟩
  have D21 : Df K mg "check_deeds" sCheckDeeds ["deeds"] f21 _ := ⟨fun_mk (st := sCheckDeeds) l21 c21 k21, PySem.W.mg_of X G a21, (fun_mk (st := sCheckDeeds) l21 c21 k21).binds (ps := ["deeds"]) fun _ _ _ _ _ _ us hl => match us, hl with | [_], _ => rfl⟩
  have D22 : Df K mg "check_rows" sCheckRows ["rows", "many"] f22 _ := ⟨fun_mk (st := sCheckRows) l22 c22 k22, PySem.W.mg_of X G a22, (fun_mk (st := sCheckRows) l22 c22 k22).binds (ps := ["rows", "many"]) fun _ _ _ _ _ _ us hl => match us, hl with | [_, _], _ => rfl⟩
  have D23 : Df K mg "check_tells" sCheckTells ["tells", "many"] f23 _ := ⟨fun_mk (st := sCheckTells) l23 c23 k23, PySem.W.mg_of X G a23, (fun_mk (st := sCheckTells) l23 c23 k23).binds (ps := ["tells", "many"]) fun _ _ _ _ _ _ us hl => match us, hl with | [_, _], _ => rfl⟩
  have D24 : Df K mg "next_layer" sNL ["deeds", "tables", "layer", "met"] f24 _ := ⟨fun_mk (st := sNL) l24 c24 k24, PySem.W.mg_of X G a24, (fun_mk (st := sNL) l24 c24 k24).binds (ps := ["deeds", "tables", "layer", "met"]) fun _ _ _ _ _ _ us hl => match us, hl with | [_, _, _, _], _ => rfl⟩
  have D25 : Df K mg "side_by_side" sSide ["one", "other"] f25 _ := ⟨fun_mk (st := sSide) l25 c25 k25, PySem.W.mg_of X G a25, (fun_mk (st := sSide) l25 c25 k25).binds (ps := ["one", "other"]) fun _ _ _ _ _ _ us hl => match us, hl with | [_, _], _ => rfl⟩
  have F26 : FunD K "first_steps" "first_steps" (defArgs sFS) (defBody sFS) (defScope sFS) [.non] [] f26 _ := ⟨⟨_, _, _, _, _, _, _, _, _, _, rfl, l26, c26, .inr ⟨by simp, T26, _, [.none], nT26, rfl, lT26, rfl, (.cons rfl .nil)⟩, .inl rfl⟩, k26⟩
  obtain ⟨ds26, vd26, b026⟩ := F26.binds1 (ps := ["deeds", "tables", "begin", "most"]) 3 0 (by simp) rfl fun T kV doc pm an cdv ct us its hu hi => match us, hu, its, hi with | [_, _, _], _, [_], _ => ⟨_, rfl, rfl⟩
  have g26 : mg "first_steps" = some (.ref f26) := PySem.W.mg_of X G a26
  have F27 : FunD K "__init__" "Machine.__init__" (defArgs sMInit) (defBody sMInit) (defScope sMInit) [.int 0] [] f27 _ := ⟨⟨_, _, _, _, _, _, _, _, _, _, rfl, l27, c27, .inr ⟨by simp, T27, _, [.int 0 tc0], nT27, rfl, lT27, rfl, (.cons ⟨_, rfl⟩ .nil)⟩, .inl rfl⟩, k27⟩
  have b27 : Binds K (PySem.W.fnOf "__init__" "Machine.__init__" (defArgs sMInit) (defBody sMInit) (defScope sMInit) (.ref T27) kV27 dc27 pm27 an27 cd27 ct27) ["self", "deeds", "rows", "tells", "start"] [] := by
    obtain ⟨ds, v, b⟩ := F27.binds1 (ps := ["self", "deeds", "rows", "tells", "start"]) 5 1 (by simp) rfl fun T kV doc pm an cdv ct us its hu hi => match us, hu, its, hi with | [_, _, _, _, _], _, [_], _ => ⟨_, rfl, rfl⟩
    cases v
    exact b
  obtain ⟨ds27, vd27, b027⟩ := F27.binds1 (ps := ["self", "deeds", "rows", "tells", "start"]) 4 0 (by simp) rfl fun T kV doc pm an cdv ct us its hu hi => match us, hu, its, hi with | [_, _, _, _], _, [_], _ => ⟨_, rfl, rfl⟩
  have Mk27 : Mk K C f27 := ⟨mkC, a27, i27, kcC⟩
  have F28 := fun_mk (st := sTelling) l28 c28 k28
  have b28 : Binds K _ ["self", "table"] [] := F28.binds (ps := ["self", "table"]) fun _ _ _ _ _ _ us hl => match us, hl with | [_, _], _ => rfl
  have MT28 : Meth K C "telling" f28 := ⟨a28, i28, k28⟩
  have F29 := fun_mk (st := sMMul) l29 c29 k29
  have b29 : Binds K _ ["self", "other"] [] := F29.binds (ps := ["self", "other"]) fun _ _ _ _ _ _ us hl => match us, hl with | [_, _], _ => rfl
  have F30 := fun_mk (st := sMLen) l30 c30 k30
  have b30 : Binds K _ ["self"] [] := F30.binds (ps := ["self"]) fun _ _ _ _ _ _ us hl => match us, hl with | [_], _ => rfl
  have FEO := fun_mk (st := sOtherDeeds) l31 c31 k31
  have OO : OOtherDeeds K mg EO f31 _ := ⟨⟨⟨nmO, qnO, NO, bsO, _, snO, subO, abO, colO, ddO, m0O, m1O, m2O, m3O, m5O, xO, rfl⟩, saO, eO, tO, kkO⟩, ⟨gaO, ggO, eO, hO⟩, PySem.W.mg_of X G aO, a31, t31, (fun f hf => by
      simp only [List.mem_cons, List.not_mem_nil, or_false] at hf
      rcases hf with rfl | rfl
      · exact noO_have
      · exact noO_want), FEO, FEO.binds (ps := ["self", "have", "want"]) fun _ _ _ _ _ _ us hl => match us, hl with | [_, _, _], _ => rfl⟩
  have FET := fun_mk (st := sTooMany) l32 c32 k32
  have OT : OTooMany K mg ET f32 _ := ⟨⟨⟨nmT, qnT, NT, bsT, _, snT, subT, abT, colT, ddT, m0T, m1T, m2T, m3T, m5T, xT, rfl⟩, saT, eT, tT, kkT⟩, ⟨gaT, ggT, eT, hT⟩, PySem.W.mg_of X G aT, a32, t32, (fun f hf => by
      simp only [List.mem_cons, List.not_mem_nil, or_false] at hf
      rcases hf with rfl | rfl | rfl
      · exact noT_what
      · exact noT_many
      · exact noT_most), FET, FET.binds (ps := ["self", "what", "many", "most"]) fun _ _ _ _ _ _ us hl => match us, hl with | [_, _, _, _], _ => rfl⟩
  have FEN := fun_mk (st := sNoEntry) l33 c33 k33
  have ON : ONoEntry K mg EN f33 _ := ⟨⟨⟨nmN, qnN, NN, bsN, _, snN, subN, abN, colN, ddN, m0N, m1N, m2N, m3N, m5N, xN, rfl⟩, saN, eN, tN, kkN⟩, ⟨gaN, ggN, eN, hN⟩, PySem.W.mg_of X G aN, a33, t33, (fun f hf => by
      simp only [List.mem_cons, List.not_mem_nil, or_false] at hf
      rcases hf with rfl
      · exact noN_tell), FEN, FEN.binds (ps := ["self", "tell"]) fun _ _ _ _ _ _ us hl => match us, hl with | [_, _], _ => rfl⟩
  have FEB := fun_mk (st := sBadTell) l34 c34 k34
  have OB : OBadTell K mg EB f34 _ := ⟨⟨⟨nmB, qnB, NB, bsB, _, snB, subB, abB, colB, ddB, m0B, m1B, m2B, m3B, m5B, xB, rfl⟩, saB, eB, tB, kkB⟩, ⟨gaB, ggB, eB, hB⟩, PySem.W.mg_of X G aB, a34, t34, (fun f hf => by
      simp only [List.mem_cons, List.not_mem_nil, or_false] at hf
      rcases hf with rfl
      · exact noB_index), FEB, FEB.binds (ps := ["self", "index"]) fun _ _ _ _ _ _ us hl => match us, hl with | [_, _], _ => rfl⟩
  have FEU := fun_mk (st := sUneven) l35 c35 k35
  have OU : OUneven K mg EU f35 _ := ⟨⟨⟨nmU, qnU, NU, bsU, _, snU, subU, abU, colU, ddU, m0U, m1U, m2U, m3U, m5U, xU, rfl⟩, saU, eU, tU, kkU⟩, ⟨gaU, ggU, eU, hU⟩, PySem.W.mg_of X G aU, a35, t35, (fun f hf => by
      simp only [List.mem_cons, List.not_mem_nil, or_false] at hf
      rcases hf with rfl | rfl
      · exact noU_many
      · exact noU_most), FEU, FEU.binds (ps := ["self", "many", "most"]) fun _ _ _ _ _ _ us hl => match us, hl with | [_, _, _], _ => rfl⟩
  have bF26 : Binds K (PySem.W.fnOf "first_steps" "first_steps" (defArgs sFS) (defBody sFS) (defScope sFS) (.ref T26) kV26 dc26 pm26 an26 cd26 ct26) ["deeds", "tables", "begin", "most"] [] := by
    obtain ⟨ds, v, b⟩ := F26.binds1 (ps := ["deeds", "tables", "begin", "most"]) 4 1 (by simp) rfl fun T kV doc pm an cdv ct us its hu hi => match us, hu, its, hi with | [_, _, _, _], _, [_], _ => ⟨_, rfl, rfl⟩
    cases v
    exact b
  refine ⟨PySem.W.fnOf "law" "law" (defArgs sLaw) (defBody sLaw) (defScope sLaw) .none kV14 dc14 pm14 an14 (.ref cc14) ct14, [(cc14, pt14), (cc13, pt13)], spLaw K [(pt14, qLaw), (pt13, qTold)], ?_, ?_, ?_, fun s v => .of_eq rfl, ?_, fun base _ _ TB => ?_⟩
  · intro p hp
    simp only [List.mem_cons, List.not_mem_nil, or_false] at hp
    rcases hp with rfl | rfl
    · exact TA14.2
    · exact TA13.2
  · intro p hp
    simp only [List.mem_cons, List.not_mem_nil, or_false] at hp
    rcases hp with rfl | rfl
    · exact np14
    · exact np13
  · intro p hp
    simp only [List.mem_cons, List.not_mem_nil, or_false] at hp
    rcases hp with rfl | rfl
    · exact TA14.1
    · exact TA13.1
  · intro H a ns hns _ hT hS
    refine ⟨a, ns, rfl, hS, hns, fun p hp => ?_, fun _ => rfl⟩
    simp only [List.mem_cons, List.not_mem_nil, or_false] at hp
    rcases hp with rfl | rfl
    · exact TabS.nil (hT (cc14, pt14) (by simp))
    · exact TabS.nil (hT (cc13, pt13) (by simp))
  · have BT : Bt2 mg := ⟨⟨PySem.W.mg_none_of X G z_int, PySem.W.mg_none_of X G z_len, PySem.W.mg_none_of X G z_list, PySem.W.mg_none_of X G z_range, PySem.W.mg_none_of X G z_tuple⟩, PySem.W.mg_none_of X G z_isinstance, PySem.W.mg_none_of X G z_bool, PySem.W.mg_none_of X G z_str, PySem.W.mg_none_of X G z_all, PySem.W.mg_none_of X G z_enumerate, PySem.W.mg_none_of X G z_min, ⟨_, PySem.W.mg_of X G co_LETTERS⟩, ⟨_, PySem.W.mg_of X G co_DIGITS⟩, ⟨_, PySem.W.mg_of X G co_LONGEST_WORD⟩, ⟨_, PySem.W.mg_of X G co_LONGEST_TELL⟩, ⟨_, PySem.W.mg_of X G co_MOST_DEEDS⟩, ⟨_, PySem.W.mg_of X G co_MOST_STATES⟩⟩
    have B1 : Bt mg := BT.toBt
    have MT : Tm K mg C := ⟨⟨pgC, hdC, poC, saC⟩, nC_deeds, nC_rows, nC_tells, nC_start, PySem.W.mg_of X G aC⟩
    have EE : Ee K ⟨EO, ET, EN, EB, E0⟩ := ⟨exm_of eO iO tO sOO, exm_of eO iO tO sTO, exm_of eT iT tT sTT, exm_of eO iO tO sNO, exm_of eT iT tT sNT, exm_of eN iN tN sNN, exm_of eO iO tO sBO, exm_of eT iT tT sBT, exm_of eN iN tN sBN, exm_of eB iB tB sBB⟩
    have GI : FnOk l.prog w K mg base L2.CX0 5 f27 _ pInit (spMInit K C) := ok_minit F27 MT BT D21 D20 D19 D17 D22 D16 D15 D23 D18
    have GT : FnOk l.prog w K mg base (L2.CX l.prog w) 6 f27 _ pInit (spMT K C EB) := g_minitT F27 MT BT D21 D20 D19 D17 D22 D16 D15 D23 D18 OB OU
    have bS4 : Binds K _ pFS [] := bF26
    have GSd : FnOk l.prog w K mg base (L2.CX l.prog w) 7 _ _ pSide (spSide K C ET) := ok_side D25 MT BT (PySem.W.mg_none_of X G z_zip) F26 g26 bS4 D24 OT Mk27 b027 vd27 GI
    have GU : FnOk l.prog w K mg base (L2.CX l.prog w) 8 f29 _ pMul (spMul K C EO ET) := ok_mul F29 MT ⟨ca_C, cs_C, ct_C, cm_C⟩ BT D25 GSd OO
    have GTl : FnOk l.prog w K mg base (L2.CX l.prog w) 8 f28 _ pTelling (spTelling K C EN EB) := ok_telling F28 MT BT ON Mk27 b27 GT
    have GM : FnOk l.prog w K mg base L2.CX0 3 _ _ pIsM (spIsM K C) := ok_ism D8 MT BT F30 b30 ⟨a30, i30⟩
    have eM : PySem.dunder Operator.Mult.info.2 = ("__mul__" : Str) := by decide +kernel
    have tbL := TB (cc14, pt14) (by simp)
    have tbR := TB (cc13, pt13) (by simp)
    have FF : Fs l.prog w K mg base C ⟨EO, ET, EN, EB, E0⟩ [(pt14, qLaw), (pt13, qTold)] := ⟨BT, MT,
      ⟨_, _, D1.g, D1.F.kp, D1.b, ok_pen D1 B1⟩,
      ⟨_, _, D2.g, D2.F.kp, D2.b, ok_draw D2.F B1⟩,
      ⟨_, _, D5.g, D5.F.kp, D5.b, ok_words D5 D2 D3 B1⟩,
      ⟨_, _, D7.g, D7.F.kp, D7.b, ok_made D7 MT BT Mk27 GI b27⟩,
      ⟨_, _, D8.g, D8.F.kp, D8.b, GM⟩,
      ⟨_, _, D9.g, D9.F.kp, D9.b, ok_prod D9 B1⟩,
      ⟨_, _, D12.g, D12.F.kp, D12.b, ok_pair D12 D2 D3 D6 D11 BT⟩,
      ⟨_, _, D13.g, D13.F.kp, D13.b, ok_istold FC13 D2 D3 D4 D8 GM D10 MT BT MT28 b28 GTl OO OT ON OB (PySem.W.mg_of X G a00) EE tbR (by simp) (by intro p hp e; simp only [List.mem_cons, List.not_mem_nil, or_false] at hp; rcases hp with rfl | rfl; exact absurd e npp; rfl)⟩,
      ⟨_, _, D10⟩,
      ⟨_, _, ⟨sfC, by rw [eM]; exact a29, i29⟩, b29, GU⟩,
      ⟨_, _, _, Mk27, b027, vd27, GI⟩,
      ⟨_, _, OO⟩, ⟨_, _, OT⟩, ⟨_, _, ON⟩, ⟨_, _, OB⟩, PySem.W.mg_of X G a00, PySem.W.mg_none_of X G z_any, EE⟩
    exact ok_law FF FC14 tbL (by simp) (by intro p hp e; simp only [List.mem_cons, List.not_mem_nil, or_false] at hp; rcases hp with rfl | rfl; rfl; exact absurd e.symm npp)

theorem walk {l : PySem.W.OpenLaw} {q : Program} {loose : List Str} {XP : (Str → Option Value) → Heap → Prop} {YP : World → Heap → Prop} {d : DefRec} {K : Params → PySem.W.Frag} (hn : l.most = some 63) (hdf : d.params.defaults = [])
    (hY : ∀ (w : World) (h : Heap), YP w h → (K w.params).In h)
    (F : ∀ (w : World) (mg : Str → Option Value) (fa : Addr) (h : Heap), (K w.params).In h → h.Ns mainGlobals mg → mg d.name = some (.ref fa) → OwnTabs q mg h → LawAtS l w (K w.params) L2.CX0 12 63 "_law_script" mg fa h) :
    PySem.W.WalkO q loose XP YP l.row.toRowW d [] (fun f vs => PySem.call f vs) :=
  walk_tabs (n := 63) (k := 12) (x := "_law_script") (CX := fun _ => L2.CX0) hn (by decide) hdf ⟨rfl, by decide, by decide⟩ hY (fun w mg fa h _ => F w mg fa h) fun _ _ _ _ _ z => z
end K1
open PySem PySem.W PyProof.Rows in
set_option maxRecDepth 100000 in
set_option maxHeartbeats 0 in
theorem PySem.Challenge.cw_betweenlooks_k08_products_and_other_tell_holds : PySem.Challenge.rw_betweenlooks_k08_products_and_other_tell.Holds := by
  w_on; o_law; k_head; (case hw => w_witness2)
  k_fill
  refine K1.walk (l := PySem.Challenge.rw_betweenlooks_k08_products_and_other_tell) rfl rfl (fun w h Y => PySem.W.km_in_of Y) ?F
  case F =>
    intro w mg fa h KX G hmg OT
    refine' K1.all_mk KX G hmg OT ?a1 ?l1 ?c1 ?k1 ?a2 ?l2 ?c2 ?k2 ?a3 ?l3 ?c3 ?k3 ?a4 ?l4 ?c4 ?k4 ?a5 ?l5 ?c5 ?k5 ?a6 ?l6 ?c6 ?k6 ?a7 ?l7 ?c7 ?k7 ?a8 ?l8 ?c8 ?k8 ?a9 ?l9 ?c9 ?k9 ?a10 ?l10 ?c10 ?k10 ?a11 ?l11 ?c11 ?k11 ?a12 ?l12 ?c12 ?k12 ?a13 ?l13 ?c13 ?k13 ?lc13 ?h13 ?np13 ?mr13 ?a14 ?l14 ?c14 ?k14 ?lc14 ?h14 ?np14 ?mr14 ?a15 ?l15 ?c15 ?k15 ?a16 ?l16 ?c16 ?k16 ?a17 ?l17 ?c17 ?k17 ?a18 ?l18 ?c18 ?k18 ?a19 ?l19 ?c19 ?k19 ?a20 ?l20 ?c20 ?k20 ?a21 ?l21 ?c21 ?k21 ?a22 ?l22 ?c22 ?k22 ?a23 ?l23 ?c23 ?k23 ?a24 ?l24 ?c24 ?k24 ?a25 ?l25 ?c25 ?k25 ?a26 ?l26 ?c26 ?k26 ?lT26 ?aC ?pgC ?hdC ?poC ?saC ?mkC ?kcC ?nC_deeds ?nC_rows ?nC_tells ?nC_start ?a27 ?i27 ?l27 ?c27 ?k27 ?lT27 ?a28 ?i28 ?l28 ?c28 ?k28 ?a29 ?i29 ?l29 ?c29 ?k29 ?a30 ?i30 ?l30 ?c30 ?k30 ?sfC ?ca_C ?cs_C ?ct_C ?cm_C ?a00 ?aO ?xO ?saO ?gaO ?ggO ?eO ?tO ?kkO ?hO ?iO ?noO_have ?noO_want ?a31 ?t31 ?l31 ?c31 ?k31 ?aT ?xT ?saT ?gaT ?ggT ?eT ?tT ?kkT ?hT ?iT ?noT_what ?noT_many ?noT_most ?a32 ?t32 ?l32 ?c32 ?k32 ?aN ?xN ?saN ?gaN ?ggN ?eN ?tN ?kkN ?hN ?iN ?noN_tell ?a33 ?t33 ?l33 ?c33 ?k33 ?aB ?xB ?saB ?gaB ?ggB ?eB ?tB ?kkB ?hB ?iB ?noB_index ?a34 ?t34 ?l34 ?c34 ?k34 ?aU ?xU ?saU ?gaU ?ggU ?eU ?tU ?kkU ?hU ?iU ?noU_many ?noU_most ?a35 ?t35 ?l35 ?c35 ?k35 ?sOO ?sTO ?sTT ?sNO ?sNT ?sNN ?sBO ?sBT ?sBN ?sBB ?co_LETTERS ?co_DIGITS ?co_LONGEST_WORD ?co_LONGEST_TELL ?co_MOST_DEEDS ?co_MOST_STATES ?z_int ?z_len ?z_list ?z_range ?z_tuple ?z_isinstance ?z_bool ?z_str ?z_all ?z_enumerate ?z_min ?z_zip ?z_any ?npp
    (case a1 => k_is)
    (case l1 => k_is)
    (case c1 => k_is)
    (case k1 => k_is)
    (case a2 => k_is)
    (case l2 => k_is)
    (case c2 => k_is)
    (case k2 => k_is)
    (case a3 => k_is)
    (case l3 => k_is)
    (case c3 => k_is)
    (case k3 => k_is)
    (case a4 => k_is)
    (case l4 => k_is)
    (case c4 => k_is)
    (case k4 => k_is)
    (case a5 => k_is)
    (case l5 => k_is)
    (case c5 => k_is)
    (case k5 => k_is)
    (case a6 => k_is)
    (case l6 => k_is)
    (case c6 => k_is)
    (case k6 => k_is)
    (case a7 => k_is)
    (case l7 => k_is)
    (case c7 => k_is)
    (case k7 => k_is)
    (case a8 => k_is)
    (case l8 => k_is)
    (case c8 => k_is)
    (case k8 => k_is)
    (case a9 => k_is)
    (case l9 => k_is)
    (case c9 => k_is)
    (case k9 => k_is)
    (case a10 => k_is)
    (case l10 => k_is)
    (case c10 => k_is)
    (case k10 => k_is)
    (case a11 => k_is)
    (case l11 => k_is)
    (case c11 => k_is)
    (case k11 => k_is)
    (case a12 => k_is)
    (case l12 => k_is)
    (case c12 => k_is)
    (case k12 => k_is)
    (case a13 => k_is)
    (case l13 => k_is)
    (case c13 => k_is)
    (case k13 => k_is)
    (case lc13 => k_is)
    (case h13 => rfl)
    (case np13 => first | rfl | decide +kernel)
    (case mr13 => first | rfl | decide +kernel)
    (case a14 => k_is)
    (case l14 => k_is)
    (case c14 => k_is)
    (case k14 => k_is)
    (case lc14 => k_is)
    (case h14 => rfl)
    (case np14 => first | rfl | decide +kernel)
    (case mr14 => first | rfl | decide +kernel)
    (case a15 => k_is)
    (case l15 => k_is)
    (case c15 => k_is)
    (case k15 => k_is)
    (case a16 => k_is)
    (case l16 => k_is)
    (case c16 => k_is)
    (case k16 => k_is)
    (case a17 => k_is)
    (case l17 => k_is)
    (case c17 => k_is)
    (case k17 => k_is)
    (case a18 => k_is)
    (case l18 => k_is)
    (case c18 => k_is)
    (case k18 => k_is)
    (case a19 => k_is)
    (case l19 => k_is)
    (case c19 => k_is)
    (case k19 => k_is)
    (case a20 => k_is)
    (case l20 => k_is)
    (case c20 => k_is)
    (case k20 => k_is)
    (case a21 => k_is)
    (case l21 => k_is)
    (case c21 => k_is)
    (case k21 => k_is)
    (case a22 => k_is)
    (case l22 => k_is)
    (case c22 => k_is)
    (case k22 => k_is)
    (case a23 => k_is)
    (case l23 => k_is)
    (case c23 => k_is)
    (case k23 => k_is)
    (case a24 => k_is)
    (case l24 => k_is)
    (case c24 => k_is)
    (case k24 => k_is)
    (case a25 => k_is)
    (case l25 => k_is)
    (case c25 => k_is)
    (case k25 => k_is)
    (case a26 => k_is)
    (case l26 => k_is)
    (case c26 => k_is)
    (case k26 => k_is)
    (case lT26 => k_is)
    (case aC => k_is)
    (case pgC => k_is)
    (case hdC => k_is)
    (case poC => k_is)
    (case saC => k_is)
    (case mkC => k_is)
    (case kcC => k_is)
    (case nC_deeds => k_is)
    (case nC_rows => k_is)
    (case nC_tells => k_is)
    (case nC_start => k_is)
    (case a27 => k_is)
    (case i27 => k_is)
    (case l27 => k_is)
    (case c27 => k_is)
    (case k27 => k_is)
    (case lT27 => k_is)
    (case a28 => k_is)
    (case i28 => k_is)
    (case l28 => k_is)
    (case c28 => k_is)
    (case k28 => k_is)
    (case a29 => k_is)
    (case i29 => k_is)
    (case l29 => k_is)
    (case c29 => k_is)
    (case k29 => k_is)
    (case a30 => k_is)
    (case i30 => k_is)
    (case l30 => k_is)
    (case c30 => k_is)
    (case k30 => k_is)
    (case sfC => k_is)
    (case ca_C => k_is)
    (case cs_C => k_is)
    (case ct_C => k_is)
    (case cm_C => k_is)
    (case a00 => k_is)
    (case aO => k_is)
    (case xO => k_is)
    (case saO => k_is)
    (case gaO => k_is)
    (case ggO => k_is)
    (case eO => k_is)
    (case tO => k_is)
    (case kkO => k_is)
    (case hO => k_is)
    (case iO => k_is)
    (case noO_have => k_is)
    (case noO_want => k_is)
    (case a31 => k_is)
    (case t31 => k_is)
    (case l31 => k_is)
    (case c31 => k_is)
    (case k31 => k_is)
    (case aT => k_is)
    (case xT => k_is)
    (case saT => k_is)
    (case gaT => k_is)
    (case ggT => k_is)
    (case eT => k_is)
    (case tT => k_is)
    (case kkT => k_is)
    (case hT => k_is)
    (case iT => k_is)
    (case noT_what => k_is)
    (case noT_many => k_is)
    (case noT_most => k_is)
    (case a32 => k_is)
    (case t32 => k_is)
    (case l32 => k_is)
    (case c32 => k_is)
    (case k32 => k_is)
    (case aN => k_is)
    (case xN => k_is)
    (case saN => k_is)
    (case gaN => k_is)
    (case ggN => k_is)
    (case eN => k_is)
    (case tN => k_is)
    (case kkN => k_is)
    (case hN => k_is)
    (case iN => k_is)
    (case noN_tell => k_is)
    (case a33 => k_is)
    (case t33 => k_is)
    (case l33 => k_is)
    (case c33 => k_is)
    (case k33 => k_is)
    (case aB => k_is)
    (case xB => k_is)
    (case saB => k_is)
    (case gaB => k_is)
    (case ggB => k_is)
    (case eB => k_is)
    (case tB => k_is)
    (case kkB => k_is)
    (case hB => k_is)
    (case iB => k_is)
    (case noB_index => k_is)
    (case a34 => k_is)
    (case t34 => k_is)
    (case l34 => k_is)
    (case c34 => k_is)
    (case k34 => k_is)
    (case aU => k_is)
    (case xU => k_is)
    (case saU => k_is)
    (case gaU => k_is)
    (case ggU => k_is)
    (case eU => k_is)
    (case tU => k_is)
    (case kkU => k_is)
    (case hU => k_is)
    (case iU => k_is)
    (case noU_many => k_is)
    (case noU_most => k_is)
    (case a35 => k_is)
    (case t35 => k_is)
    (case l35 => k_is)
    (case c35 => k_is)
    (case k35 => k_is)
    (case sOO => k_is)
    (case sTO => k_is)
    (case sTT => k_is)
    (case sNO => k_is)
    (case sNT => k_is)
    (case sNN => k_is)
    (case sBO => k_is)
    (case sBT => k_is)
    (case sBN => k_is)
    (case sBB => k_is)
    (case co_LETTERS => k_is)
    (case co_DIGITS => k_is)
    (case co_LONGEST_WORD => k_is)
    (case co_LONGEST_TELL => k_is)
    (case co_MOST_DEEDS => k_is)
    (case co_MOST_STATES => k_is)
    (case z_int => k_is)
    (case z_len => k_is)
    (case z_list => k_is)
    (case z_range => k_is)
    (case z_tuple => k_is)
    (case z_isinstance => k_is)
    (case z_bool => k_is)
    (case z_str => k_is)
    (case z_all => k_is)
    (case z_enumerate => k_is)
    (case z_min => k_is)
    (case z_zip => k_is)
    (case z_any => k_is)
    (case npp => decide)
