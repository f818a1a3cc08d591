import PyProof.Rows.All
import Wide.All
import OpenK.AllK
import Wide.FinOn
import HandS.ForMost
import HandS.Flow
import HandS.Wide
import HandS.Walk
import KE.GoesMore
import HandS.OwnEq
import PyProof.InstNe
import PyProof.NeKinds
import PyProof.IsRules
import HandS.Strs
import HandS.IsInst
import HandS.TupAny
import HandS.Defaults
import HandS.MakeKw
import HandS.ExcInit
import HandS.ExcField
import HandS.WordsExc
import HandS.Exc
import HandS.TryMany
import HandS.RaiseMore
import HandS.Lambda
import HandS.EndTab
import HandS.ExcOwn
import PyProof.P3In
import HandS.Deep
import HandS.TupLen
import HandS.DictTup
import HandS.Conv
import HandS.Style
import KE.KDictDisplayH
import HandS.Zip
import KE.KeyNested
import HandS.WordsDict
import HandS.TupMul
import HandS.DictEq
import PySem.Challenge.RW_betweenlooks_k06_whole_least_machines
set_option Elab.async false
set_option maxRecDepth 100000
namespace K1
open PySem L2
def top (i : Nat) : Stmt := PySem.Challenge.pw_betweenlooks_k06_whole_least_machines.main.body.getD i (.Pass ⟨0, 0, 0, 0⟩)
abbrev sPen : Stmt := top 40
abbrev sDraw : Stmt := top 41
abbrev sPick : Stmt := top 42
abbrev sWords : Stmt := top 44
/-! the pen: a dict of three -/
abbrev kCells : Key := Sum.inr "cells"
abbrev kAt : Key := Sum.inr "at"
abbrev kLeft : Key := Sum.inr "left"
theorem n_ca : ¬ (kCells = kAt) := by decide +kernel
theorem n_cl : ¬ (kCells = kLeft) := by decide +kernel
theorem n_al : ¬ (kAt = kLeft) := by decide +kernel
theorem n_la : ¬ (kLeft = kAt) := by decide +kernel
theorem n_ac : ¬ (kAt = kCells) := by decide +kernel
theorem n_lc : ¬ (kLeft = kCells) := by decide +kernel
def penK (c : Addr) (a l : Int) : List (Key × V) := [(kCells, .ref c), (kAt, .int a), (kLeft, .int l)]
theorem penK_cells (c : Addr) (a l : Int) : valV (penK c a l) kCells = some (.ref c) := valV_pos rfl
theorem penK_at (c : Addr) (a l : Int) : valV (penK c a l) kAt = some (.int a) := by
  unfold penK; rw [valV_neg n_ca]; exact valV_pos rfl
theorem penK_left (c : Addr) (a l : Int) : valV (penK c a l) kLeft = some (.int l) := by
  unfold penK; rw [valV_neg n_cl, valV_neg n_al]; exact valV_pos rfl
theorem penK_put_at (c : Addr) (a l b : Int) : putK (penK c a l) kAt (.int b) = penK c b l := by
  have h1 : ¬ (("cells" : Str) = "at") := by decide +kernel
  have h2 : ¬ (("left" : Str) = "at") := by decide +kernel
  unfold penK putK; simp [h1, h2]
theorem penK_put_left (c : Addr) (a l b : Int) : putK (penK c a l) kLeft (.int b) = penK c a b := by
  have h1 : ¬ (("cells" : Str) = "left") := by decide +kernel
  have h2 : ¬ (("at" : Str) = "left") := by decide +kernel
  unfold penK putK; simp [h1, h2]
/-- at d stands a pen that was drawn from at most n times -/
def PenAt (H : Hp) (d c : Addr) (n : Nat) : Prop := ∃ (ns : List Int) (a l : Int), H d = some (.dK (penK c a l)) ∧ H c = some (.lst (ns.map V.int)) ∧ ns.length ≤ 63 ∧ 0 ≤ a ∧ a ≤ n
/-- all but d is kept -/
def Kept (d : Addr) (H H' : Hp) : Prop := ∀ b o, H b = some o → b ≠ d → H' b = some o
theorem Kept.refl (d : Addr) (H : Hp) : Kept d H H := fun _ _ e _ => e
theorem Kept.trans {d : Addr} {H H1 H2 : Hp} (a : Kept d H H1) (b : Kept d H1 H2) : Kept d H H2 := fun c o e n => b c o (a c o e n) n
theorem Kept.same {d : Addr} {H H1 : Hp} (a : Same H H1) : Kept d H H1 := fun c o e _ => a c o e
theorem same_upd {H : Hp} {p : Addr} {o : HO} (h : H p = none) : Same H (upd H p o) := fun b u e => by rw [upd_ne (ne_of_none e h)]; exact e
theorem PenAt.mono {H : Hp} {d c : Addr} {n m : Nat} (h : PenAt H d c n) (l : n ≤ m) : PenAt H d c m := by
  obtain ⟨ns, a, x, h1, h2, h3, h4, h5⟩ := h
  exact ⟨ns, a, x, h1, h2, h3, h4, by omega⟩
theorem PenAt.same {H H' : Hp} {d c : Addr} {n : Nat} (h : PenAt H d c n) (s : Same H H') : PenAt H' d c n := by
  obtain ⟨ns, a, x, h1, h2, h3⟩ := h
  exact ⟨ns, a, x, s _ _ h1, s _ _ h2, h3⟩
theorem PenAt.ne {H : Hp} {d c D : Addr} {n : Nat} (h : PenAt H d c n) (z : H D = none) : D ≠ d ∧ D ≠ c := by
  obtain ⟨ns, a, x, h1, h2, h3⟩ := h
  exact ⟨(ne_of_none h1 z).symm, (ne_of_none h2 z).symm⟩
theorem PenAt.upd {H : Hp} {d c D : Addr} {n : Nat} {o : HO} (h : PenAt H d c n) (n1 : D ≠ d) (n2 : D ≠ c) : PenAt (upd H D o) d c n := by
  obtain ⟨ns, a, x, h1, h2, h3⟩ := h
  exact ⟨ns, a, x, by rw [upd_ne n1.symm]; exact h1, by rw [upd_ne n2.symm]; exact h2, h3⟩
theorem Kept.upd {d D : Addr} {H0 H : Hp} {o : HO} (k : Kept d H0 H) (h : H0 D = none) : Kept d H0 (upd H D o) := fun b u e nb => by
  rw [upd_ne (ne_of_none e h)]; exact k b u e nb
theorem Kept.free {d c : Addr} {H H' : Hp} {n : Nat} (k : Kept d H H') (p : PenAt H' d c n) {l : Addr} (h : H' l = none) : H l = none := by
  cases q : H l with
  | none => rfl
  | some o =>
    by_cases e : l = d
    · obtain ⟨ns, a, x, h1, _⟩ := p
      subst e; rw [h] at h1; cases h1
    · have := k l o q e; rw [h] at this; cases this
theorem penK_len (c : Addr) (a l : Int) : (penK c a l).length < sizeLine := by show 3 < sizeLine; decide
theorem dp_ints {K : PySem.W.Frag} {H : Hp} : ∀ ns : List Int, DpAll K H (ns.map V.int) (ns.map PyData.int)
  | [] => .nil
  | n :: r => .cons (.int n) (dp_ints r)
theorem canLay_ints : ∀ ns : List Int, PyData.canLayAll0 (ns.map PyData.int) = true
  | [] => rfl
  | n :: r => by simp [PyData.canLayAll0, PyData.canLay0, canLay_ints r]
theorem eqv_ints_nil (ns : List Int) : PyData.eqv (.list (ns.map PyData.int)) (.list []) = ns.isEmpty := by
  cases ns <;> simp [PyData.eqv, PyData.eqvAll]
theorem shaped_ints (ns : List Int) : SeqAt.shaped (.list (ns.map PyData.int)) = true := by
  have h : ∀ ns : List Int, PyData.depthAll (ns.map PyData.int) ≤ 1 := by
    intro ns
    induction ns with
    | nil => decide
    | cons n r ih => simp only [List.map_cons, PyData.depthAll, PyData.depth]; omega
  have h1 := h ns
  unfold SeqAt.shaped
  rw [PyData.canLay0, canLay_ints, PyData.depth]
  simp only [Bool.true_and, decide_eq_true_eq]
  omega
theorem map_get {ns : List Int} {j : Nat} (h : j < ns.length) : (ns.map V.int)[j]? = some (V.int (ns.getD j 0)) := by
  simp [List.getElem?_eq_getElem h, h]
theorem fmod_nat {a m : Int} (hm : 0 < m) : ∃ j : Nat, a.fmod m = (j : Int) ∧ (j : Int) < m := by
  have h1 := Int.fmod_nonneg_of_pos a hm
  have h2 := Int.fmod_lt_of_pos a hm
  exact ⟨(a.fmod m).toNat, by omega, by omega⟩
theorem fmod_bd {a m : Int} (hm : 0 < m) (hM : m ≤ 2147483648) : -(2 ^ 64) < a.fmod m ∧ a.fmod m < 2 ^ 64 := by
  have h1 := Int.fmod_nonneg_of_pos a hm
  have h2 := Int.fmod_lt_of_pos a hm
  exact ⟨by omega, by omega⟩
structure Bt (mg : Str → Option Value) : Prop where
  int : mg "int" = none
  len : mg "len" = none
  list : mg "list" = none
  range : mg "range" = none
  tuple : mg "tuple" = none
/-- draw: r below many; the pen has been drawn from once more; all else is kept -/
def spDraw : Sp := fun vs H Q _ => ∃ (d c : Addr) (n : Nat) (many : Int), vs = [.ref d, .int many] ∧ PenAt H d c n ∧ n ≤ 1000000 ∧ 0 < many ∧ many < 1073741824 ∧
  ∀ (r : Int) (H' : Hp), 0 ≤ r → r < many → PenAt H' d c (n + 1) → Kept d H H' → Q (.int r) H'
section
variable {P : Program} {w : World} {K : PySem.W.Frag} {mg : Str → Option Value} {base : Heap}
theorem scDraw : FnScope ["_law_pen_here", "_law_many", "_law_digit", "_law_at", "_law_cell", "_law_mixed"] ["_law_pen_here", "_law_many"] (defScope sDraw) := ⟨rfl, rfl, rfl, by decide +kernel, rfl, by decide +kernel, by decide +kernel⟩
theorem ok_draw {f : Addr} {fd : FuncData} (F : Fun K "_law_draw" "_law_draw" sDraw f fd) (T : Bt mg) : FnOk P w K mg base CX0 1 f fd ["_law_pen_here", "_law_many"] spDraw := by
  refine F.ok scDraw (fun vs H Q E h => ?_) (fun cdv A outer s H vs Q E hr h => ?_)
  · obtain ⟨d, c, n, many, rfl, _⟩ := h
    rfl
  · obtain ⟨d, c, n, many, rfl, ⟨ns, a, l, hd, hc, hns, ha0, ha1⟩, hn, hm0, hm1, k⟩ := h
    have hu := hu_of hr
    have ncd : c ≠ d := ne_of hc hd (by intro z; cases z)
    have gL : DGet H d (.str "left") (some (.int l)) := by have := DGet.k (k := kLeft) hd; rw [penK_left] at this; exact this
    refine ⟨_, pss_cons (ps_if (pt_cmpR op_ge (pe_dget hu (pv 0) pe_str (fun _ _ => rfl)) (pv 1) (nomark _))
        (pss_cons (ps_set (i := 2) scDraw.nd rfl (Or.inl rfl) (pe_op op_modN (pe_callTy call_int1 (by rfl) T.int (by decide +kernel) (pa_cons (pe_dget hu (pv 0) pe_str (fun _ _ => rfl)) pa_nil)) (pv 1)))
        (pss_cons (ps_dput hu (pv 0) pe_str (pe_op op_fdivN (pe_dget hu (pv 0) pe_str (fun _ _ => rfl)) (pv 1)) rfl)
        (pss_one (ps_ret (pv 2))))) pss_nil)
      (pss_cons (ps_set (i := 3) scDraw.nd rfl (Or.inl rfl) (pe_dget hu (pv 0) pe_str (fun _ _ => rfl)))
      (pss_cons (ps_dput hu (pv 0) pe_str (pe_op op_add (pv 3) pe_int) rfl)
      (pss_cons (ps_set (i := 4) scDraw.nd rfl (Or.inl rfl) (pe_op op_add (pe_op op_mul pe_int (pv 3)) pe_int))
      (pss_cons (ps_if (pt_cmpR (op_neD hr.units) (pe_dget hu (pv 0) pe_str (fun _ _ => rfl)) (pe_lst pa_nil) (nomark _))
          (pss_one (ps_set (i := 4) scDraw.nd rfl (Or.inl rfl) (pe_ix ix_list (pe_dget hu (pv 0) pe_str (fun _ _ => rfl)) (pe_op op_modN (pe_callTy call_int1 (by rfl) T.int (by decide +kernel) (pa_cons (pv 3) pa_nil)) (pe_callB call_len (by rfl) T.len PySem.boot_len (pa_cons (pe_dget hu (pv 0) pe_str (fun _ _ => rfl)) pa_nil))) (fun _ _ => rfl)))) pss_nil)
      (pss_cons (ps_if (PW.pt (pw_and (pt_cmpR op_lt (pv 3) (pe_callB call_len (by rfl) T.len PySem.boot_len (pa_cons (pe_dget hu (pv 0) pe_str (fun _ _ => rfl)) pa_nil)) (nomark _)) (pw_and1 (pt_cmpR op_ge (pv 4) (pe_op op_pow pe_int pe_int) (nomark _)))))
          (pss_cons (ps_dput hu (pv 0) pe_str (pe_op op_fdivN (pe_op op_sub (pv 4) (pe_op op_pow pe_int pe_int)) (pv 1)) rfl)
          (pss_one (ps_ret (pe_op op_modN (pe_callTy call_int1 (by rfl) T.int (by decide +kernel) (pa_cons (pe_op op_sub (pv 4) (pe_op op_pow pe_int pe_int)) pa_nil)) (pv 1))))) pss_nil)
      (pss_cons (ps_set (i := 5) scDraw.nd rfl (Or.inl rfl) (pe_op op_add (pe_op op_add (pe_op op_add (pe_op op_mul (pe_op op_modN (pe_callTy call_int1 (by rfl) T.int (by decide +kernel) (pa_cons (pv 4) pa_nil)) pe_int) pe_int) (pe_op op_mul (pe_op op_mul pe_int (pv 3)) (pv 3))) (pe_op op_mul pe_int (pv 3))) pe_int))
      (pss_cons (ps_set (i := 5) scDraw.nd rfl (Or.inl rfl) (pe_op op_modN (pe_callTy call_int1 (by rfl) T.int (by decide +kernel) (pa_cons (pv 5) pa_nil)) pe_int))
      (pss_cons (ps_set (i := 5) scDraw.nd rfl (Or.inl rfl) (pe_op op_modN (pe_callTy call_int1 (by rfl) T.int (by decide +kernel) (pa_cons (pe_op op_mul (pv 5) (pe_op op_add (pv 5) pe_int)) pa_nil)) pe_int))
      (pss_one (ps_ret (pe_op op_modN (pe_callTy call_int1 (by rfl) T.int (by decide +kernel) (pa_cons (pe_op op_fdivN (pe_op op_modN (pe_callTy call_int1 (by rfl) T.int (by decide +kernel) (pa_cons (pe_op op_mul (pv 5) (pv 5)) pa_nil)) pe_int) pe_int) pa_nil)) (pv 1)))))))))))), ?_⟩
    -- pen['left'] >= many
    refine ⟨_, rfl, d, _, rfl, gL, _, rfl, _, _, rfl, rfl, _, rfl, ?_⟩
    refine ite2 (fun _ => ?_) (fun _ => ?_)
    · refine ⟨_, rfl, d, _, rfl, gL, .inl ⟨_, rfl, ?_⟩⟩
      refine ⟨_, rfl, _, _, rfl, rfl, (by omega), ?_⟩
      refine ⟨_, rfl, d, _, rfl, gL, _, rfl, _, _, rfl, rfl, ⟨by omega, by omega⟩, ?_⟩
      refine ⟨_, rfl, d, _, rfl, DPut.k (k := kLeft) hd (penK_len _ _ _), ?_⟩
      refine ⟨_, rfl, ?_⟩
      refine k _ _ (Int.fmod_nonneg_of_pos _ hm0) (Int.fmod_lt_of_pos _ hm0) ⟨ns, a, l.fdiv many, ?_, ?_, hns, ha0, by omega⟩ ?_
      · rw [upd_same, penK_put_left]
      · rw [upd_ne ncd]; exact hc
      · intro b o e nb; rw [upd_ne nb]; exact e
    · have gA : DGet H d (.str "at") (some (.int a)) := by have := DGet.k (k := kAt) hd; rw [penK_at] at this; exact this
      refine ⟨_, rfl, d, _, rfl, gA, ?_⟩
      refine ⟨_, rfl, _, _, rfl, rfl, _, rfl, d, _, rfl, DPut.k (k := kAt) hd (penK_len _ _ _), ?_⟩
      rw [penK_put_at]
      have hd1 : upd H d (.dK (penK c (a + 1) l)) d = some (.dK (penK c (a + 1) l)) := upd_same
      have hc1 : upd H d (.dK (penK c (a + 1) l)) c = some (.lst (ns.map V.int)) := by rw [upd_ne ncd]; exact hc
      have kp1 : Kept d H (upd H d (.dK (penK c (a + 1) l))) := fun b o e nb => by rw [upd_ne nb]; exact e
      generalize upd H d (.dK (penK c (a + 1) l)) = H1 at hd1 hc1 kp1 ⊢
      refine ⟨_, rfl, _, _, rfl, rfl, .inl ⟨by decide, by decide⟩, _, _, rfl, rfl, ?_⟩
      have gC1 : DGet H1 d (.str "cells") (some (.ref c)) := by have := DGet.k (k := kCells) hd1; rw [penK_cells] at this; exact this
      refine ⟨_, rfl, d, _, rfl, gC1, Nat.zero_le _, fun q hq => ?_⟩
      have sm : Same H1 (upd H1 q (.lst [])) := same_upd hq
      have hq1 : upd H1 q (.lst []) q = some (.lst []) := upd_same
      have hd2 := sm _ _ hd1
      have hc2 := sm _ _ hc1
      have kp2 : Kept d H (upd H1 q (.lst [])) := kp1.trans (.same sm)
      generalize upd H1 q (.lst []) = H2 at hq1 hd2 hc2 kp2 ⊢
      have gC2 : DGet H2 d (.str "cells") (some (.ref c)) := by have := DGet.k (k := kCells) hd2; rw [penK_cells] at this; exact this
      refine ⟨_, _, .lst (SqL.of hc2) (dp_ints ns), .lst (SqL.of hq1) .nil, shaped_ints ns, by decide +kernel, _, rfl, ?_⟩
      rw [eqv_ints_nil]
      have len2 : LenV K (.ref c) H2 ns.length := .inl ⟨_, SqL.of hc2, (List.length_map _).symm⟩
      have hpos : (!ns.isEmpty) = true → 0 < ns.length := fun hne => by
        cases ns with
        | nil => cases hne
        | cons _ _ => exact Nat.succ_pos _
      have hix : (!ns.isEmpty) = true → atI (ns.map V.int) (a.fmod (ns.length : Int)) = some (V.int (ns.getD (a.fmod (ns.length : Int)).toNat 0)) := fun hne => by
        have hp := hpos hne
        obtain ⟨j, ej, hj⟩ := fmod_nat (a := a) (m := (ns.length : Int)) (by omega)
        rw [ej]
        exact atI_nat (map_get (by omega))
      refine ite2 (fun hne => ⟨_, rfl, d, _, rfl, gC2, _, rfl, .inl ⟨_, rfl, ⟨_, rfl, d, _, rfl, gC2, _, _, rfl, len2, _, _, rfl, rfl, (by have := hpos hne; omega), c, _, _, _, rfl, rfl, SqL.of hc2, hix hne, ?_⟩⟩⟩) (fun _ => ?_)
      all_goals
        refine ⟨_, rfl, _, rfl, d, _, rfl, gC2, _, _, rfl, len2, _, _, rfl, rfl, _, rfl, ?_⟩
        have fin : ∀ (H3 : Hp) (l' : Int) (r : Int), H3 d = some (.dK (penK c (a + 1) l')) → H3 c = some (.lst (ns.map V.int)) → Kept d H H3 → Q (.int (r.fmod many)) H3 := fun H3 l' r e1 e2 e3 =>
          k _ _ (Int.fmod_nonneg_of_pos _ hm0) (Int.fmod_lt_of_pos _ hm0) ⟨ns, a + 1, l', e1, e2, hns, by omega, by omega⟩ e3
        refine ite2 (fun _ => ⟨_, rfl, _, _, rfl, rfl, ⟨by decide, by decide, by decide⟩, _, _, rfl, rfl, _, rfl, ite2 (fun _ => ?_) (fun _ => ?_)⟩) (fun _ => ?_)
        ·
          refine ⟨_, rfl, _, _, rfl, rfl, ⟨by decide, by decide, by decide⟩, _, _, rfl, rfl, _, rfl, _, _, rfl, rfl, ⟨by omega, by omega⟩, _, rfl, d, _, rfl, DPut.k (k := kLeft) hd2 (penK_len _ _ _), ?_⟩
          rw [penK_put_left]
          refine ⟨_, rfl, _, _, rfl, rfl, ⟨by decide, by decide, by decide⟩, _, _, rfl, rfl, .inl ⟨_, rfl, ?_⟩⟩
          refine ⟨_, rfl, _, _, rfl, rfl, (by omega), ?_⟩
          refine fin _ _ _ upd_same (by rw [upd_ne ncd]; exact hc2) (fun b o e nb => by rw [upd_ne nb]; exact kp2 b o e nb)
        all_goals
          refine ⟨_, rfl, .inl ⟨_, rfl, ?_⟩⟩
          refine ⟨_, _, rfl, rfl, (by omega), ?_⟩
          refine ⟨_, _, rfl, rfl, .inr ⟨by decide, by decide⟩, ?_⟩
          refine ⟨_, rfl, _, _, rfl, rfl, .inl ⟨by decide, by decide⟩, _, rfl, _, _, rfl, rfl, .inr ⟨by omega, by omega⟩, ?_⟩
          refine ⟨_, _, rfl, rfl, _, rfl, _, _, rfl, rfl, .inl ⟨by decide, by decide⟩, ?_⟩
          refine ⟨_, _, rfl, rfl, _, _, rfl, rfl, ?_⟩
          -- mixed = int(mixed) % 2147483647
          refine ⟨_, rfl, .inl ⟨_, rfl, ?_⟩⟩
          refine ⟨_, _, rfl, rfl, (by omega), ?_⟩
          refine ⟨_, rfl, _, rfl, _, _, rfl, rfl, _, _, rfl, rfl, .inl (fmod_bd (by decide) (by decide)), .inl ⟨_, rfl, ?_⟩⟩
          refine ⟨_, _, rfl, rfl, (by omega), ?_⟩
          refine ⟨_, rfl, _, rfl, _, _, rfl, rfl, .inl (fmod_bd (by decide) (by decide)), .inl ⟨_, rfl, ?_⟩⟩
          refine ⟨_, _, rfl, rfl, (by omega), _, _, rfl, rfl, ⟨by decide, by decide⟩, .inl ⟨_, rfl, ?_⟩⟩
          refine ⟨_, rfl, _, _, rfl, rfl, (by omega), ?_⟩
          exact fin _ _ _ hd2 hc2 kp2
end
end K1
set_option Elab.async false
set_option linter.all false
set_option maxRecDepth 100000
namespace EO
open PySem
open AutoSeq1 (wpAny_loadPart')
set_option maxHeartbeats 1000000 in
theorem meets_enumerate_newT (l : Addr) (items : Array Value) (n : Nat) (dct : Option Addr) (sl : Array (Option Value)) :
    Meets (Builtin.«enumerate.__new__» ⟨[.type "enumerate", .ref l], []⟩) (fun _ R s => s.heap.get? l = some { cls := .type "tuple", dict := dct, data := .seq items n, slots := sl } ∧
      R (.ok (.ret (.ref (s.heap.push { cls := .type "tuple_iterator", data := .fields #[.ref l, .int 0 0] }).objs.size)))
        { s with heap := (s.heap.push { cls := .type "tuple_iterator", data := .fields #[.ref l, .int 0 0] }).push { cls := .type "enumerate", data := .fields #[.none, .bool false, .ref s.heap.objs.size, rawInt 0, .none, .none] } }) :=
  .of_wp fun prog w A R s h => by
    obtain ⟨hp, g, d, tk, os⟩ := s; obtain ⟨hl, h⟩ := h
    have hsub := sub_enumerate
    have hL : Heap.IsTuple (Shared.heap ⟨hp, g, d, tk, os⟩) l items := ⟨_, hl, rfl, n, rfl⟩
    wp_walk using wpAny_loadPart' hl
    refine wpAny_stack_any fun st => wpAny_pure ?_
    split
    · rename_i c _ _ _ _ _
      cases (c == Value.type "enumerate")
      · wp_walk using wpAny_loadPart' hl, wpAny_pyIter_tuple hL
        exact ⟨_, rfl, h⟩
      · wp_walk using wpAny_loadPart' hl, wpAny_pyIter_tuple hL
        exact ⟨_, rfl, h⟩
    · wp_walk using wpAny_loadPart' hl, wpAny_pyIter_tuple hL
      exact ⟨_, rfl, h⟩
section
variable {prog : Program} {w : World} {A : Around} {E : Value → Shared → Prop} {s : Shared}
theorem call_enumerate_tuple {l : Addr} {items : Array Value} {Q : Value → Shared → Prop} (hL : s.heap.IsTuple l items)
    (h : ∀ h', IsEnum h' (s.heap.objs.size + 1) s.heap.objs.size 0 .none → h'.IsTupleIter s.heap.objs.size l 0 → h'.objs.size = s.heap.objs.size + 2 →
      (∀ b o, s.heap.get? b = some o → h'.get? b = some o) → Q (.ref (s.heap.objs.size + 1)) { s with heap := h' }) :
    wpAny (model prog w) A (call (.type "enumerate") [.ref l]) Q E s := by
  obtain ⟨⟨c, dct, dt, sl⟩, hl, hc, n, hd⟩ := hL
  replace hc : c = .type "tuple" := hc
  replace hd : dt = .seq items n := hd
  subst hc hd
  refine callType_new F.called_enumerate (by decide) (F.typeCall_enumerate_1 _) (F.newCall_enumerate_1 _) (fun obj => F.args_object_init_2 obj _) F.entry_enumerate_new
    (meets_enumerate_newT l items n dct sl) ⟨hl, ?_⟩
  have hz : (s.heap.push { cls := .type "tuple_iterator", data := .fields #[.ref l, .int 0 0] }).objs.size = s.heap.objs.size + 1 := Heap.size_push ..
  show _ ∧ _
  rw [hz]
  have he : IsEnum ((s.heap.push { cls := .type "tuple_iterator", data := .fields #[.ref l, .int 0 0] }).push
      { cls := .type "enumerate", data := .fields #[.none, .bool false, .ref s.heap.objs.size, rawInt 0, .none, .none] }) (s.heap.objs.size + 1) s.heap.objs.size 0 .none := by
    have := Heap.get?_push_size (s.heap.push { cls := .type "tuple_iterator", data := .fields #[.ref l, .int 0 0] })
      (o := { cls := .type "enumerate", data := .fields #[.none, .bool false, .ref s.heap.objs.size, rawInt 0, .none, .none] }) rfl
    rw [hz] at this; exact this
  refine ⟨⟨_, he, rfl⟩, h _ he ⟨_, Heap.get?_push_of_some _ (Heap.get?_push_size _ rfl), rfl, rfl⟩ (by rw [Heap.size_push, hz]) fun b o x => Heap.get?_push_of_some _ (Heap.get?_push_of_some _ x)⟩
theorem enumT_end {e it t : Addr} {i : Nat} {k : Int} {items : Array Value} {old : Value} {Q : Option Value → Shared → Prop} (hh : A.handled = none)
    (he : IsEnum s.heap e it k old) (hit : s.heap.IsTupleIter it t i) (ht : s.heap.IsTuple t items) (hx : items[i]? = none)
    (hQ : ∀ h', Heap.ExtBut it s.heap h' → Q none { s with heap := h' }) : wpAny (model prog w) A (pyNext (.ref e)) Q E s := by
  have hT : s.TypeIs (.ref e) "enumerate" := ⟨_, he, rfl⟩
  unfold pyNext
  refine wpAny_bind (wpAny_attempt (wpAny_callSpecial?_slot (name := Str.ofString "__next__") hT F.slot_enumerate_next
    (wpAny_call_entry F.slot_enumerate_next hT F.entry_enumerate_next ?_ (F.args_enumerate_next_1 _))))
  show wpAny _ _ (field (.ref e) 2 >>= _) _ _ _
  refine wpAny_bind (wpAny_field he rfl (x := .ref it) rfl ?_)
  refine wpAny_bind (wpAny_nextOf_tuple_end hh hit ht hx fun h' x he' hx' => ?_)
  obtain ⟨o, ho, hc⟩ := hx'
  refine wpAny_bind (wpAny_isInstance (T := "StopIteration") (b := true) ⟨o, ho, hc⟩ isSubtype_stop ?_)
  exact wpAny_pure (hQ _ he')
end
end EO
namespace L2
open PySem PySem.Spec PyProof.Rows
/-! ### enumerate(tuple) -/
def IteT (K : PySem.W.Frag) (a : Addr) : It :=
  ⟨fun i H => ∃ (xs : List V) (x : V), SqT K H a xs ∧ xs[i]? = some x, fun i H v H' => ∃ T x, v = .ref T ∧ H T = none ∧ H' = upd H T (.tup [.int (i : Nat), x]) ∧ ∀ xs, SqT K H a xs → xs[i]? = some x, fun i H => ∃ xs : List V, SqT K H a xs ∧ xs.length ≤ i⟩
theorem turn_enumT {P : Program} {w : World} {K : PySem.W.Frag} {elts : List Expr} {kk : Nat} {tpos : Pos} (a e it : Addr) :
    Turn P w K (.Tuple elts kk tpos) (IteT K a) [e, it] e (fun i h => (∃ old, IsEnum h e it ((i : Nat) : Int) old) ∧ h.IsTupleIter it a i ∧ e ≠ it) where
  mem := by simp
  obj := fun i h st b hb => by
    obtain ⟨⟨old, he⟩, ⟨o, ho, hc, hd⟩, _⟩ := st
    have e' : b = e ∨ b = it := by simpa using hb
    rcases e' with z | z
    · rw [z]; exact ⟨_, he, fun v q => nomatch q⟩
    · rw [z]; exact ⟨o, ho, fun v q => by rw [hd] at q; cases q⟩
  keep := fun i h h' st k => let ⟨⟨old, he⟩, hi, hne⟩ := st; ⟨⟨old, k e (by simp) _ he⟩, hi.at fun o q => k it (by simp) o q, hne⟩
  item := by
    intro X hP hw hK hc i pins s σ H E I hf st hg
    subst hP hw hK
    obtain ⟨⟨old, he⟩, hit, hne⟩ := st
    obtain ⟨xs, x, hq, hx⟩ := hg
    obtain ⟨its, rv, p, hz⟩ := I.tuple hq
    obtain ⟨u, hu, ru⟩ := rv.get hx
    have hil' : i < its.length := (List.getElem?_eq_some_iff.mp hu).1
    have hel : e < s.heap.objs.size := Heap.lt_size he
    have hil : it < s.heap.objs.size := by obtain ⟨_, q, _⟩ := hit; exact Heap.lt_size q
    have hai : a ≠ it := by
      intro z
      obtain ⟨o1, q1, c1, _⟩ := p
      obtain ⟨o2, q2, c2, _⟩ := hit
      rw [z, q2] at q1; cases q1; rw [c2] at c1; exact absurd c1 (by simp)
    have hea : e ≠ a := by
      intro z
      obtain ⟨o1, q1, c1, _⟩ := p
      rw [← z] at q1
      have q2 := he
      unfold IsEnum at q2
      rw [q1] at q2; cases q2; exact absurd c1 (by simp)
    refine wpAny_pyNext_enum_itemD (Draws.tuple (A := X.A.in1) (I.ok.hd hc) it a hai its.toArray) he ⟨hit, p⟩ (by simpa using hil') hne (by simp [hne, hea]) fun y h' tk hy ho hit' hT hsz hk => ?_
    have hyu : y = u := by
      have : its.toArray[i]? = some u := by simpa using hu
      rw [this] at hy; exact (Option.some.inj hy).symm
    subst hyu
    refine ⟨_, rfl, wpAny_letOwnedTupleGo_enum (s := { s with heap := h', toks := tk + 1 }) ho fun h'' he' sb => ?_⟩
    have hT2 : h''.get? s.heap.objs.size = some { cls := .type "tuple", data := .seq #[.int i tk, y] } := (sb.2 _ (Nat.ne_of_gt hel)).trans hT
    have new : ObjOk X.prog X.w (upd H s.heap.objs.size (.tup [.int (i : Nat), x])) h'' s.heap.objs.size (.tup [.int (i : Nat), x]) :=
      ⟨by show 2 ≤ sizeLine; decide, [.int i tk, y], .cons ⟨_, rfl⟩ (.cons ru .nil), ⟨_, hT2, rfl, _, rfl⟩⟩
    have I1 : Inv X pins σ (upd H s.heap.objs.size (.tup [.int (i : Nat), x])) { s with heap := h'', toks := tk + 1 } :=
      I.turnedNew (ch := [e, it]) (fun b ob hb q => (sb.2 b (fun z => hb (by simp [z]))).trans (hk b ob (fun z => hb (by simp [z])) (fun z => hb (by simp [z])) q)) hf (Nat.le_refl _) new
    refine ⟨.ref s.heap.objs.size, _, I1, rfl, ⟨_, x, rfl, I.hok.fresh (Nat.le_refl _), rfl, fun ys hy => by rw [I.tuple_inj hy hq]; exact hx⟩, ⟨⟨y, ?_⟩, hit'.1.at fun o q => (sb.2 it (Ne.symm hne)).trans q, hne⟩, fun b hb => ?_⟩
    · have e1 : ((i + 1 : Nat) : Int) = (i : Int) + 1 := by omega
      rw [e1]; exact he'
    · have hb' : b < s.heap.objs.size := by
        have e' : b = e ∨ b = it := by simpa using hb
        rcases e' with z | z
        · rw [z]; exact hel
        · rw [z]; exact hil
      rw [upd_ne (Nat.ne_of_lt hb')]
      exact (hf b hb).1
  done := by
    intro X hP hw hK hc i pins s σ H E I hf st hg
    subst hP hw hK
    obtain ⟨⟨old, he⟩, hit, hne⟩ := st
    obtain ⟨xs, hq, hx⟩ := hg
    obtain ⟨its, rv, p, hz⟩ := I.tuple hq
    obtain ⟨f0, f1, f2, f3, f4, f5⟩ := hf it (by simp)
    have hl := rv.length
    exact EO.enumT_end (I.ok.hd hc) he hit p (by simp; omega) fun h' eb => ⟨rfl, I.turned (t' := s.toks) (fun b o hb q => eb b o hb q) f0 f1 f3 f4 f5⟩
  self := fun A i s Q E st h => let ⟨⟨_, he⟩, _⟩ := st; wpAny_pyIter_enum he h
def iEnumT (K : PySem.W.Frag) (ta : TA) : TI := fun σ H R => ta σ H fun vs H1 => ∃ a xs, vs = [.ref a] ∧ SqT K H1 a xs ∧ R (IteT K a) H1
theorem pi_enumT {X : Cx} {e : Expr} {ta : TA} {p pos tpos : Pos} {elts : List Expr} {kk : Nat} (hg : Gl X "enumerate") (hm : X.mg "enumerate" = none) (ha : PA X [e] ta) (hs : starEach [e] X.env = [(false, eval e X.env)] := by rfl) :
    PI X (.Tuple elts kk tpos) (.Call (.Name "enumerate" p) [e] [] pos) (iEnumT X.K ta) := by
  refine ⟨fun pins s σ H R I h => ?_⟩
  refine Call_ (ld_blt I hg hm boot_enumerate (PyProof.Rows.callWith_type1 (thn (ha.run pos pins s σ H _ I h) fun us s1 ⟨vs, H1, I1, r1, q1⟩ => ?_) hs rfl))
  obtain ⟨a, xs, ex, hq, q⟩ := q1
  subst ex
  cases r1 with
  | cons r rr =>
    cases rr
    cases r
    obtain ⟨its, rv, p', hz⟩ := I1.tuple hq
    refine EO.call_enumerate_tuple (by exact p') fun h' he hit hsz hk => wpAny_pyIter_enum he ?_
    have I2 : Inv X pins σ H1 { s1 with heap := h' } := I1.kept (t' := s1.toks) hk
    refine ⟨s1.heap.objs.size + 1, [s1.heap.objs.size + 1, s1.heap.objs.size], _, _, H1, rfl, I2, turn_enumT a (s1.heap.objs.size + 1) s1.heap.objs.size, ⟨⟨.none, he⟩, hit, Nat.succ_ne_self _⟩, fun b hb => ?_, q⟩
    have e' : b = s1.heap.objs.size + 1 ∨ b = s1.heap.objs.size := by simpa using hb
    have hle : s1.heap.objs.size ≤ b := by
      rcases e' with z | z
      · rw [z]; exact Nat.le_add_right _ _
      · rw [z]; exact Nat.le_refl _
    exact I1.fpOk hle (I1.hok.fresh hle)
theorem walk_enumT {K : PySem.W.Frag} {a : Addr} {xs : List V} : Walk (IteT K a) xs.length (fun H => SqT K H a xs) (YPair (fun i => some (.int (i : Nat))) (fun i => xs[i]?)) := by
  refine ⟨fun i _ hi q => ⟨xs, xs[i], q, by simp [hi]⟩, fun _ q => ⟨xs, q, Nat.le_refl _⟩, fun i H v H' _ q y => ?_⟩
  obtain ⟨T, x, h1, h2, h3, h4⟩ := y
  exact ⟨T, .int (i : Nat), x, h1, h2, h3, rfl, h4 xs q⟩
end L2
set_option Elab.async false
set_option maxRecDepth 100000
namespace EO
open PySem PySem.W PySem.Spec PyProof.Rows L2
section
variable {prog : Program} {w : World} {A : Around} {E : Value → Shared → Prop} {s : Shared} {K : Frag} {x C L f : Addr} {h₀ : Heap} {m : Str → Option Value} {ox : Obj} {od : Option Obj} {name : Str} {b tb : Value}
theorem cmp_dec_K {Q : Value → Shared → Prop} (hu : A.units < cLine) (X : K.In s.heap) (I : InstAt s.heap x ox C od) (hb : Looks (model prog w) s.heap (typeOf b) tb) (hn : notFirst K C tb = true)
    (hs : findIn K (.ref C) "__eq__" = some (some (.ref f))) (hf : isFn K (.ref f) = true)
    (h : wpAny (model prog w) A (call (.ref f) [.ref x, b]) (fun v s' => v = .notImplemented ∧ wpAny (model prog w) A (tryCompare b "__eq__" (.ref x)) (fun r s2 => r = none ∧ wpAny (model prog w) A (isSame (.ref x) b) (fun k s3 => Q (.bool k) s3) E s2) E s') E s) :
    wpAny (model prog w) A (richCompare .Eq (.ref x) b) Q E s := by
  have one : wpAny (model prog w) A (tryCompare (.ref x) "__eq__" b) (fun r s' => r = none ∧ wpAny (model prog w) A (tryCompare b "__eq__" (.ref x)) (fun r s2 => r = none ∧ wpAny (model prog w) A (isSame (.ref x) b) (fun k s3 => Q (.bool k) s3) E s2) E s') E s := by
    unfold tryCompare
    refine wpAny_bind (ifBound_K X I hs hf (wpAny_mono h (fun v s' hv => ?_) fun _ _ e => e))
    obtain ⟨rfl, hv⟩ := hv
    exact wpAny_pure ⟨rfl, hv⟩
  unfold richCompare
  simp only [oneThing_ref]
  refine wpAny_holding (wpAny_bind (wpAny_cRoomFor hu ?_))
  refine wpAny_bind (I.type.here (wpAny_bind (hb.here ?_)))
  split
  · rename_i q
    have e : subIn K tb (.ref C) = some false := by
      rcases Bool.or_eq_true_iff.mp hn with e | e
      · rw [beq_iff_eq.mp e] at q; simp at q
      · exact beq_iff_eq.mp e
    refine wpAny_bind ((looks_subIn X e).here ?_)
    simp only [Bool.false_eq_true, if_false]
    refine wpAny_bind (wpAny_mono one (fun r s' z => ?_) fun _ _ e => e)
    obtain ⟨rfl, z⟩ := z
    simp only [Bool.not_false, if_true]
    refine wpAny_bind (wpAny_mono z (fun r s' z => ?_) fun _ _ e => e)
    obtain ⟨rfl, z⟩ := z
    refine wpAny_bind (wpAny_rule ?_)
    exact wpAny_bind (wpAny_mono z (fun k s3 q => wpAny_pure q) fun _ _ e => e)
  · refine wpAny_bind (wpAny_pure ?_)
    simp only [Bool.false_eq_true, if_false]
    refine wpAny_bind (wpAny_mono one (fun r s' z => ?_) fun _ _ e => e)
    obtain ⟨rfl, z⟩ := z
    simp only [Bool.not_false, if_true]
    refine wpAny_bind (wpAny_mono z (fun r s' z => ?_) fun _ _ e => e)
    obtain ⟨rfl, z⟩ := z
    refine wpAny_bind (wpAny_rule ?_)
    exact wpAny_bind (wpAny_mono z (fun k s3 q => wpAny_pure q) fun _ _ e => e)
/-- a special method that is a built-in slot -/
theorem ifBound_B {M : Model} {id : String} {args : List Value} {Q : Option Value → Shared → Prop} (X : K.In s.heap) (I : InstAt s.heap x ox C od) (hs : findIn K (.ref C) name = some (some (.builtin id))) (hb : bindSpecial (.builtin id) (.ref x) = pure (.builtin id, [.ref x]))
    (h : wpAny M A (call (.builtin id) (.ref x :: args)) (fun v => Q (some v)) E s) : wpAny M A (callSpecialIfBound? (.ref x) name args) Q E s := by
  simp only [callSpecialIfBound?, bindSpecialIfBound?, hb]
  refine wpAny_holding (wpAny_bind (wpAny_bind (wpAny_bind (I.type.here ((looks_findIn X hs).here ?_)))))
  refine wpAny_bind (wpAny_askSetting (wpAny_ite ?_))
  have fin : wpAny M A (call (.builtin id) ([.ref x] ++ args) >>= fun v => pure (some v)) Q E s := wpAny_bind (wpAny_mono h (fun v s' h' => wpAny_pure h') fun _ _ h' => h')
  simp only [hb, pure_bind]
  split
  · exact wpAny_pure (by exact fin)
  · exact wpAny_tryCatch (wpAny_pure (by exact fin))
/-- the check of a slot of object's, called of an instance -/
theorem check_obj {M : Model} {id n : String} {rest : List Value} {Q : Unit → Shared → Prop} (hk : builtinKind id = some .slot) (hs : splitId id = some ("object", n)) (ha : argsOk id ⟨.ref x :: rest, []⟩)
    (X : K.In s.heap) (I : InstAt s.heap x ox C od) (hm : mroIn K C (.type "object") = some true) (hq : Q () s) : wpAny M A (checkBuiltinCall id ⟨.ref x :: rest, []⟩) Q E s := by
  simp only [checkBuiltinCall, hk, hs]
  refine wpAny_bind ?_
  unfold isInstance
  refine wpAny_bind (I.type.here ((looks_mroIn X hm).here ?_))
  simp only [Bool.not_true, Bool.false_eq_true, if_false]
  cases hsig : Manifest.signature? id with
  | none => exact wpAny_pure hq
  | some sig =>
    simp only [argsOk, hsig] at ha
    have h2 : Bind.checkArgs id sig ⟨.ref x :: rest, []⟩ = pure () := ha
    show wpAny M A (Bind.checkArgs id sig ⟨.ref x :: rest, []⟩) Q E _
    rw [h2]; exact wpAny_pure hq
/-- a != b by object's own, over an own == that answers True or False -/
theorem ne_K {Q : Value → Shared → Prop} (hu : A.units + 1 < cLine) (X : K.In s.heap) (I : InstAt s.heap x ox C od) (hb : Looks (model prog w) s.heap (typeOf b) tb) (hn : notFirst K C tb = true)
    (hs : findIn K (.ref C) "__eq__" = some (some (.ref f))) (hf : isFn K (.ref f) = true) (hne : findIn K (.ref C) "__ne__" = some (some (.builtin "object.__ne__"))) (hm : mroIn K C (.type "object") = some true)
    (h : wpAny (model prog w) A.in1 (call (.ref f) [.ref x, b]) (fun v s' => ∃ c, v = .bool c ∧ Q (.bool (!c)) s') E s) :
    wpAny (model prog w) A (richCompare .NotEq (.ref x) b) Q E s := by
  have body : wpAny (model prog w) A (call (.builtin "object.__ne__") [.ref x, b]) (fun v s' => ∃ c, v = .bool c ∧ Q (.bool c) s') E s := by
    refine wpAny_call ?_
    refine codeAny_call_builtin F.cmp_object.ne.plain F.cmpEntry_ne ?_
    refine check_obj (id := "object.__ne__") (n := "__ne__") (rest := [b]) (x := x) F.cmpKind_ne F.cmpSplit_ne (F.cmpArgs_ne _ _) X I hm ?_
    have h' : wpAny (model prog w) A.in1 (callSpecialIfBound? (.ref x) (Str.ofString "__eq__") [b]) (fun r s' => ∃ c, r = some (.bool c) ∧ Q (.bool (!c)) s') E s :=
      ifBound_K X I hs hf (wpAny_mono h (fun r s' hr => by obtain ⟨c, rfl, hq⟩ := hr; exact ⟨c, rfl, hq⟩) fun _ _ e => e)
    unfold Builtin.«object.__ne__»
    repeat (first
      | with_reducible refine wpAny_cRoomFor (A := A.in1) hu ?_
      | (refine wpAny_bind (m := callSpecialIfBound? (.ref x) (Str.ofString "__eq__") [b]) (wpAny_mono h' (fun r s' hr => ?_) fun _ _ e => e)
         obtain ⟨c, rfl, hq⟩ := hr)
      | wp_step)
    exact ⟨_, rfl, hq⟩
  have one : wpAny (model prog w) A (tryCompare (.ref x) "__ne__" b) (fun r s' => ∃ v, r = some v ∧ Q v s') E s := by
    unfold tryCompare
    refine wpAny_bind (ifBound_B X I hne (F.cmp_object.ne.bind _) (wpAny_mono body (fun v s' hv => ?_) fun _ _ e => e))
    obtain ⟨c, rfl, hq⟩ := hv
    exact wpAny_pure ⟨_, rfl, hq⟩
  unfold richCompare
  simp only [oneThing_ref]
  refine wpAny_holding (wpAny_bind (wpAny_cRoomFor (Nat.lt_of_succ_lt hu) ?_))
  refine wpAny_bind (I.type.here (wpAny_bind (hb.here ?_)))
  split
  · rename_i q
    have e : subIn K tb (.ref C) = some false := by
      rcases Bool.or_eq_true_iff.mp hn with e | e
      · rw [beq_iff_eq.mp e] at q; simp at q
      · exact beq_iff_eq.mp e
    refine wpAny_bind ((looks_subIn X e).here ?_)
    simp only [Bool.false_eq_true, if_false]
    refine wpAny_bind (wpAny_mono one (fun r s' z => ?_) fun _ _ e => e)
    obtain ⟨v, rfl, hq⟩ := z
    exact wpAny_pure hq
  · refine wpAny_bind (wpAny_pure ?_)
    simp only [Bool.false_eq_true, if_false]
    refine wpAny_bind (wpAny_mono one (fun r s' z => ?_) fun _ _ e => e)
    obtain ⟨v, rfl, hq⟩ := z
    exact wpAny_pure hq
end
end EO

namespace L2
open PySem PySem.Spec PyProof.Rows
/-- two instances of the class at C, compared by the text's own ==, that answers True or False -/
structure OwnE (K : PySem.W.Frag) (C f : Addr) : Prop where
  eq : PySem.W.findIn K (.ref C) "__eq__" = some (some (.ref f))
  fn : PySem.W.isFn K (.ref f) = true
  ne : PySem.W.findIn K (.ref C) "__ne__" = some (some (.builtin "object.__ne__"))
  mo : PySem.W.mroIn K C (.type "object") = some true
def rOwn (C : Addr) (sp : Sp) (g : Bool → Bool) (E : XK) : R2 := fun x y H Q => ∃ a b dx dy fs gs, x = .ref a ∧ y = .ref b ∧ H a = some (.ins C dx fs) ∧ H b = some (.ins C dy gs) ∧
  sp [x, y] H (fun v H' => ∃ c, v = .bl c ∧ Q (.bl (g c)) H') E
section
variable {X : Cx} {n : Nat} {CX : CXT} {C f : Addr} {fd : FuncData} {ps : List Str} {sp : Sp} {E : XK}
theorem own_call {A : Around} {pins : List (Addr × Obj)} {s : Shared} {σ : St} {H : Hp} {vs : List V} {us : List Value} {Q : VK} (F : FnOk X.prog X.w X.K X.mg X.base CX n f fd ps sp) (hb : Binds X.K fd ps []) (hx : Passes CX X E) (hr : Room n A) (hfr : A.frames = X.A.frames)
    (I : Inv X pins σ H s) (r : Vals vs us) (h : sp vs H Q E) : wpAny (model X.prog X.w) A (call (.ref f) us) (fun u s' => ∃ v H', Inv X pins σ H' s' ∧ RelV v u ∧ Q v H') X.xe s := by
  have e0 : Env0 X.prog X.w X.K X.mg X.base A X.stack s H := by
    have e := I.env0
    exact ⟨by rw [hfr]; exact e.frames, e.mod, e.bs, e.bsz, e.funs, e.frf, e.hok, e.bare⟩
  have hl := F.len _ _ _ _ h
  refine wpAny_call (codeAny_mono (F.run A X.stack s H ⟨us, []⟩ us vs _ E hr e0 (by
    have := hb s us I.kIn (by have := r.length; rw [List.append_nil, ← this, hl])
    simpa using this) r h) fun r s' hq => ?_)
  cases r with
  | error e => exact hx pins σ H s e s' I hq
  | ok fl =>
    cases fl with
    | ret w =>
      obtain ⟨z, H', I', rz, q⟩ := I.after hq
      exact ⟨z, H', I', rz, q⟩
    | next => exact False.elim hq
    | brk => exact False.elim hq
    | cont => exact False.elim hq
theorem op_eqOwn (O : OwnE X.K C f) (F : FnOk X.prog X.w X.K X.mg X.base CX n f fd ps sp) (hr : Room n X.A) (hb : Binds X.K fd ps []) (hx : Passes CX X E) : OpR X (compareOp .Eq) (rOwn C sp (fun c => c) E) := by
  intro pins s σ H x y u v Q I rx ry h
  obtain ⟨a, b, dx, dy, fs, gs, rfl, rfl, ha, hb', hs⟩ := h
  cases rx
  cases ry
  obtain ⟨mA, J, _⟩ := ins_get I.hok ha
  obtain ⟨mB, J', _⟩ := ins_get I.hok hb'
  obtain ⟨od, J, _⟩ := J.look
  obtain ⟨od', J', _⟩ := J'.look
  obtain ⟨m, hF⟩ := I.fr
  show wpAny (model X.prog X.w) X.A (richCompare .Eq (.ref a) (.ref b)) (EP X pins σ Q) X.xe s
  refine PySem.W.cmp_K (op := .Eq) (tb := .ref C) hr.units0 hF I.ok.mod.kin J J'.type (by simp [PySem.W.notFirst]) O.eq O.fn ?_
  refine wpAny_mono (own_call (vs := [V.ref a, V.ref b]) F hb hx hr rfl I (.cons rfl (.cons rfl .nil)) hs) (fun u s' q => ?_) fun _ _ e => e
  obtain ⟨z, H', I', rz, c, rfl, q⟩ := q
  cases rz
  exact ⟨.bl c, H', I', rfl, q⟩
theorem op_neOwn (O : OwnE X.K C f) (F : FnOk X.prog X.w X.K X.mg X.base CX n f fd ps sp) (hr : Room (n + 1) X.A) (hb : Binds X.K fd ps []) (hx : Passes CX X E) : OpR X (compareOp .NotEq) (rOwn C sp (fun c => !c) E) := by
  intro pins s σ H x y u v Q I rx ry h
  obtain ⟨a, b, dx, dy, fs, gs, rfl, rfl, ha, hb', hs⟩ := h
  cases rx
  cases ry
  obtain ⟨mA, J, _⟩ := ins_get I.hok ha
  obtain ⟨mB, J', _⟩ := ins_get I.hok hb'
  obtain ⟨od, J, _⟩ := J.look
  obtain ⟨od', J', _⟩ := J'.look
  show wpAny (model X.prog X.w) X.A (richCompare .NotEq (.ref a) (.ref b)) (EP X pins σ Q) X.xe s
  refine EO.ne_K (tb := .ref C) (by have := hr.units; omega) I.kIn J J'.type (by simp [PySem.W.notFirst]) O.eq O.fn O.ne O.mo ?_
  refine wpAny_mono (own_call (vs := [V.ref a, V.ref b]) F hb hx hr.in1 rfl I (.cons rfl (.cons rfl .nil)) hs) (fun u s' q => ?_) fun _ _ e => e
  obtain ⟨z, H', I', rz, c, rfl, q⟩ := q
  cases rz
  exact ⟨c, rfl, ⟨.bl (!c), H', I', rfl, q⟩⟩
/-! a def that begins with «if TEST: return NotImplemented», called where TEST holds -/
structure FnNI (P : Program) (w : World) (K : PySem.W.Frag) (mg : Str → Option Value) (base : Heap) (k : Nat) (f : Addr) (fd : FuncData) (ps : List Str) (pre : List V → Hp → Prop) : Prop where
  len : ∀ vs H, pre vs H → vs.length = ps.length
  run : ∀ (A : Around) (outer : List Env) (s : Shared) (H : Hp) (args : Args) (us : List Value) (vs : List V), Room k A → Env0 P w K mg base A outer s H → BindsTo s fd args (ps.zip us) → Vals vs us → pre vs H →
    codeAny (model P w) A (.call (.ref f) args) (fun r s' => r = .ok (.ret .notImplemented) ∧ CE outer P w H s (fun v H' => v = .non ∧ Same H H') .none s') s
theorem fn_NI {P : Program} {w : World} {K : PySem.W.Frag} {mg : Str → Option Value} {base : Heap} {k : Nat} {f : Addr} {name qual : Str} {params : Arguments} {body rest : List Stmt} {tst : Expr} {p1 p2 p3 : Pos} {scope : Scope} {dV kV doc pm cdv ct oc : Value} {an od : Option Addr}
    {osl : Array (Option Value)} {N ps : List Str} {pre : List V → Hp → Prop} (lk : K.lookup f = some ⟨oc, od, .func (PySem.W.fnOf name qual params body scope dV kV doc pm an cdv ct), osl⟩) (hcd : PySem.W.codeIn K cdv qual = true) (S : FnScope N ps scope)
    (len : ∀ vs H, pre vs H → vs.length = ps.length) (hbd : body = .If tst [.Return (some (.Name "NotImplemented" p1)) p2] [] p3 :: rest)
    (hg : scope.names.lookup ("NotImplemented" : Str) = some .globalImplicit) (hm : mg "NotImplemented" = none) (hv : bootBuiltins "NotImplemented" = some .notImplemented)
    (htest : ∀ (A : Around) (outer : List Env) (s : Shared) (H : Hp) (vs : List V), Room k (A.deeper (envOfC qual scope s.heap.objs.size f cdv)) → pre vs H →
      ∃ t, PT (cxOf CX0 P w K mg base N qual scope f cdv A outer s H E0).nox tst t ∧ t (start N vs) H (fun b H1 => b = true ∧ Same H H1)) :
    FnNI P w K mg base (k + 1) f (PySem.W.fnOf name qual params body scope dV kV doc pm an cdv ct) ps pre := by
  refine ⟨len, fun A outer s H args us vs hr e0 hb r hsp => ?_⟩
  have hl := len _ _ hsp
  have KX : K.In s.heap := e0.mod.kin.keeps fun b o e => (e0.bs b o e).1
  have lim : s.heap.NoLimit := e0.mod.nolimit.keeps fun b o e => (e0.bs b o e).1
  have hkind : ∀ y ∈ ps.zip us, scope.names.lookup y.1 = some .local ∨ (scope.names.lookup y.1 = some .cell ∧ ((cellsFrom (s.heap.objs.size + 1) scope.names []).lookup y.1).isSome = true) := fun ⟨n, v⟩ hy => by
    rcases S.par n (List.of_mem_zip hy).1 with q | q
    · exact .inl q
    · exact .inr ⟨q, PySem.W.cellsFrom_some _ _ _ (.inl q)⟩
  refine codeAny_call_function hr.depth (KX _ _ lk) rfl S.co S.gen rfl (PySem.W.codeRec_of KX hcd) (hb _ _ _ _ ?_)
  refine wpAny_newFunctionEnv_cells S.kind hkind fun env he s1 x => ?_
  subst he
  refine ⟨lim.keeps x.toInCall.keep, codeAny_func ?_⟩
  obtain ⟨t, ht, hq⟩ := htest A outer s H vs (hr.deeper _) hsp
  have I : Inv (cxOf CX0 P w K mg base N qual scope f cdv A outer s H E0) [] (start N vs) H s1 := inv_start S hr.hd e0 hl r x
  subst hbd
  have run : wpAny (model P w) (cxOf CX0 P w K mg base N qual scope f cdv A outer s H E0).A (execs (.If tst [.Return (some (.Name "NotImplemented" p1)) p2] [] p3 :: rest) (cxOf CX0 P w K mg base N qual scope f cdv A outer s H E0).env)
      (fun fl s' => fl = .ret .notImplemented ∧ CE outer P w H s (fun v H' => v = .non ∧ Same H H') .none s') (fun _ _ => False) s1 := by
    refine wpAny_execs_cons (wpAny_mono (wpAny_If (wpAny_mono (ht.run [] s1 (start N vs) H (fun b H1 => b = true ∧ Same H H1) (I.wish _) hq) (fun d s2 q2 => ?_) fun _ _ z => z))
      (fun fl s' (z : fl = .ret .notImplemented ∧ CE outer P w H s (fun v H' => v = .non ∧ Same H H') .none s') => ?_) fun _ _ z => z)
    · obtain ⟨H2, I2, rfl, sm⟩ := q2
      refine wpAny_execs_cons (wpAny_mono (wpAny_Return_some (Q := fun fl s' => fl = .ret .notImplemented ∧ CE outer P w H s (fun v H' => v = .non ∧ Same H H') .none s') (ld_blt I2.unwish hg hm hv ?_)) (fun fl s' z => ?_) fun _ _ z => z)
      · exact ⟨rfl, ⟨.non, H2, I2.os, I2.bare, I2.base, I2.hok, rfl, rfl, sm⟩⟩
      · obtain ⟨rfl, z⟩ := z
        exact ⟨rfl, z⟩
    · obtain ⟨rfl, z⟩ := z
      exact ⟨rfl, z⟩
  exact wpAny_mono run (fun fl s' z => by obtain ⟨rfl, z⟩ := z; exact ⟨rfl, z⟩) fun _ _ z => z.elim
end
end L2
namespace EO
open PySem PySem.W PySem.Spec PyProof.Rows L2
open SeqAt
open AutoSeq1 (wpAny_loadPart')
section
variable {prog : Program} {w : World} {A : Around} {E : Value → Shared → Prop} {s : Shared} {K : Frag} {x C : Addr} {ox : Obj} {od : Option Obj}
theorem int_declines_ins (b : Int) (u : Tok) (l dx : Addr) : Meets (Builtin.«int.__eq__» ⟨[.int b u, .ref l], []⟩) (fun _ R s => s.heap.get? l = some (instObj C dx) ∧ R (.ok (.ret .notImplemented)) s) :=
  .of_wp fun prog w A R s h => by
    obtain ⟨hp, g, d, tk, os⟩ := s; obtain ⟨hl, h⟩ := h
    wp_walk using wpAny_loadPart' hl, wpAny_load hl
    exact ⟨_, rfl, h⟩
theorem list_declines_ins {l : Addr} {items : Array Value} {R : Result → Shared → Prop} (hl : s.heap.IsList l items) (X : K.In s.heap) (I : InstAt s.heap x ox C od) (hm : mroIn K C (.type "list") = some false) (h : R (.ok (.ret .notImplemented)) s) :
    wpAny (model prog w) A.in1 (Builtin.«list.__eq__» ⟨[.ref l, .ref x], []⟩) (fun fin s' => match fin with | .done f => R (.ok f) s' | .again c' => c'.quiet = true ∧ codeAny (model prog w) A c' R s') (fun e s' => R (.error e) s') s := by
  have hx := I.at_
  have hcl := I.cls
  obtain ⟨⟨cls, dd, data, sl⟩, ho, hc, n, hd⟩ := id hl
  simp only at hc hd
  subst hc hd
  obtain ⟨cls2, dd2, data2, sl2⟩ := ox
  simp only at hcl
  subst hcl
  obtain ⟨hp, g, d, tk, os⟩ := s
  wp_walk using wpAny_loadPart' ho, wpAny_loadPart' hx
  refine (looks_mroIn X hm).here ?_
  simp only [Bool.not_false, if_true]
  wp_walk
  exact h
theorem nf {K : Frag} {C : Addr} {T : String} {l : List Value} (h : fastBuiltinMro T = some l) (hc : l.contains (.ref C) = false) : notFirst K C (.type T) = true := by
  unfold notFirst subIn
  simp only [h, Option.map_some, hc]
  simp
theorem mro_None : fastBuiltinMro "NoneType" = some [.type "NoneType", .type "object"] := by decide +kernel
theorem mro_int : fastBuiltinMro "int" = some [.type "int", .type "object"] := by decide +kernel
theorem mro_list : fastBuiltinMro "list" = some [.type "list", .type "object"] := by decide +kernel
end
end EO
namespace L2
open PySem PySem.Spec PyProof.Rows
/-- an instance compared with None, an int, a list: its own == says NotImplemented, the other's too; so False -/
def rNI (C : Addr) (pre : List V → Hp → Prop) : R2 := fun x y H Q => ∃ a dx fs, x = .ref a ∧ H a = some (.ins C dx fs) ∧ pre [x, y] H ∧ (y = .non ∨ (∃ i, y = .int i) ∨ ∃ l xs, y = .ref l ∧ H l = some (.lst xs)) ∧ ∀ H', Same H H' → Q (.bl false) H'
theorem op_eqNI {X : Cx} {n : Nat} {C f : Addr} {fd : FuncData} {ps : List Str} {pre : List V → Hp → Prop} (O : OwnE X.K C f) (ml : PySem.W.mroIn X.K C (.type "list") = some false)
    (G : FnNI X.prog X.w X.K X.mg X.base n f fd ps pre) (hr : Room n X.A) (hb : Binds X.K fd ps []) : OpR X (compareOp .Eq) (rNI C pre) := by
  intro pins s σ H x y u v Q I rx ry h
  obtain ⟨a, dx, fs, rfl, ha, hp, hy, hQ⟩ := h
  cases rx
  obtain ⟨mA, J, _⟩ := ins_get I.hok ha
  obtain ⟨od, J, _⟩ := J.look
  show wpAny (model X.prog X.w) X.A (richCompare .Eq (.ref a) v) (EP X pins σ Q) X.xe s
  have hl := G.len _ _ hp
  have call : ∀ (T : String), PySem.W.Looks (model X.prog X.w) s.heap (typeOf v) (.type T) → PySem.W.notFirst X.K C (.type T) = true →
      (∀ s' H', Inv X pins σ H' s' → Same H H' → wpAny (model X.prog X.w) X.A (tryCompare v "__eq__" (.ref a)) (fun r s2 => r = none ∧ wpAny (model X.prog X.w) X.A (isSame (.ref a) v) (fun k s3 => k = false ∧ Inv X pins σ H' s3) X.xe s2) X.xe s') →
      wpAny (model X.prog X.w) X.A (richCompare .Eq (.ref a) v) (EP X pins σ Q) X.xe s := fun T lk nf tr => by
    refine EO.cmp_dec_K (tb := .type T) hr.units0 I.kIn J lk nf O.eq O.fn ?_
    refine wpAny_call (codeAny_mono (G.run X.A X.stack s H ⟨[.ref a, v], []⟩ [.ref a, v] [.ref a, y] hr I.env0 (by
      have := hb s [.ref a, v] I.kIn (by rw [List.append_nil, ← hl]; rfl)
      simpa using this) (.cons rfl (.cons ry .nil)) hp) fun r s' hq => ?_)
    obtain ⟨rfl, hq⟩ := hq
    obtain ⟨z, H', I', rz, ez, sm⟩ := I.after hq
    refine ⟨rfl, wpAny_mono (tr s' H' I' sm) (fun r s2 q => ⟨q.1, wpAny_mono q.2 (fun k s3 q => ?_) fun _ _ e => e⟩) fun _ _ e => e⟩
    obtain ⟨rfl, I3⟩ := q
    exact ⟨.bl false, H', I3, rfl, hQ H' sm⟩
  have at' : ∀ s' H', Inv X pins σ H' s' → Same H H' → ∃ od, PySem.W.InstAt s'.heap a (PySem.W.instObj C dx) C (some od) := fun s' H' I' sm => by
    obtain ⟨mA, J, _⟩ := ins_get I'.hok (sm _ _ ha)
    obtain ⟨od, J, _⟩ := J.look
    exact ⟨od, J⟩
  rcases hy with rfl | ⟨i, rfl⟩ | ⟨l, xs, rfl, hl'⟩
  · cases ry
    refine call "NoneType" (PySem.W.Looks.of_pure rfl) (EO.nf EO.mro_None (by simp)) fun s' H' I' sm => ?_
    exact wpAny_tryCompare_declines rfl F.slot_NoneType_eq (call_gives F.slot_NoneType_eq rfl F.entry_NoneType_eq (F.args_NoneType_eq_2 _ _) (SeqAt.NoneType___eq___none_ref_0 a)
      ⟨rfl, rfl, wpAny_of_eq (rfl : isSame (.ref a) .none = pure false) ⟨rfl, I'⟩⟩)
  · obtain ⟨t, rfl⟩ := ry
    refine call "int" (PySem.W.Looks.of_pure rfl) (EO.nf EO.mro_int (by simp)) fun s' H' I' sm => ?_
    obtain ⟨od', J'⟩ := at' s' H' I' sm
    exact wpAny_tryCompare_declines (typeIs_int s' i t) F.slot_int_eq (call_meets F.slot_int_eq (typeIs_int s' i t) F.entry_int_eq (F.args_int_eq_2 _ _) (EO.int_declines_ins (C := C) i t a dx)
      ⟨J'.at_, rfl, rfl, wpAny_of_eq (rfl : isSame (.ref a) (.int i t) = pure false) ⟨rfl, I'⟩⟩)
  · cases ry
    obtain ⟨_, its, k, r, e⟩ := I.hok l _ hl'
    refine call "list" ((PySem.W.Looks.ld (part := none) e).andThen .now) (EO.nf EO.mro_list (by simp)) fun s' H' I' sm => ?_
    obtain ⟨od', J'⟩ := at' s' H' I' sm
    obtain ⟨_, its', k', r', e'⟩ := I'.hok l _ (sm _ _ hl')
    have nal : a ≠ l := ne_of ha hl' (by intro z; cases z)
    refine wpAny_tryCompare_declines ⟨_, e', rfl⟩ F.slot_list_eq (GQ.call_here F.slot_list_eq ⟨_, e', rfl⟩ F.entry_list_eq (F.args_list_eq_2 _ _) ?_)
    exact EO.list_declines_ins (R := wants _ _) ⟨_, e', rfl, _, rfl⟩ I'.kIn J' ml ⟨rfl, rfl, SeqAt.wpAny_isSame_ref_other' nal J'.at_ e' (by show Value.type "list" ≠ Value.type "tuple"; decide) ⟨rfl, I'⟩⟩
end L2
set_option Elab.async false
set_option linter.all false
set_option maxRecDepth 100000
namespace K1
open PySem L2
/-- a def of the text, by its name -/
structure Df (K : PySem.W.Frag) (mg : Str → Option Value) (x : Str) (st : Stmt) (ps : List Str) (f : Addr) (fd : FuncData) : Prop where
  F : Fun K x x st f fd
  g : mg x = some (.ref f)
  b : Binds K fd ps []
theorem Kept.seq {K : PySem.W.Frag} {d : Addr} {H H' : Hp} {a : Addr} {xs : List V} (e : Kept d H H') (n : a ≠ d) (h : SqL K H a xs) : SqL K H' a xs := by
  rcases h with (h | ⟨o, h⟩) | h
  · exact .inl (.inl (e _ _ h n))
  · exact .inl (.inr ⟨o, e _ _ h n⟩)
  · exact .inr h
theorem Kept.seqT {K : PySem.W.Frag} {d : Addr} {H H' : Hp} {a : Addr} {xs : List V} (e : Kept d H H') (n : a ≠ d) (h : SqT K H a xs) : SqT K H' a xs := by
  rcases h with (h | ⟨o, h⟩) | h
  · exact .inl (.inl (e _ _ h n))
  · exact .inl (.inr ⟨o, e _ _ h n⟩)
  · exact .inr h
def spPickL (K : PySem.W.Frag) : Sp := fun vs H Q _ => ∃ (d c p : Addr) (n : Nat) (xs : List V), vs = [.ref d, .ref p] ∧ PenAt H d c n ∧ n ≤ 1000000 ∧ p ≠ d ∧ SqL K H p xs ∧ 0 < xs.length ∧ xs.length < 1073741824 ∧
  ∀ (x : V) (H' : Hp), x ∈ xs → PenAt H' d c (n + 1) → Kept d H H' → Q x H'
def spPickS : Sp := fun vs H Q _ => ∃ (d q : Addr) (n : Nat) (z : Str), vs = [.ref d, .str z] ∧ PenAt H d q n ∧ n ≤ 1000000 ∧ 0 < z.length ∧ z.length < 10000 ∧
  ∀ (c : Nat) (H' : Hp), c ∈ z.cps.toList → PenAt H' d q (n + 1) → Kept d H H' → Q (.str ⟨#[c]⟩) H'
section
variable {P : Program} {w : World} {K : PySem.W.Frag} {mg : Str → Option Value} {base : Heap}
theorem scPick : FnScope ["_law_pen_here", "_law_some"] ["_law_pen_here", "_law_some"] (defScope sPick) := ⟨rfl, rfl, rfl, by decide +kernel, rfl, by decide +kernel, by decide +kernel⟩
abbrev pDraw : List Str := ["_law_pen_here", "_law_many"]
abbrev pPick : List Str := ["_law_pen_here", "_law_some"]
theorem ok_pickL {f fD : Addr} {fd fdD : FuncData} (D : Df K mg "_law_pick" sPick pPick f fd) (DD : Df K mg "_law_draw" sDraw pDraw fD fdD) (T : Bt mg) : FnOk P w K mg base CX0 2 f fd pPick (spPickL K) := by
  have GD : FnOk P w K mg base CX0 1 fD fdD pDraw spDraw := ok_draw DD.F T
  refine D.F.ok scPick (fun vs H Q E h => ?_) (fun cdv A outer s H vs Q E hr h => ?_)
  · obtain ⟨d, c, p, n, xs, rfl, _⟩ := h
    rfl
  · obtain ⟨d, c, p, n, xs, rfl, hp, hn, npd, hx, h0, h1, k⟩ := h
    refine ⟨_, pss_one (ps_ret (pe_ix ix_list (pv 1) (pe_call GD hr rfl DD.g DD.F.kp DD.b .nil pass0 (pa_cons (pv 0) (pa_cons (pe_callB call_len (by rfl) T.len PySem.boot_len (pa_cons (pv 1) pa_nil)) pa_nil))) (fun _ _ => rfl))), ?_⟩
    refine ⟨_, rfl, _, rfl, _, rfl, _, xs.length, rfl, .inl ⟨_, hx, rfl⟩, d, c, n, xs.length, rfl, hp, hn, by omega, by omega, fun r H' r0 r1 hp' kp => ?_⟩
    obtain ⟨j, rfl⟩ : ∃ j : Nat, r = (j : Int) := ⟨r.toNat, by omega⟩
    have hj : j < xs.length := by omega
    exact ⟨p, xs, _, xs[j], rfl, rfl, kp.seq npd hx, atI_nat (by simp [hj]), k _ _ (List.getElem_mem _) hp' kp⟩
theorem ok_pickS {f fD : Addr} {fd fdD : FuncData} (D : Df K mg "_law_pick" sPick pPick f fd) (DD : Df K mg "_law_draw" sDraw pDraw fD fdD) (T : Bt mg) : FnOk P w K mg base CX0 2 f fd pPick spPickS := by
  have GD : FnOk P w K mg base CX0 1 fD fdD pDraw spDraw := ok_draw DD.F T
  refine D.F.ok scPick (fun vs H Q E h => ?_) (fun cdv A outer s H vs Q E hr h => ?_)
  · obtain ⟨d, q, n, z, rfl, _⟩ := h
    rfl
  · obtain ⟨d, q, n, z, rfl, hp, hn, h0, h1, k⟩ := h
    have hz : z.length ≤ sizeLine := Nat.le_trans (Nat.le_of_lt h1) (by decide)
    refine ⟨_, pss_one (ps_ret (pe_ix ix_str (pv 1) (pe_call GD hr rfl DD.g DD.F.kp DD.b .nil pass0 (pa_cons (pv 0) (pa_cons (pe_callB call_len (by rfl) T.len PySem.boot_len (pa_cons (pv 1) pa_nil)) pa_nil))) (fun _ _ => rfl))), ?_⟩
    refine ⟨_, rfl, _, rfl, _, rfl, _, z.length, rfl, ⟨hz, rfl⟩, d, q, n, z.length, rfl, hp, hn, by omega, by omega, fun r H' r0 r1 hp' kp => ?_⟩
    obtain ⟨j, rfl⟩ : ∃ j : Nat, r = (j : Int) := ⟨r.toNat, by omega⟩
    have hj : j < z.cps.toList.length := by
      have : z.length = z.cps.toList.length := by simp [Str.length]
      omega
    exact ⟨z, _, z.cps.toList[j], rfl, rfl, hz, atI_nat (by simp [hj]), k _ _ (List.getElem_mem _) hp' kp⟩
end
end K1
set_option Elab.async false
set_option linter.all false
set_option maxRecDepth 100000
namespace K1
open PySem L2
/-! the words -/
abbrev zLE : Str := "abcdefghijklmnopqrstuvwxyz"
abbrev zDG : Str := "0123456789"
def LE : List Nat := zLE.cps.toList
def AL : List Nat := LE ++ zDG.cps.toList
theorem LE_eq : LE = (List.range 26).map (· + 97) := by decide +kernel
def one (c : Nat) : Str := ⟨#[c]⟩
theorem joinL_nil : ∀ l : List (List Nat), TL.joinL [] l = l.flatten
  | [] => rfl
  | [p] => by simp [TL.joinL]
  | p :: q :: r => by rw [TL.joinL, joinL_nil (q :: r)]; simp
theorem join_ones (cs : List Nat) : (Txt.join ("" : Str) (cs.map one)).cps.toList = cs := by
  have e1 : ((cs.map one).map TL.tl).flatten = cs := by
    induction cs with
    | nil => rfl
    | cons c r ih => simp [one, TL.tl] at ih ⊢; exact ih
  have e := TL.tl_join ("" : Str) (cs.map one)
  rw [TL.join_eq]
  have e0 : TL.tl ("" : Str) = [] := by decide +kernel
  rw [e0, joinL_nil, e1] at e
  exact e
theorem sum_ones : ∀ cs : List Nat, ((cs.map one).map (·.length)).sum = cs.length
  | [] => rfl
  | c :: r => by
    have := sum_ones r
    simp only [List.map_cons, List.sum_cons, List.length_cons, this]
    show 1 + r.length = _
    omega
/-- a word as the pen makes it -/
def Wd (z : Str) : Prop := ∃ c r, z.cps.toList = c :: r ∧ c ∈ LE ∧ (∀ x ∈ r, x ∈ AL) ∧ r.length ≤ 6
theorem AL_eq : AL = (zLE ++ zDG).cps.toList := by decide +kernel
def wordAt (zF zB : Str) (a b k : Nat) : Str := zF ++ one (LE.getD ((a + b * k) % 26) 0) ++ zB
theorem tl_wordAt (zF zB : Str) (a b k : Nat) : (wordAt zF zB a b k).cps.toList = zF.cps.toList ++ (LE.getD ((a + b * k) % 26) 0 :: zB.cps.toList) := by
  unfold wordAt
  have e1 := TL.tl_append (zF ++ one (LE.getD ((a + b * k) % 26) 0)) zB
  have e2 := TL.tl_append zF (one (LE.getD ((a + b * k) % 26) 0))
  unfold TL.tl at e1 e2
  rw [e1, e2]
  simp [one]
theorem LE_len : LE.length = 26 := by decide +kernel
theorem LE_getD {i : Nat} (h : i < 26) : LE.getD i 0 = i + 97 := by
  rw [LE_eq]
  simp [h]
theorem LE_mem {i : Nat} (h : i < 26) : LE.getD i 0 ∈ LE := by
  have : i < LE.length := by rw [LE_len]; exact h
  rw [List.getD_eq_getElem?_getD, List.getElem?_eq_getElem this]
  exact List.getElem_mem _
theorem LE_AL {c : Nat} (h : c ∈ LE) : c ∈ AL := List.mem_append_left _ h
theorem wordAt_wd {zF zB : Str} {a b k : Nat} (hF : ∀ c ∈ zF.cps.toList, c ∈ LE) (lF : zF.cps.toList.length ≤ 3) (hB : ∀ c ∈ zB.cps.toList, c ∈ AL) (lB : zB.cps.toList.length ≤ 3) : Wd (wordAt zF zB a b k) := by
  unfold Wd
  rw [tl_wordAt]
  have hm := LE_mem (i := (a + b * k) % 26) (Nat.mod_lt _ (by decide))
  generalize LE.getD ((a + b * k) % 26) 0 = c at hm
  generalize zF.cps.toList = F at hF lF
  generalize zB.cps.toList = B at hB lB
  cases F with
  | nil => exact ⟨c, B, rfl, hm, hB, by omega⟩
  | cons x r =>
    simp only [List.length_cons] at lF
    refine ⟨x, r ++ c :: B, rfl, hF x (List.mem_cons_self ..), fun y hy => ?_, by simp; omega⟩
    rcases List.mem_append.mp hy with h | h
    · exact LE_AL (hF y (List.mem_cons_of_mem _ h))
    · rcases List.mem_cons.mp h with rfl | h
      · exact LE_AL hm
      · exact hB y h
theorem step_inj {a b i j : Nat} (hb : b = 1 ∨ b = 3 ∨ b = 5 ∨ b = 7 ∨ b = 9 ∨ b = 11) (hi : i < 26) (hj : j < 26) (h : (a + b * i) % 26 = (a + b * j) % 26) : i = j := by
  rcases hb with rfl | rfl | rfl | rfl | rfl | rfl <;> omega
theorem wordAt_inj {zF zB : Str} {a b i j : Nat} (hb : b = 1 ∨ b = 3 ∨ b = 5 ∨ b = 7 ∨ b = 9 ∨ b = 11) (hi : i < 26) (hj : j < 26) (h : wordAt zF zB a b i = wordAt zF zB a b j) : i = j := by
  have e := congrArg (fun z : Str => z.cps.toList) h
  simp only [tl_wordAt] at e
  have e2 := List.append_cancel_left e
  injection e2 with e3 _
  rw [LE_getD (Nat.mod_lt _ (by decide)), LE_getD (Nat.mod_lt _ (by decide))] at e3
  exact step_inj (a := a) hb hi hj (by omega)
theorem words_nodup {zF zB : Str} {a b : Nat} (hb : b = 1 ∨ b = 3 ∨ b = 5 ∨ b = 7 ∨ b = 9 ∨ b = 11) : ∀ m, m ≤ 26 → ((List.range m).map (wordAt zF zB a b)).Nodup := fun m hm => by
  rw [List.nodup_iff_pairwise_ne, List.pairwise_map]
  refine List.Pairwise.imp_of_mem ?_ (List.nodup_iff_pairwise_ne.mp List.nodup_range)
  intro i j hi hj hne h
  exact hne (wordAt_inj hb (Nat.lt_of_lt_of_le (List.mem_range.mp hi) hm) (Nat.lt_of_lt_of_le (List.mem_range.mp hj) hm) h)
theorem one_len (c : Nat) : (one c).length = 1 := rfl
theorem len_tl (z : Str) : z.length = z.cps.toList.length := by simp [Str.length]
/-- words: many new words, no two equal -/
def spWords (K : PySem.W.Frag) : Sp := fun vs H Q _ => ∃ (d c : Addr) (n m : Nat), vs = [.ref d, .int (m : Int)] ∧ PenAt H d c n ∧ n ≤ 900000 ∧ m ≤ 26 ∧
  ∀ (p : Addr) (ws : List Str) (H' : Hp), H p = none → H' p = some (.lst (ws.map V.str)) → ws.length = m → ws.Nodup → (∀ z ∈ ws, Wd z) → (∃ k, ∀ z ∈ ws, z.cps.toList.length = k) → PenAt H' d c (n + 20) → Kept d H H' → Q (.ref p) H'
section
variable {P : Program} {w : World} {K : PySem.W.Frag} {mg : Str → Option Value} {base : Heap}
abbrev nWords : List Str := ["_law_pen_here", "_law_many", "_law_letters", "_law_front", "_law_back", "_law_first", "_law_step", "_law_k"]
theorem scWords : FnScope nWords ["_law_pen_here", "_law_many"] (defScope sWords) := ⟨rfl, rfl, rfl, by decide +kernel, rfl, by decide +kernel, by decide +kernel⟩
theorem ok_words {f fD fP : Addr} {fd fdD fdP : FuncData} (D : Df K mg "_law_words" sWords pDraw f fd) (DD : Df K mg "_law_draw" sDraw pDraw fD fdD) (DP : Df K mg "_law_pick" sPick pPick fP fdP) (T : Bt mg) : FnOk P w K mg base CX0 3 f fd pDraw (spWords K) := by
  have GD : FnOk P w K mg base CX0 1 fD fdD pDraw spDraw := ok_draw DD.F T
  have GS : FnOk P w K mg base CX0 2 fP fdP pPick spPickS := ok_pickS DP DD T
  refine D.F.ok scWords (fun vs H Q E h => ?_) (fun cdv A outer s H vs Q E hr h => ?_)
  · obtain ⟨d, c, n, m, rfl, _⟩ := h
    rfl
  · obtain ⟨d, q, n, m, rfl, hp, hn, hm, k⟩ := h
    have hr1 : Room 1 _ := hr.mono (by decide)
    refine ⟨_, pss_cons (ps_set (i := 2) scWords.nd rfl (Or.inr rfl) pe_str)
      (pss_cons (ps_set (i := 3) scWords.nd rfl (Or.inr rfl) (pe_join pe_str (pe_lc (own := [("_law_k", 7)]) (g := gName 7) (by rfl) scWords.nd
        (pi_range1 rfl T.range (pa_cons (pe_call GD hr1 rfl DD.g DD.F.kp DD.b .nil pass0 (pa_cons (pv 0) (pa_cons pe_int pa_nil))) pa_nil))
        (blkOk_by (own := [("_law_k", 7)]) (N := nWords) (sc := defScope sWords) (by decide +kernel)) (fun _ _ _ _ _ => pg_name (i := 7) scWords.nd rfl (Or.inl rfl)) (fun _ _ _ _ _ => pts_nil)
        (fun _ _ _ _ _ => pe_call GS hr rfl DP.g DP.F.kp DP.b .nil pass0 (pa_cons (pv 0) (pa_cons (pv 2) pa_nil))))))
      (pss_cons (ps_set (i := 4) scWords.nd rfl (Or.inr rfl) (pe_join pe_str (pe_lc (own := [("_law_k", 7)]) (g := gName 7) (by rfl) scWords.nd
        (pi_range1 rfl T.range (pa_cons (pe_call GD hr1 rfl DD.g DD.F.kp DD.b .nil pass0 (pa_cons (pv 0) (pa_cons pe_int pa_nil))) pa_nil))
        (blkOk_by (own := [("_law_k", 7)]) (N := nWords) (sc := defScope sWords) (by decide +kernel)) (fun _ _ _ _ _ => pg_name (i := 7) scWords.nd rfl (Or.inl rfl)) (fun _ _ _ _ _ => pts_nil)
        (fun _ _ _ _ _ => pe_call GS hr rfl DP.g DP.F.kp DP.b .nil pass0 (pa_cons (pv 0) (pa_cons (pe_op op_add_str (pv 2) pe_str) pa_nil))))))
      (pss_cons (ps_asg (pe_tup (pa_cons (pe_call GD hr1 rfl DD.g DD.F.kp DD.b .nil pass0 (pa_cons (pv 0) (pa_cons pe_int pa_nil)))
          (pa_cons (pe_ix ix_list (pe_lst (pa_cons pe_int (pa_cons pe_int (pa_cons pe_int (pa_cons pe_int (pa_cons pe_int (pa_cons pe_int pa_nil))))))) (pe_call GD hr1 rfl DD.g DD.F.kp DD.b .nil pass0 (pa_cons (pv 0) (pa_cons pe_int pa_nil))) (fun _ _ => rfl)) pa_nil)))
          (pg_tup (by rfl) (pgs_cons (pg_name (i := 5) scWords.nd rfl (Or.inr rfl)) (pgs_cons (pg_name (i := 6) scWords.nd rfl (Or.inr rfl)) pgs_nil))))
      (pss_one (ps_ret (pe_lc (own := [("_law_k", 7)]) (g := gName 7) (by rfl) scWords.nd
        (pi_range1 rfl T.range (pa_cons (pv 1) pa_nil))
        (blkOk_by (own := [("_law_k", 7)]) (N := nWords) (sc := defScope sWords) (by decide +kernel)) (fun _ _ _ _ _ => pg_name (i := 7) scWords.nd rfl (Or.inl rfl)) (fun _ _ _ _ _ => pts_nil)
        (fun _ _ _ _ _ => pe_op op_add_str (pe_op op_add_str (pv 3) (pe_ix ix_str (pv 2) (pe_op op_modN (pe_callTy call_int1 (by rfl) T.int (by decide +kernel) (pa_cons (pe_op op_add (pv 5) (pe_op op_mul (pv 6) (pv 7))) pa_nil)) pe_int) (fun _ _ => rfl))) (pv 4)))))))), ?_⟩
    -- front
    refine ⟨⟨_, rfl⟩, _, rfl, d, q, n, 4, rfl, hp, by omega, by decide, by decide, fun r H1 r0 r1 hp1 kp1 => ⟨r, rfl, by omega, by omega, fun D1 hD1 => ?_⟩⟩
    obtain ⟨j, rfl⟩ : ∃ j : Nat, r = (j : Int) := ⟨r.toNat, by omega⟩
    rw [Int.toNat_natCast]
    have zD1 : H D1 = none := kp1.free hp1 hD1
    obtain ⟨nDd, nDq⟩ := hp.ne zD1
    refine lc_range (lo := 0) (n := j) (fun i H' => ∃ cs : List Nat, cs.length = i ∧ (∀ c ∈ cs, c ∈ LE) ∧ H' D1 = some (.lst ((cs.map one).map V.str)) ∧ PenAt H' d q (n + 1 + i) ∧ Kept d H H') ?_ ?_ ?_
    · exact ⟨[], rfl, by simp, upd_same, hp1.upd nDd nDq, kp1.upd zD1⟩
    · rintro i H2 hi ⟨cs, hcs, hc, hD, hp2, kp2⟩
      refine ⟨rfl, _, rfl, _, rfl, d, q, _, zLE, rfl, hp2, by omega, by decide +kernel, by decide +kernel, fun c H3 hcm hp3 kp3 => ?_⟩
      have hD3 := kp3 _ _ hD nDd
      refine ⟨_, hD3, ?_, cs ++ [c], by simp [hcs], ?_, ?_, ?_, ?_⟩
      · simp; exact small1000 (by omega)
      · intro x hx
        rcases List.mem_append.mp hx with h | h
        · exact hc x h
        · rw [List.mem_singleton.mp h]; exact hcm
      · rw [upd_same]; simp [one]
      · exact (hp3.upd nDd nDq).mono (by omega)
      · exact (kp2.trans kp3).upd zD1
    · rintro H2 ⟨F, hF, hFm, hD, hp2, kp2⟩
      clear hp1 kp1 hD1
      refine ⟨_, D1, F.map one, rfl, rfl, .inl (SqL.of hD), ?_, ?_⟩
      · rw [sum_ones, List.length_map]
        show F.length + F.length * 0 ≤ 16777216
        omega
      have eF := join_ones F
      generalize Txt.join ("" : Str) (F.map one) = zF at eF ⊢
      -- back
      refine ⟨⟨_, rfl⟩, _, rfl, d, q, _, 4, rfl, hp2, by omega, by decide, by decide, fun r H3 s0 s1 hp3 kp3 => ⟨r, rfl, by omega, by omega, fun D2 hD2 => ?_⟩⟩
      obtain ⟨j', rfl⟩ : ∃ j' : Nat, r = (j' : Int) := ⟨r.toNat, by omega⟩
      rw [Int.toNat_natCast]
      have zD2 : H D2 = none := (kp2.trans kp3).free hp3 hD2
      obtain ⟨mDd, mDq⟩ := hp.ne zD2
      refine lc_range (lo := 0) (n := j') (fun i H' => ∃ cs : List Nat, cs.length = i ∧ (∀ c ∈ cs, c ∈ AL) ∧ H' D2 = some (.lst ((cs.map one).map V.str)) ∧ PenAt H' d q (n + 5 + i) ∧ Kept d H H') ?_ ?_ ?_
      · exact ⟨[], rfl, by simp, upd_same, (hp3.upd mDd mDq).mono (by omega), (kp2.trans kp3).upd zD2⟩
      · rintro i H4 hi ⟨cs, hcs, hc, hD', hp4, kp4⟩
        refine ⟨rfl, _, rfl, _, rfl, _, _, rfl, rfl, by decide +kernel, d, q, _, zLE ++ zDG, rfl, hp4, by omega, by decide +kernel, by decide +kernel, fun c H5 hcm hp5 kp5 => ?_⟩
        have hD5 := kp5 _ _ hD' mDd
        refine ⟨_, hD5, ?_, cs ++ [c], by simp [hcs], ?_, ?_, ?_, ?_⟩
        · simp; exact small1000 (by omega)
        · intro x hx
          rcases List.mem_append.mp hx with h | h
          · exact hc x h
          · rw [List.mem_singleton.mp h, AL_eq]; exact hcm
        · rw [upd_same]; simp [one]
        · exact (hp5.upd mDd mDq).mono (by omega)
        · exact (kp4.trans kp5).upd zD2
      · rintro H4 ⟨B, hB, hBm, hD', hp4, kp4⟩
        clear hp3 kp3 hD2
        refine ⟨_, D2, B.map one, rfl, rfl, .inl (SqL.of hD'), ?_, ?_⟩
        · rw [sum_ones, List.length_map]
          show B.length + B.length * 0 ≤ 16777216
          omega
        have eB := join_ones B
        generalize Txt.join ("" : Str) (B.map one) = zB at eB ⊢
        -- first, step
        refine ⟨_, rfl, d, q, _, 26, rfl, hp4, by omega, by decide, by decide, fun a H5 a0 a1 hp5 kp5 => ?_⟩
        refine ⟨by decide, fun l hl => ?_⟩
        have zl : H l = none := (kp4.trans kp5).free hp5 hl
        obtain ⟨nld, nlq⟩ := hp.ne zl
        refine ⟨_, rfl, d, q, _, 6, rfl, hp5.upd nld nlq, by omega, by decide, by decide, fun b H6 b0 b1 hp6 kp6 => ?_⟩
        obtain ⟨a, rfl⟩ : ∃ j : Nat, a = (j : Int) := ⟨a.toNat, by omega⟩
        obtain ⟨b, rfl⟩ : ∃ j : Nat, b = (j : Int) := ⟨b.toNat, by omega⟩
        have hl6 := kp6 l _ upd_same nld
        obtain ⟨st, hst, hst2⟩ : ∃ st : Nat, ([V.int 1, V.int 3, V.int 5, V.int 7, V.int 9, V.int 11] : List V)[b]? = some (.int (st : Int)) ∧ (st = 1 ∨ st = 3 ∨ st = 5 ∨ st = 7 ∨ st = 9 ∨ st = 11) := by
          have : b < 6 := by omega
          rcases b with _ | _ | _ | _ | _ | _ | b
          · exact ⟨1, rfl, by simp⟩
          · exact ⟨3, rfl, by simp⟩
          · exact ⟨5, rfl, by simp⟩
          · exact ⟨7, rfl, by simp⟩
          · exact ⟨9, rfl, by simp⟩
          · exact ⟨11, rfl, by simp⟩
          · omega
        refine ⟨l, _, _, _, rfl, rfl, SqL.of hl6, atI_nat hst, ?_⟩
        refine ⟨by show 2 ≤ sizeLine; decide, fun t ht => ?_⟩
        refine ⟨t, _, rfl, SqT.of upd_same, rfl, ?_⟩
        have hp7 : PenAt (upd H6 t (.tup [V.int (a : Int), V.int (st : Int)])) d q (n + 20) := (hp6.same (same_upd ht)).mono (by omega)
        have kp7 : Kept d H (upd H6 t (.tup [V.int (a : Int), V.int (st : Int)])) := (((kp4.trans kp5).upd zl).trans kp6).trans (.same (same_upd ht))
        generalize upd H6 t (.tup [V.int (a : Int), V.int (st : Int)]) = H7 at hp7 kp7 ⊢
        refine ⟨_, _, rfl, _, _, rfl, rfl, ?_⟩
        -- the words
        refine ⟨_, rfl, (m : Int), rfl, by omega, by omega, fun D3 hD3 => ?_⟩
        rw [Int.toNat_natCast]
        have zD3 : H D3 = none := kp7.free hp7 hD3
        obtain ⟨oDd, oDq⟩ := hp.ne zD3
        have lzF : zF.length ≤ 3 := by rw [len_tl, eF, hF]; omega
        have lzB : zB.length ≤ 3 := by rw [len_tl, eB, hB]; omega
        refine lc_range (lo := 0) (n := m) (fun i H' => H' D3 = some (.lst (((List.range i).map (wordAt zF zB a st)).map V.str)) ∧ PenAt H' d q (n + 20) ∧ Kept d H H') ?_ ?_ ?_
        · exact ⟨upd_same, hp7.upd oDd oDq, kp7.upd zD3⟩
        · rintro i H8 hi ⟨hD8, hp8, kp8⟩
          have hi26 : i < 26 := by omega
          refine ⟨rfl, _, rfl, _, rfl, _, rfl, _, rfl, _, rfl, _, _, rfl, rfl, .inl ⟨by omega, by omega⟩, _, _, rfl, rfl, .inl ⟨_, rfl, ?_⟩⟩
          refine ⟨_, _, rfl, rfl, by show (26 : Int) ≠ 0; decide, ?_⟩
          have ei : ((a : Int) + (st : Int) * (0 + (i : Int))).fmod 26 = (((a + st * i) % 26 : Nat) : Int) := by
            rw [Int.fmod_eq_emod_of_nonneg _ (by decide)]
            simp
          have hlt : (a + st * i) % 26 < 26 := Nat.mod_lt _ (by decide)
          refine ⟨zLE, _, LE.getD ((a + st * i) % 26) 0, rfl, rfl, by decide +kernel, ?_, _, _, rfl, rfl, ?_, _, rfl, _, _, rfl, rfl, ?_, _, hD8, ?_, ?_, ?_, ?_⟩
          · show atI LE (((a : Int) + (st : Int) * (0 + (i : Int))).fmod 26) = _
            rw [ei]
            refine atI_nat ?_
            show LE[(a + st * i) % 26]? = _
            have : (a + st * i) % 26 < LE.length := by rw [LE_len]; exact hlt
            rw [List.getD_eq_getElem?_getD, List.getElem?_eq_getElem this]
            rfl
          · show zF.length + 1 ≤ sizeLine
            exact Nat.le_trans (by omega : zF.length + 1 ≤ 100) (by decide)
          · have e1 : (zF ++ (⟨#[LE.getD ((a + st * i) % 26) 0]⟩ : Str)).length = zF.length + 1 := by
              rw [len_tl, len_tl]
              have := TL.tl_append zF (⟨#[LE.getD ((a + st * i) % 26) 0]⟩ : Str)
              unfold TL.tl at this
              rw [this]
              simp
            rw [e1]
            exact Nat.le_trans (by omega : zF.length + 1 + zB.length ≤ 100) (by decide)
          · simp; exact small1000 (by omega)
          · rw [upd_same, List.range_succ]
            simp [wordAt, one]
          · exact hp8.upd oDd oDq
          · exact kp8.upd zD3
        · rintro H8 ⟨hD8, hp8, kp8⟩
          refine k D3 _ H8 zD3 hD8 (by simp) (words_nodup hst2 m hm) (fun z hz => ?_) ⟨zF.cps.toList.length + 1 + zB.cps.toList.length, fun z hz => by
            obtain ⟨i, _, rfl⟩ := List.mem_map.mp hz
            rw [tl_wordAt]; simp; omega⟩ hp8 kp8
          obtain ⟨i, _, rfl⟩ := List.mem_map.mp hz
          refine wordAt_wd (fun c hc => hFm c (eF ▸ hc)) (by rw [eF, hF]; omega) (fun c hc => hBm c (eB ▸ hc)) (by rw [eB, hB]; omega)
end
end K1
set_option Elab.async false
set_option linter.all false
set_option maxRecDepth 100000
/-! tuples whose object is known to have no dict: their methods can be called -/
namespace L2
open PySem PySem.Spec PyProof.Rows
def SqF (H : Hp) (a : Addr) (xs : List V) : Prop := ∃ o, H a = some (.frz o (.tup xs)) ∧ o.dict = none
theorem SqF.sq {K : PySem.W.Frag} {H : Hp} {a : Addr} {xs : List V} (h : SqF H a xs) : SqT K H a xs := by
  obtain ⟨o, h, _⟩ := h
  exact .inl (.inr ⟨o, h⟩)
section
variable {X : Cx}
/-- tuple(xs): a new tuple, known to be one that was made -/
def rTuF (K : PySem.W.Frag) : List V → Hp → VK → Prop := fun xs H Q => ∃ p ys, xs = [.ref p] ∧ ((SqL K H p ys ∧ ∀ l o, H l = none → o.dict = none → Q (.ref l) (upd H l (.frz o (.tup ys)))) ∨ (SqT K H p ys ∧ Q (.ref p) H))
theorem call_tuple_F : CallR X (.type "tuple") (rTuF X.K) := by
  intro pins s σ H xs us Q I r h
  obtain ⟨p, ys, rfl, h⟩ := h
  obtain ⟨u, rfl, rx⟩ := vals1 r
  cases rx
  rcases h with ⟨hq, q⟩ | ⟨hq, q⟩
  · obtain ⟨its, r', pl, hz⟩ := I.list hq
    have hlen := r'.length
    refine call_tuple_list pl.isList (fun h' kp => ?_) (by simp only [List.size_toArray] <;> omega)
    have I1 : Inv X pins σ H { s with heap := h' } := I.kept (t' := s.toks) kp
    have I2 : Inv X pins σ (upd H h'.objs.size (.frz { cls := .type "tuple", data := .seq its.toArray } (.tup ys))) { s with heap := h'.push { cls := .type "tuple", data := .seq its.toArray } } :=
      I1.laid (t' := s.toks) (fun b o e => Heap.get?_push_of_some _ e) (Nat.le_refl _) (show ObjOk X.prog X.w _ _ _ (.frz _ (.tup ys)) from ⟨Heap.get?_push_size _ rfl, hz, its, r', IsTup.new _ _⟩)
    exact ⟨.ref h'.objs.size, _, I2, rfl, q _ _ (I1.hok.fresh (Nat.le_refl _)) rfl⟩
  · obtain ⟨its, r', pl, hz⟩ := I.tuple hq
    exact call_tuple_same pl ⟨.ref p, H, I, rfl, q⟩
def tBMF (r : V → List V → Hp → VK → Prop) (to : TE) (t : TA) : TE := fun σ H Q => to σ H fun x H1 => (∃ p xs, x = .ref p ∧ SqF H1 p xs) ∧ t σ H1 fun xs H2 => r x xs H2 Q
theorem pe_bmF {o e : Expr} {es : List Expr} {to : TE} {t : TA} {name : Str} {apos cpos : Pos} {id : String} {r : V → List V → Hp → VK → Prop}
    (slot : Slot "tuple" name id) (hty : typeOf (.builtin id) = pure (.type "method_descriptor")) (hm : MtR X id r) (ho : PE X o to) (ha : PA X (e :: es) t)
    (hbase : attributeBase o name X.env (eval o X.env) = eval o X.env := by rfl)
    (hfew : ((backTo cpos (starEach (e :: es) X.env)).all (fun x => !x.1) && (backToKw cpos (keywordEach [] X.env)).all (fun x => x.1.isSome)
      && decide ((e :: es).length + ([] : List Keyword).length + (if ([] : List Keyword).isEmpty then 0 else 1) < 30)) = true := by rfl)
    (hline : (apos.endLine == cpos.line) = true := by rfl) (hs : starEach (e :: es) X.env = (false, eval e X.env) :: starEach es X.env := by rfl) (hplain : (backTo cpos (starEach es X.env)).any (·.1) = false := by rfl) :
    PE X (.Call (.Attribute o name apos) (e :: es) [] cpos) (tBMF r to t) := by
  refine ⟨fun pins s σ H Q I h => ?_⟩
  refine wpAny_Call_method_late hbase hfew hline rfl (thn (ho.run pins s σ H _ I h) fun v s1 ⟨x, H1, I1, r1, ⟨p, ys, ex, fz⟩, q1⟩ => ?_)
  subst ex
  cases (show v = Value.ref p from r1)
  obtain ⟨ob, hF, hd⟩ := fz
  obtain ⟨hg, _, its, _, o2, ho2, hc2, _⟩ := I1.hok p _ hF
  rw [hg] at ho2
  cases ho2
  refine ⟨"tuple", id, PySem.F.plainAttrs_tuple, slot, hty, ⟨ob, hg, hc2⟩, fun a ea => by cases ea; exact ⟨ob, hg, hd⟩, ?_⟩
  have hA := ha.run cpos pins s1 σ H1 _ I1 q1
  rw [hs] at hA ⊢
  refine Calls.callWith_builtin (by show (false || (backTo cpos (starEach es X.env)).any (·.1)) = false; rw [hplain] <;> rfl) (Calls.evalArgs_plain ?_)
  exact thn hA fun us s2 ⟨vs, H2, I2, r2, q2⟩ => hm pins s2 σ H2 (.ref p) vs (.ref p) us Q I2 r1 r2 q2
end
theorem SqF.same {H H' : Hp} {a : Addr} {xs : List V} (h : SqF H a xs) (s : Same H H') : SqF H' a xs := by
  obtain ⟨o, h, e⟩ := h
  exact ⟨o, s _ _ h, e⟩
theorem SqF.upd {H : Hp} {a D : Addr} {o : HO} {xs : List V} (h : SqF H a xs) (n : a ≠ D) : SqF (upd H D o) a xs := by
  obtain ⟨o, h, e⟩ := h
  exact ⟨o, by rw [upd_ne n]; exact h, e⟩
end L2
namespace K1
open PySem L2
theorem Kept.seqF {d : Addr} {H H' : Hp} {a : Addr} {xs : List V} (k : Kept d H H') {u : HO} (hd : H d = some u) (n : ∀ o ys, u ≠ .frz o (.tup ys)) (h : SqF H a xs) : SqF H' a xs := by
  obtain ⟨o, h, e⟩ := h
  exact ⟨o, k _ _ h (fun z => by rw [z, hd] at h; cases h; exact n _ _ rfl), e⟩
end K1
set_option Elab.async false
set_option linter.all false
set_option maxRecDepth 100000
namespace K1
open PySem L2
abbrev sPlain : Stmt := top 46
def valOf : Stmt → Expr
  | .Assign _ v _ => v
  | .Return (some v) _ => v
  | _ => .Constant .none 0 ⟨0, 0, 0, 0⟩
def compScope : Expr → Scope
  | .ListComp _ _ sc _ => sc
  | _ => { kind := .function, names := [], isGenerator := false, isCoroutine := false }
def eltOf : Expr → Expr
  | .ListComp e _ _ _ => e
  | e => e
def stOf (s : Stmt) (i : Nat) : Stmt := (defBody s).getD i (.Pass ⟨0, 0, 0, 0⟩)
def spPen (K : PySem.W.Frag) : Sp := fun vs H Q _ => ∃ (a : Addr) (ns : List Int), vs = [.ref a] ∧ SqL K H a (ns.map V.int) ∧ ns.length ≤ 63 ∧
  ∀ (d c : Addr) (H' : Hp), H d = none → H c = none → PenAt H' d c 0 → Same H H' → Q (.ref d) H'
abbrev kDeeds : Key := Sum.inr "deeds"
abbrev kRows : Key := Sum.inr "rows"
abbrev kTells : Key := Sum.inr "tells"
abbrev kStart : Key := Sum.inr "start"
def plainK (t r l : Addr) (s : Int) : List (Key × V) := [(kDeeds, .ref t), (kRows, .ref r), (kTells, .ref l), (kStart, .int s)]
/-- lists of ints at the addresses as, row by row -/
def RowsAt (H : Hp) (as : List Addr) (rs : List (List Int)) : Prop := as.length = rs.length ∧ ∀ (i : Nat) (a : Addr) (r : List Int), as[i]? = some a → rs[i]? = some r → H a = some (.lst (r.map V.int))
structure PlainAt (H : Hp) (p : Addr) (ws : List Str) (rs : List (List Int)) (ss : List Str) (st : Int) : Prop where
  ex : ∃ (t r l : Addr) (as : List Addr), H p = some (.dK (plainK t r l st)) ∧ SqF H t (ws.map V.str) ∧ H r = some (.lst (as.map V.ref)) ∧ H l = some (.lst (ss.map V.str)) ∧ RowsAt H as rs
/-- a machine's parts as they must be -/
structure GoodP (ws : List Str) (rs : List (List Int)) (ss : List Str) (st : Int) (tells : List Str) : Prop where
  many : 1 ≤ rs.length ∧ rs.length ≤ 12
  row : ∀ r ∈ rs, r.length = ws.length ∧ ∀ x ∈ r, 0 ≤ x ∧ x < rs.length
  tl : ss.length = rs.length ∧ ∀ z ∈ ss, z ∈ tells
  st : 0 ≤ st ∧ st < rs.length
def spPlain (K : PySem.W.Frag) : Sp := fun vs H Q _ => ∃ (d c dl tl : Addr) (n : Nat) (m : Int) (ws ts : List Str), vs = [.ref d, .ref dl, .int m, .ref tl] ∧ PenAt H d c n ∧ n ≤ 800000 ∧ SqL K H dl (ws.map V.str) ∧ dl ≠ d ∧ ws.length ≤ 26 ∧
  SqL K H tl (ts.map V.str) ∧ tl ≠ d ∧ 0 < ts.length ∧ ts.length ≤ 10 ∧ 1 ≤ m ∧ m ≤ 12 ∧
  ∀ (p : Addr) (rs : List (List Int)) (ss : List Str) (st : Int) (H' : Hp), H p = none → PlainAt H' p ws rs ss st → GoodP ws rs ss st ts → (rs.length : Int) ≤ m → PenAt H' d c (n + 400) → Kept d H H' → Q (.ref p) H'
theorem plainK_merge (t r l : Addr) (s : Int) : mergeK [] (plainK t r l s) = plainK t r l s := by
  have h1 : ¬ (("deeds" : Str) = "rows") := by decide +kernel
  have h2 : ¬ (("deeds" : Str) = "tells") := by decide +kernel
  have h3 : ¬ (("deeds" : Str) = "start") := by decide +kernel
  have h4 : ¬ (("rows" : Str) = "tells") := by decide +kernel
  have h5 : ¬ (("rows" : Str) = "start") := by decide +kernel
  have h6 : ¬ (("tells" : Str) = "start") := by decide +kernel
  unfold mergeK plainK putK
  simp [h1, h2, h3, h4, h5, h6]
theorem RowsAt.kept {d : Addr} {H H' : Hp} {as : List Addr} {rs : List (List Int)} (h : RowsAt H as rs) (k : Kept d H H') (nd : ∀ a ∈ as, a ≠ d) : RowsAt H' as rs :=
  ⟨h.1, fun i a r e1 e2 => k _ _ (h.2 i a r e1 e2) (nd a (List.mem_of_getElem? e1))⟩
theorem RowsAt.snoc {H : Hp} {as : List Addr} {rs : List (List Int)} {a : Addr} {r : List Int} (h : RowsAt H as rs) (e : H a = some (.lst (r.map V.int))) : RowsAt H (as ++ [a]) (rs ++ [r]) := by
  refine ⟨by simp [h.1], fun i b q e1 e2 => ?_⟩
  by_cases hi : i < as.length
  · rw [List.getElem?_append_left hi] at e1
    rw [List.getElem?_append_left (by rw [← h.1]; exact hi)] at e2
    exact h.2 i b q e1 e2
  · rw [List.getElem?_append_right (by omega)] at e1
    rw [List.getElem?_append_right (by rw [← h.1]; omega), ← h.1] at e2
    cases hj : i - as.length with
    | zero =>
      rw [hj] at e1 e2
      simp at e1 e2
      rw [← e1, ← e2]; exact e
    | succ j => rw [hj] at e1; simp at e1
section
variable {P : Program} {w : World} {K : PySem.W.Frag} {mg : Str → Option Value} {base : Heap}
theorem scPen : FnScope ["_law_script"] ["_law_script"] (defScope sPen) := ⟨rfl, rfl, rfl, by decide +kernel, rfl, by decide +kernel, by decide +kernel⟩
theorem cut63 {xs : List V} (h : xs.length ≤ 63) : cutV xs none (some 63) = xs := by
  have e : HT.sIx xs.length xs.length (some 63) = min 63 xs.length := HT.sIx_nat xs.length xs.length 63
  unfold cutV
  rw [HT.sIx_none, e, Nat.min_eq_right h]
  simp
theorem ok_pen {f : Addr} {fd : FuncData} (D : Df K mg "_law_pen" sPen ["_law_script"] f fd) (T : Bt mg) : FnOk P w K mg base CX0 1 f fd ["_law_script"] (spPen K) := by
  refine D.F.ok scPen (fun vs H Q E h => ?_) (fun cdv A outer s H vs Q E hr h => ?_)
  · obtain ⟨a, ns, rfl, _⟩ := h
    rfl
  · obtain ⟨a, ns, rfl, ha, hl, k⟩ := h
    refine ⟨_, pss_one (ps_ret (pe_disp (pps_cons pe_str (pe_callTy call_list_of (by rfl) T.list (by decide +kernel) (pa_cons (pe_slice sl_list (pv 0) po_none (po_some pe_int)) pa_nil))
      (pps_cons pe_str pe_int (pps_cons pe_str pe_int pps_nil))) (by rfl) (by rfl) (fun z => by cases z) (by decide))), ?_⟩
    intro p hp
    have ha1 := (same_upd (o := .dK []) hp).seq ha
    refine ⟨_, rfl, 63, rfl, a, _, rfl, ha1, fun q hq => ?_⟩
    rw [cut63 (by simpa using hl)]
    refine ⟨q, _, rfl, .inl (SqL.of upd_same), fun c hc => ?_⟩
    have npq : p ≠ q := by intro z; rw [z, upd_same] at hq; cases hq
    have nqp := npq.symm
    have zq : H q = none := by rw [upd_ne nqp] at hq; exact hq
    have npc : p ≠ c := by
      intro z; rw [z] at npq; rw [← z, upd_ne (by rw [z]; exact npq), upd_same] at hc; cases hc
    have nqc : q ≠ c := by intro z; rw [← z, upd_same] at hc; cases hc
    have zc : H c = none := by rw [upd_ne nqc.symm, upd_ne npc.symm] at hc; exact hc
    refine ⟨by rw [upd_ne npc, upd_ne npq, upd_same], penK c 0 0, rfl, by show 3 ≤ 15; decide, ?_⟩
    have em : mergeK [] (penK c 0 0) = penK c 0 0 := by
      have h1 : ¬ (("cells" : Str) = "at") := by decide +kernel
      have h2 : ¬ (("cells" : Str) = "left") := by decide +kernel
      have h3 : ¬ (("at" : Str) = "left") := by decide +kernel
      unfold mergeK penK putK
      simp [h1, h2, h3]
    rw [em]
    refine k p c _ hp zc ⟨ns, 0, 0, upd_same, ?_, hl, by decide, by decide⟩ ?_
    · rw [upd_ne npc.symm, upd_same]
    · intro b o e
      rw [upd_ne (ne_of_none e hp), upd_ne (ne_of_none e zc), upd_ne (ne_of_none e zq), upd_ne (ne_of_none e hp)]
      exact e
abbrev nPlain : List Str := ["_law_pen_here", "_law_deeds", "_law_most", "_law_tells", "_law_many", "_law_rows_here", "_law_told", "_law_spot", "_law_deed"]
abbrev pPlain : List Str := ["_law_pen_here", "_law_deeds", "_law_most", "_law_tells"]
theorem scPlain : FnScope nPlain pPlain (defScope sPlain) := ⟨rfl, rfl, rfl, by decide +kernel, rfl, by decide +kernel, by decide +kernel⟩
abbrev scO : Scope := compScope (valOf (stOf sPlain 1))
theorem ok_plain {f fD fP : Addr} {fd fdD fdP : FuncData} (D : Df K mg "_law_plain" sPlain pPlain f fd) (DD : Df K mg "_law_draw" sDraw pDraw fD fdD) (DP : Df K mg "_law_pick" sPick pPick fP fdP) (T : Bt mg) : FnOk P w K mg base CX0 3 f fd pPlain (spPlain K) := by
  have GD : FnOk P w K mg base CX0 1 fD fdD pDraw spDraw := ok_draw DD.F T
  have GL : FnOk P w K mg base CX0 2 fP fdP pPick (spPickL K) := ok_pickL DP DD T
  refine D.F.ok scPlain (fun vs H Q E h => ?_) (fun cdv A outer s H vs Q E hr h => ?_)
  · obtain ⟨d, c, dl, tl, n, m, ws, ts, rfl, _⟩ := h
    rfl
  · obtain ⟨d, c, dl, tl, n, m, ws, ts, rfl, hp, hn, hdl, ndl, hws, htl, ntl, ht0, ht1, hm0, hm1, k⟩ := h
    have hr1 : Room 1 _ := hr.mono (by decide)
    have hin : ∀ (s' : Shared) (H' : Hp) (C' : Addr) (cl' : List (Str × Addr)) (fp' : List Addr), PE (Cx.blk (cxOf CX0 P w K mg base nPlain "_law_plain" (defScope sPlain) f cdv A outer s H E).nox s' H' scO (compEnvC scO cl' C' (cxOf CX0 P w K mg base nPlain "_law_plain" (defScope sPlain) f cdv A outer s H E).nox.env) fp')
        (eltOf (valOf (stOf sPlain 1))) (tLc (iList K (tVar 1)) (gName 8) tYes (tCall spDraw [] E0 (tCons (tVar 0) (tCons (tVar 4) tNil))) [8]) := fun s' H' C' cl' fp' =>
      pe_lc (own := [("_law_deed", 8)]) (g := gName 8) (by rfl) scPlain.nd (pi_list (pv 1))
          (blkOk_by (own := [("_law_deed", 8)]) (N := nPlain) (sc := relS scO (defScope sPlain)) (by decide +kernel)) (fun _ _ _ _ _ => pg_name (i := 8) scPlain.nd rfl (Or.inl rfl)) (fun _ _ _ _ _ => pts_nil)
          (fun _ _ _ _ _ => pe_call GD hr1 rfl DD.g DD.F.kp DD.b .nil pass0 (pa_cons (pv 0) (pa_cons (pv 4) pa_nil)))
    refine ⟨_, pss_cons (ps_set (i := 4) scPlain.nd rfl (Or.inr rfl) (pe_op op_add pe_int (pe_call GD hr1 rfl DD.g DD.F.kp DD.b .nil pass0 (pa_cons (pv 0) (pa_cons (pv 2) pa_nil)))))
      (pss_cons (ps_setLc (i := 5) (own := [("_law_spot", 7)]) (g := gName 7) (by rfl) scPlain.nd rfl rfl (sw_true rfl rfl rfl (by decide +kernel))
        (pi_range1 rfl T.range (pa_cons (pv 4) pa_nil))
        (blkOk_by (own := [("_law_spot", 7)]) (N := nPlain) (sc := defScope sPlain) (by decide +kernel)) (fun _ _ _ _ _ => pg_name (i := 7) scPlain.nd rfl (Or.inl rfl)) (fun _ _ _ _ _ => pts_nil)
        hin)
      (pss_cons (ps_setLc (i := 6) (own := [("_law_spot", 7)]) (g := gName 7) (by rfl) scPlain.nd rfl rfl (sw_true rfl rfl rfl (by decide +kernel))
        (pi_range1 rfl T.range (pa_cons (pv 4) pa_nil))
        (blkOk_by (own := [("_law_spot", 7)]) (N := nPlain) (sc := defScope sPlain) (by decide +kernel)) (fun _ _ _ _ _ => pg_name (i := 7) scPlain.nd rfl (Or.inl rfl)) (fun _ _ _ _ _ => pts_nil)
        (fun _ _ _ _ _ => pe_call GL hr rfl DP.g DP.F.kp DP.b .nil pass0 (pa_cons (pv 0) (pa_cons (pv 3) pa_nil))))
      (pss_one (ps_ret (pe_disp (pps_cons pe_str (pe_callTy (r := rTuF K) call_tuple_F (by rfl) T.tuple (by decide +kernel) (pa_cons (pv 1) pa_nil))
        (pps_cons pe_str (pv 5) (pps_cons pe_str (pv 6) (pps_cons pe_str (pe_call GD hr1 rfl DD.g DD.F.kp DD.b .nil pass0 (pa_cons (pv 0) (pa_cons (pv 4) pa_nil))) pps_nil)))) (by rfl) (by rfl) (fun z => by cases z) (by decide)))))), ?_⟩
    refine ⟨_, rfl, _, rfl, d, c, n, m, rfl, hp, by omega, by omega, by omega, fun r H1 r0 r1 hp1 kp1 => ⟨_, _, rfl, rfl, ?_⟩⟩
    obtain ⟨M, eM⟩ : ∃ M : Nat, 1 + r = (M : Int) := ⟨(1 + r).toNat, by omega⟩
    show _
    have hM : 1 ≤ M ∧ M ≤ 12 := by omega
    simp only [eM]
    refine ⟨_, rfl, (M : Int), rfl, by omega, by omega, fun D1 hD1 => ?_⟩
    rw [Int.toNat_natCast]
    have zD1 : H D1 = none := kp1.free hp1 hD1
    obtain ⟨n1d, n1c⟩ := hp.ne zD1
    refine lc_range (lo := 0) (n := M) (fun i H' => ∃ (as : List Addr) (rs : List (List Int)), rs.length = i ∧ H' D1 = some (.lst (as.map V.ref)) ∧ RowsAt H' as rs ∧ (∀ r ∈ rs, r.length = ws.length ∧ ∀ x ∈ r, 0 ≤ x ∧ x < (M : Int)) ∧
      (∀ a ∈ as, H a = none ∧ a ≠ D1) ∧ PenAt H' d c (n + 1 + 27 * i) ∧ Kept d H H') ?_ ?_ ?_
    · exact ⟨[], [], rfl, upd_same, ⟨rfl, fun i a r e => by simp at e⟩, by simp, by simp, hp1.upd n1d n1c, kp1.upd zD1⟩
    · rintro i H2 hi ⟨as, rs, hrs, hD, hR, hrow, has, hp2, kp2⟩
      refine ⟨rfl, _, rfl, dl, rfl, ⟨_, kp2.seq ndl hdl⟩, fun D2 hD2 => ?_⟩
      have zD2 : H D2 = none := kp2.free hp2 hD2
      obtain ⟨n2d, n2c⟩ := hp.ne zD2
      have n12 : D1 ≠ D2 := ne_of_none hD hD2
      refine lc_list (K := K) (a := dl) (xs := ws.map V.str) (fun j H' => ∃ r : List Int, r.length = j ∧ (∀ x ∈ r, 0 ≤ x ∧ x < (M : Int)) ∧ H' D2 = some (.lst (r.map V.int)) ∧ PenAt H' d c (n + 1 + 27 * i + j) ∧ Kept d H2 H' ∧ Kept d H H') ?_ ?_ ?_ ?_
      · exact ⟨[], rfl, by simp, upd_same, hp2.upd n2d n2c, (Kept.refl d H2).upd hD2, kp2.upd zD2⟩
      · rintro j H3 hj ⟨r, _, _, _, _, _, kp3⟩
        exact kp3.seq ndl hdl
      · rintro j x H3 hj ⟨r, hrj, hrb, hD3, hp3, kp3, kq3⟩
        have hj2 : j < ws.length := by
          have := (List.getElem?_eq_some_iff.mp hj).1
          rwa [List.length_map] at this
        refine ⟨rfl, _, rfl, _, rfl, d, c, _, (M : Int), rfl, hp3, by omega, by omega, by omega, fun y H4 y0 y1 hp4 kp4 => ?_⟩
        refine ⟨_, kp4 _ _ hD3 n2d, ?_, r ++ [y], by simp [hrj], ?_, ?_, ?_, ?_, ?_⟩
        · rw [List.length_map]; exact small1000 (by omega)
        · intro z hz
          rcases List.mem_append.mp hz with h | h
          · exact hrb z h
          · rw [List.mem_singleton.mp h]; exact ⟨y0, y1⟩
        · rw [upd_same]; simp
        · exact hp4.upd n2d n2c
        · exact (kp3.trans kp4).upd hD2
        · exact (kq3.trans kp4).upd zD2
      · rintro H3 ⟨r, hrj, hrb, hD3, hp3, kp3, kq3⟩
        rw [List.length_map] at hrj hp3
        have hDD := kp3 _ _ hD n1d
        have hR3 := hR.kept kp3 (fun a ha => (hp.ne (has a ha).1).1)
        refine ⟨_, hDD, ?_, as ++ [D2], rs ++ [r], by simp [hrs], ?_, ?_, ?_, ?_, ?_, ?_⟩
        · rw [List.length_map, hR.1]; exact small1000 (by omega)
        · rw [upd_same]; simp
        · have hq : RowsAt H3 (as ++ [D2]) (rs ++ [r]) := hR3.snoc hD3
          refine ⟨hq.1, fun i a q e1 e2 => ?_⟩
          have hm := List.mem_of_getElem? e1
          have : a ≠ D1 := by
            rcases List.mem_append.mp hm with h | h
            · exact (has a h).2
            · rw [List.mem_singleton.mp h]; exact n12.symm
          rw [upd_ne this]
          exact hq.2 i a q e1 e2
        · intro q hq
          rcases List.mem_append.mp hq with h | h
          · exact hrow q h
          · rw [List.mem_singleton.mp h]; exact ⟨hrj, hrb⟩
        · intro a ha
          rcases List.mem_append.mp ha with h | h
          · exact has a h
          · rw [List.mem_singleton.mp h]; exact ⟨zD2, n12.symm⟩
        · exact (hp3.upd n1d n1c).mono (by omega)
        · exact kq3.upd zD1
    · rintro H5 ⟨as, rs, hrs, hD5, hR5, hrow, has, hp5, kp5⟩
      -- told
      refine ⟨_, rfl, (M : Int), rfl, by omega, by omega, fun D3 hD3 => ?_⟩
      rw [Int.toNat_natCast]
      have zD3 : H D3 = none := kp5.free hp5 hD3
      obtain ⟨n3d, n3c⟩ := hp.ne zD3
      refine lc_range (lo := 0) (n := M) (fun i H' => ∃ ss : List Str, ss.length = i ∧ (∀ z ∈ ss, z ∈ ts) ∧ H' D3 = some (.lst (ss.map V.str)) ∧ PenAt H' d c (n + 340 + i) ∧ Kept d H5 H' ∧ Kept d H H') ?_ ?_ ?_
      · exact ⟨[], rfl, by simp, upd_same, (hp5.upd n3d n3c).mono (by omega), (Kept.refl d H5).upd hD3, kp5.upd zD3⟩
      · rintro i H6 hi ⟨ss, hss, hst, hD6, hp6, kp6, kq6⟩
        refine ⟨rfl, _, rfl, _, rfl, d, c, tl, _, ts.map V.str, rfl, hp6, by omega, ntl, kq6.seq ntl htl, by rw [List.length_map]; exact ht0, by rw [List.length_map]; omega, fun x H7 hx hp7 kp7 => ?_⟩
        obtain ⟨z, hz, rfl⟩ := List.mem_map.mp hx
        refine ⟨_, kp7 _ _ hD6 n3d, ?_, ss ++ [z], by simp [hss], ?_, ?_, ?_, ?_, ?_⟩
        · rw [List.length_map]; exact small1000 (by omega)
        · intro y hy
          rcases List.mem_append.mp hy with h | h
          · exact hst y h
          · rw [List.mem_singleton.mp h]; exact hz
        · rw [upd_same]; simp
        · exact hp7.upd n3d n3c
        · exact (kp6.trans kp7).upd hD3
        · exact (kq6.trans kp7).upd zD3
      · rintro H7 ⟨ss, hss, hst, hD7, hp7, kp7, kq7⟩
        intro p hp'
        have zp : H p = none := kq7.free hp7 hp'
        have kq8 : Kept d H (upd H7 p (.dK [])) := kq7.upd zp
        obtain ⟨npd, npc⟩ := hp.ne zp
        refine ⟨_, rfl, dl, _, rfl, .inl ⟨kq8.seq ndl hdl, fun t ob ht hob => ?_⟩⟩
        have zt : H t = none := by
          refine kq8.free (hp7.upd npd npc) ht
        obtain ⟨ntd, ntc⟩ := hp.ne zt
        have npt : p ≠ t := by intro z; rw [← z, upd_same] at ht; cases ht
        refine ⟨_, rfl, _, rfl, _, rfl, _, rfl, d, c, _, (M : Int), rfl, (hp7.upd npd npc).upd ntd ntc, by omega, by omega, by omega, fun st H9 s0 s1 hp9 kp9 => ?_⟩
        have zt7 : H7 t = none := by rw [upd_ne npt.symm] at ht; exact ht
        have sm : Same H7 (upd (upd H7 p (.dK [])) t (.frz ob (.tup (ws.map V.str)))) := fun b o e => by
          rw [upd_ne (ne_of_none e zt7), upd_ne (ne_of_none e hp')]; exact e
        have k79 : Kept d H7 H9 := (Kept.same sm).trans kp9
        have hp9' : H9 p = some (.dK []) := kp9 _ _ (by rw [upd_ne npt, upd_same]) npd
        have ht9 : H9 t = some (.frz ob (.tup (ws.map V.str))) := kp9 _ _ upd_same ntd
        have hD79 := k79 _ _ hD7 n3d
        have k59 : Kept d H5 H9 := kp7.trans k79
        have hD59 := k59 _ _ hD5 n1d
        have hR9 := hR5.kept k59 (fun a ha => (hp.ne (has a ha).1).1)
        refine ⟨hp9', plainK t D1 D3 st, rfl, by show 4 ≤ 15; decide, ?_⟩
        rw [plainK_merge]
        have kq9 : Kept d H H9 := kq7.trans k79
        have n1p : D1 ≠ p := ne_of hD59 hp9' (by intro z; cases z)
        have n3p : D3 ≠ p := ne_of hD79 hp9' (by intro z; cases z)
        refine k p rs ss st _ zp ⟨t, D1, D3, as, upd_same, ?_, ?_, ?_, hR9.1, fun i a q e1 e2 => ?_⟩ ⟨by rw [hrs]; exact hM, fun r hr => by rw [hrs]; exact hrow r hr, ⟨by rw [hss, hrs], hst⟩, by rw [hrs]; exact ⟨s0, s1⟩⟩ (by rw [hrs]; omega) ((hp9.upd npd npc).mono (by omega)) (kq9.upd zp)
        · exact ⟨ob, by rw [upd_ne npt.symm]; exact ht9, hob⟩
        · rw [upd_ne n1p]; exact hD59
        · rw [upd_ne n3p]; exact hD79
        · have := hR9.2 i a q e1 e2
          rw [upd_ne (ne_of this hp9' (by intro z; cases z))]
          exact this
end
end K1
set_option Elab.async false
set_option linter.all false
set_option maxRecDepth 100000
namespace K1
open PySem L2
abbrev sIsInt : Stmt := top 26
abbrev sIsIndex : Stmt := top 27
abbrev sIsWord : Stmt := top 28
abbrev sIsTell : Stmt := top 29
/-- the names of the built-ins, and the constants -/
structure Bt2 (mg : Str → Option Value) : Prop extends Bt mg where
  isinstance : mg "isinstance" = none
  bool : mg "bool" = none
  str : mg "str" = none
  all : mg "all" = none
  enumerate : mg "enumerate" = none
  min : mg "min" = none
  LETTERS : ∃ t, mg "LETTERS" = some (.str zLE t)
  DIGITS : ∃ t, mg "DIGITS" = some (.str zDG t)
  LONGEST_WORD : ∃ t, mg "LONGEST_WORD" = some (.int 12 t)
  LONGEST_TELL : ∃ t, mg "LONGEST_TELL" = some (.int 60 t)
  MOST_DEEDS : ∃ t, mg "MOST_DEEDS" = some (.int 6 t)
  MOST_STATES : ∃ t, mg "MOST_STATES" = some (.int 60 t)
def spIsInt : Sp := fun vs H Q _ => ∃ i : Int, vs = [.int i] ∧ Q (.bl true) H
def spIsIndex : Sp := fun vs H Q _ => ∃ i m : Int, vs = [.int i, .int m] ∧ 0 ≤ i ∧ i < m ∧ Q (.bl true) H
def spIsWord : Sp := fun vs H Q _ => ∃ z : Str, vs = [.str z] ∧ Wd z ∧ ∀ H', Same H H' → Q (.bl true) H'
abbrev zSL : Str := "/"
def TL' : List Nat := AL ++ zSL.cps.toList
def Tl (z : Str) : Prop := 1 ≤ z.cps.toList.length ∧ z.cps.toList.length ≤ 60 ∧ ∀ x ∈ z.cps.toList, x ∈ TL'
def spIsTell : Sp := fun vs H Q _ => ∃ z : Str, vs = [.str z] ∧ Tl z ∧ ∀ H', Same H H' → Q (.bl true) H'
section
variable {P : Program} {w : World} {K : PySem.W.Frag} {mg : Str → Option Value} {base : Heap}
theorem scIsInt : FnScope ["value"] ["value"] (defScope sIsInt) := ⟨rfl, rfl, rfl, by decide +kernel, rfl, by decide +kernel, by decide +kernel⟩
theorem ok_isint {f : Addr} {fd : FuncData} (D : Df K mg "is_integer" sIsInt ["value"] f fd) (T : Bt2 mg) : FnOk P w K mg base CX0 1 f fd ["value"] spIsInt := by
  refine D.F.ok scIsInt (fun vs H Q E h => ?_) (fun cdv A outer s H vs Q E hr h => ?_)
  · obtain ⟨i, rfl, _⟩ := h
    rfl
  · obtain ⟨i, rfl, k⟩ := h
    refine ⟨_, pss_one (ps_ret (pe_and (pe_callB call_isi (by rfl) T.isinstance PyProof.Rows.boot_isinstance (pa_cons (pv 0) (pa_cons (pe_bltn (v := .ty "int") (by rfl) T.int PyProof.Rows.boot_int rfl) pa_nil)))
      (pe_one (pe_not (pe_callB call_isi (by rfl) T.isinstance PyProof.Rows.boot_isinstance (pa_cons (pv 0) (pa_cons (pe_bltn (v := .ty "bool") (by rfl) T.bool PyProof.Rows.boot_bool rfl) pa_nil))))))), ?_⟩
    refine ⟨_, rfl, _, _, _, _, true, rfl, .ty "int", .base (.int i), kit_ty (by decide +kernel), true, rfl, ?_⟩
    refine ⟨_, rfl, _, _, _, _, false, rfl, .ty "bool", .base (.int i), kit_ty (by decide +kernel), false, rfl, k⟩
theorem scIsIndex : FnScope ["value", "many"] ["value", "many"] (defScope sIsIndex) := ⟨rfl, rfl, rfl, by decide +kernel, rfl, by decide +kernel, by decide +kernel⟩
theorem ok_isindex {f fI : Addr} {fd fdI : FuncData} (D : Df K mg "is_index" sIsIndex ["value", "many"] f fd) (DI : Df K mg "is_integer" sIsInt ["value"] fI fdI) (T : Bt2 mg) : FnOk P w K mg base CX0 2 f fd ["value", "many"] spIsIndex := by
  have GI : FnOk P w K mg base CX0 1 fI fdI ["value"] spIsInt := ok_isint DI T
  refine D.F.ok scIsIndex (fun vs H Q E h => ?_) (fun cdv A outer s H vs Q E hr h => ?_)
  · obtain ⟨i, m, rfl, _⟩ := h
    rfl
  · obtain ⟨i, m, rfl, h0, h1, k⟩ := h
    refine ⟨_, pss_one (ps_ret (pe_and (pe_call GI hr rfl DI.g DI.F.kp DI.b .nil pass0 (pa_cons (pv 0) pa_nil)) (pe_one (pe_chain op_le op_lt pe_int (pv 0) (pv 1))))), ?_⟩
    refine ⟨_, rfl, i, rfl, true, rfl, ?_⟩
    refine ⟨_, rfl, _, _, rfl, rfl, _, rfl, ?_⟩
    rw [decide_eq_true h0]
    refine iteT ?_
    refine ⟨_, rfl, _, _, rfl, rfl, ?_⟩
    show Q (V.bl (decide (i < m))) H
    rw [decide_eq_true h1]
    exact k
theorem scIsWord : FnScope ["value", "sign"] ["value"] (defScope sIsWord) := ⟨rfl, rfl, rfl, by decide +kernel, rfl, by decide +kernel, by decide +kernel⟩
theorem ok_isword {f : Addr} {fd : FuncData} (D : Df K mg "is_word" sIsWord ["value"] f fd) (T : Bt2 mg) : FnOk P w K mg base CX0 1 f fd ["value"] spIsWord := by
  refine D.F.ok scIsWord (fun vs H Q E h => ?_) (fun cdv A outer s H vs Q E hr h => ?_)
  · obtain ⟨z, rfl, _⟩ := h
    rfl
  · obtain ⟨z, rfl, hz, k⟩ := h
    obtain ⟨tL, gL⟩ := T.LETTERS
    obtain ⟨tD, gD⟩ := T.DIGITS
    obtain ⟨tW, gW⟩ := T.LONGEST_WORD
    obtain ⟨c, r, ez, hc, hr', hl⟩ := id hz
    refine ⟨_, pss_cons (ps_if (PW.pt (pw_or (pt_not (pt_val (pe_callB call_isi (by rfl) T.isinstance PyProof.Rows.boot_isinstance (pa_cons (pv 0) (pa_cons (pe_bltn (v := .ty "str") (by rfl) T.str PyProof.Rows.boot_str rfl) pa_nil)))))
          (pw_or1 (pt_not (pt_chain op_le op_le pe_int (pe_callB call_len_str (by rfl) T.len PySem.boot_len (pa_cons (pv 0) pa_nil)) (pe_glob (v := .int 12) rfl gW ⟨_, rfl⟩))))))
        pss_never pss_nil)
      (pss_one (ps_ret (pe_and (pe_cmpR op_in_sign (pe_ix ix_str (pv 0) pe_int (fun _ _ => rfl)) (pe_glob (v := .str zLE) rfl gL ⟨_, rfl⟩) rfl)
        (pe_one (pe_callB (cr_all rfl) (by rfl) T.all PyProof.Rows.boot_all (pa_cons (pe_lc (own := [("sign", 1)]) (g := gName 1) (by rfl) scIsWord.nd (pi_str (pv 0))
          (blkOk_by (own := [("sign", 1)]) (N := ["value", "sign"]) (sc := defScope sIsWord) (by decide +kernel)) (fun _ _ _ _ _ => pg_name (i := 1) scIsWord.nd rfl (Or.inl rfl)) (fun _ _ _ _ _ => pts_nil)
          (fun _ _ _ _ _ => pe_cmpR op_in_sign (pv 1) (pe_op op_add_str (pe_glob (v := .str zLE) rfl gL ⟨_, rfl⟩) (pe_glob (v := .str zDG) rfl gD ⟨_, rfl⟩)) rfl)) pa_nil)))))), ?_⟩
    have lz : z.length = r.length + 1 := by rw [len_tl, ez]; rfl
    have hzl : z.length ≤ sizeLine := Nat.le_trans (by omega : z.length ≤ 100) (by decide)
    refine ⟨_, rfl, _, _, _, _, true, rfl, .ty "str", .base (.str z), kit_ty (by decide +kernel), true, rfl, ?_⟩
    refine iteF ?_
    refine ⟨_, rfl, _, rfl, hzl, _, _, rfl, rfl, _, rfl, ?_⟩
    refine ite2 (fun _ => ?_) (fun h => absurd (decide_eq_true (by show (1 : Int) ≤ (z.length : Int); omega)) h)
    refine ⟨_, _, rfl, rfl, _, rfl, ?_⟩
    have e12 : decide ((z.length : Int) ≤ 12) = true := decide_eq_true (by omega)
    show (if (!decide ((z.length : Int) ≤ 12)) = true then _ else _)
    rw [e12]
    refine iteF ?_
    refine ⟨_, rfl, z, _, c, rfl, rfl, hzl, ?_, c, zLE, rfl, rfl, true, ?_, ?_⟩
    · rw [ez]; exact atI_nat (j := 0) rfl
    · rw [decide_eq_true (show c ∈ zLE.cps.toList from hc)]
    refine iteT ?_
    refine ⟨_, rfl, z, rfl, fun D hD => ?_⟩
    have hall : ∀ x ∈ z.cps.toList, x ∈ AL := fun x hx => by
      rw [ez] at hx
      rcases List.mem_cons.mp hx with rfl | h
      · exact LE_AL hc
      · exact hr' x h
    have hsz : z.cps.size = z.cps.toList.length := by simp
    have hsz7 : z.cps.toList.length ≤ 7 := by rw [ez]; simp; exact hl
    refine lc_it (walk_str (z := z)) (fun i H' => Same H H' ∧ H' D = some (.lst ((List.replicate i true).map V.bl))) ?_ ?_ ?_ ?_
    · exact ⟨same_upd hD, upd_same⟩
    · exact fun _ _ _ _ => trivial
    · rintro i x H1 H2 hi ⟨sm, hD1⟩ ⟨rfl, c', hc', rfl⟩
      have hm : c' ∈ z.cps.toList := by
        have : z.cps.toList[i]? = some c' := by simpa using hc'
        exact List.mem_of_getElem? this
      refine ⟨rfl, _, rfl, _, _, rfl, rfl, by decide +kernel, c', zLE ++ zDG, rfl, rfl, _, hD1, ?_, ?_, ?_⟩
      · simp; exact small1000 (by omega)
      · exact fun b o e => by rw [upd_ne (ne_of_none e hD)]; exact sm b o e
      · rw [upd_same, decide_eq_true (show c' ∈ (zLE ++ zDG).cps.toList by rw [← AL_eq]; exact hall c' hm), List.replicate_succ']
        simp
    · rintro H1 ⟨sm, hD1⟩
      refine ⟨D, _, rfl, SqL.of hD1, ?_⟩
      have e : (List.replicate z.cps.size true).all id = true := by simp
      rw [e]
      exact k H1 sm
end
end K1
set_option Elab.async false
set_option linter.all false
set_option maxRecDepth 100000
namespace K1
open PySem L2
abbrev sCheckDiff : Stmt := top 30
abbrev sCheckGroup : Stmt := top 31
abbrev sCheckDeeds : Stmt := top 32
abbrev sCheckRows : Stmt := top 35
abbrev sCheckTells : Stmt := top 36
theorem TL_eq : TL' = (zLE ++ zDG ++ zSL).cps.toList := by decide +kernel
theorem cut_to {xs : List V} {i : Nat} (h : i ≤ xs.length) : cutV xs none (some (i : Int)) = xs.take i := by
  unfold cutV
  rw [HT.sIx_none, HT.sIx_nat, Nat.min_eq_left h]
  simp
theorem inV_str {ws : List Str} {z : Str} (h : z ∉ ws) : inV (.str z) (ws.map V.str) = false := by
  unfold inV
  rw [List.any_map, List.any_eq_false]
  intro y hy
  show ¬ ((y == z) = true)
  intro e
  rw [beq_iff_eq] at e
  exact h (e ▸ hy)
theorem nodup_take {ws : List Str} {i : Nat} {z : Str} (nd : ws.Nodup) (e : ws[i]? = some z) : z ∉ ws.take i := by
  intro hm
  obtain ⟨j, hj, ej⟩ := List.getElem_of_mem hm
  rw [List.getElem_take] at ej
  have hji : j < i := by simp at hj; omega
  have hi : i < ws.length := (List.getElem?_eq_some_iff.mp e).1
  have ei : ws[i] = z := (List.getElem?_eq_some_iff.mp e).2
  exact List.pairwise_iff_getElem.mp nd j i (by omega) hi hji (ej.trans ei.symm)
theorem flat_strs (ws : List Str) : (ws.map V.str).all flatV = true := by simp [flatV]
/-- a list or a tuple of words -/
def Sq (K : PySem.W.Frag) (H : Hp) (a : Addr) (xs : List V) : Prop := SqL K H a xs ∨ SqT K H a xs
theorem Sq.same {K : PySem.W.Frag} {H H' : Hp} {a : Addr} {xs : List V} (h : Sq K H a xs) (s : Same H H') : Sq K H' a xs := by
  rcases h with h | h
  · exact .inl (s.seq h)
  · exact .inr (h.ext s)
structure GoodD (ws : List Str) : Prop where
  nd : ws.Nodup
  wd : ∀ z ∈ ws, Wd z
  len : 1 ≤ ws.length ∧ ws.length ≤ 6
def spDeeds (K : PySem.W.Frag) : Sp := fun vs H Q _ => ∃ (a : Addr) (ws : List Str), vs = [.ref a] ∧ Sq K H a (ws.map V.str) ∧ GoodD ws ∧ ∀ H', Same H H' → Q .non H'
section
variable {P : Program} {w : World} {K : PySem.W.Frag} {mg : Str → Option Value} {base : Heap}
theorem scIsTell : FnScope ["value", "sign"] ["value"] (defScope sIsTell) := ⟨rfl, rfl, rfl, by decide +kernel, rfl, by decide +kernel, by decide +kernel⟩
theorem ok_istell {f : Addr} {fd : FuncData} (D : Df K mg "is_tell" sIsTell ["value"] f fd) (T : Bt2 mg) : FnOk P w K mg base CX0 1 f fd ["value"] spIsTell := by
  refine D.F.ok scIsTell (fun vs H Q E h => ?_) (fun cdv A outer s H vs Q E hr h => ?_)
  · obtain ⟨z, rfl, _⟩ := h
    rfl
  · obtain ⟨z, rfl, ⟨hz0, hz1, hall⟩, k⟩ := h
    obtain ⟨tL, gL⟩ := T.LETTERS
    obtain ⟨tD, gD⟩ := T.DIGITS
    obtain ⟨tW, gW⟩ := T.LONGEST_TELL
    refine ⟨_, pss_cons (ps_if (PW.pt (pw_or (pt_not (pt_val (pe_callB call_isi (by rfl) T.isinstance PyProof.Rows.boot_isinstance (pa_cons (pv 0) (pa_cons (pe_bltn (v := .ty "str") (by rfl) T.str PyProof.Rows.boot_str rfl) pa_nil)))))
          (pw_or1 (pt_not (pt_chain op_le op_le pe_int (pe_callB call_len_str (by rfl) T.len PySem.boot_len (pa_cons (pv 0) pa_nil)) (pe_glob (v := .int 60) rfl gW ⟨_, rfl⟩))))))
        pss_never pss_nil)
      (pss_one (ps_ret (pe_callB (cr_all rfl) (by rfl) T.all PyProof.Rows.boot_all (pa_cons (pe_lc (own := [("sign", 1)]) (g := gName 1) (by rfl) scIsTell.nd (pi_str (pv 0))
          (blkOk_by (own := [("sign", 1)]) (N := ["value", "sign"]) (sc := defScope sIsTell) (by decide +kernel)) (fun _ _ _ _ _ => pg_name (i := 1) scIsTell.nd rfl (Or.inl rfl)) (fun _ _ _ _ _ => pts_nil)
          (fun _ _ _ _ _ => pe_cmpR op_in_sign (pv 1) (pe_op op_add_str (pe_op op_add_str (pe_glob (v := .str zLE) rfl gL ⟨_, rfl⟩) (pe_glob (v := .str zDG) rfl gD ⟨_, rfl⟩)) pe_str) rfl)) pa_nil)))), ?_⟩
    have lz : z.length = z.cps.toList.length := len_tl z
    have hzl : z.length ≤ sizeLine := Nat.le_trans (by omega : z.length ≤ 100) (by decide)
    refine ⟨_, rfl, _, _, _, _, true, rfl, .ty "str", .base (.str z), kit_ty (by decide +kernel), true, rfl, ?_⟩
    refine iteF ?_
    refine ⟨_, rfl, _, rfl, hzl, _, _, rfl, rfl, _, rfl, ?_⟩
    refine ite2 (fun _ => ?_) (fun h => absurd (decide_eq_true (by show (1 : Int) ≤ (z.length : Int); omega)) h)
    refine ⟨_, _, rfl, rfl, _, rfl, ?_⟩
    have e12 : decide ((z.length : Int) ≤ 60) = true := decide_eq_true (by omega)
    show (if (!decide ((z.length : Int) ≤ 60)) = true then _ else _)
    rw [e12]
    refine iteF ?_
    refine ⟨_, rfl, z, rfl, fun D hD => ?_⟩
    have hsz : z.cps.size = z.cps.toList.length := by simp
    refine lc_it (walk_str (z := z)) (fun i H' => Same H H' ∧ H' D = some (.lst ((List.replicate i true).map V.bl))) ?_ ?_ ?_ ?_
    · exact ⟨same_upd hD, upd_same⟩
    · exact fun _ _ _ _ => trivial
    · rintro i x H1 H2 hi ⟨sm, hD1⟩ ⟨rfl, c', hc', rfl⟩
      have hm : c' ∈ z.cps.toList := by
        have : z.cps.toList[i]? = some c' := by simpa using hc'
        exact List.mem_of_getElem? this
      refine ⟨rfl, _, rfl, _, _, rfl, rfl, by decide +kernel, _, _, rfl, rfl, by decide +kernel, c', zLE ++ zDG ++ zSL, rfl, rfl, _, hD1, ?_, ?_, ?_⟩
      · simp; exact small1000 (by omega)
      · exact fun b o e => by rw [upd_ne (ne_of_none e hD)]; exact sm b o e
      · rw [upd_same, decide_eq_true (show c' ∈ (zLE ++ zDG ++ zSL).cps.toList by rw [← TL_eq]; exact hall c' hm), List.replicate_succ']
        simp
    · rintro H1 ⟨sm, hD1⟩
      refine ⟨D, _, rfl, SqL.of hD1, ?_⟩
      have e : (List.replicate z.cps.size true).all id = true := by simp
      rw [e]
      exact k H1 sm
theorem scDiff : FnScope ["deeds", "index", "deed"] ["deeds"] (defScope sCheckDiff) := ⟨rfl, rfl, rfl, by decide +kernel, rfl, by decide +kernel, by decide +kernel⟩
theorem ok_diff {f fW : Addr} {fd fdW : FuncData} (D : Df K mg "check_different" sCheckDiff ["deeds"] f fd) (DW : Df K mg "is_word" sIsWord ["value"] fW fdW) (T : Bt2 mg) : FnOk P w K mg base CX0 2 f fd ["deeds"] (spDeeds K) := by
  have GW : FnOk P w K mg base CX0 1 fW fdW ["value"] spIsWord := ok_isword DW T
  refine D.F.ok scDiff (fun vs H Q E h => ?_) (fun cdv A outer s H vs Q E hr h => ?_)
  · obtain ⟨a, ws, rfl, _⟩ := h
    rfl
  · obtain ⟨a, ws, rfl, ha, gd, k⟩ := h
    have hle : ws.length ≤ 6 := gd.len.2
    rcases ha with ha | ha
    · refine ⟨_, pss_one (ps_for PassesOwn.never rfl (pi_enum (by rfl) T.enumerate (pa_cons (pv 0) pa_nil)) (pg_tup (by rfl) (pgs_cons (pg_name (i := 1) scDiff.nd rfl (Or.inl rfl)) (pgs_cons (pg_name (i := 2) scDiff.nd rfl (Or.inl rfl)) pgs_nil)))
          (pss_one (ps_if (PW.pt (pw_or (pt_not (pt_val (pe_call GW hr rfl DW.g DW.F.kp DW.b .nil pass0 (pa_cons (pv 2) pa_nil)))) (pw_or1 (pt_cmpR op_in_seq (pv 2) (pe_slice sl_list (pv 0) po_none (po_some (pv 1))) (by rfl))))) pss_never pss_nil))), ?_⟩
      refine ⟨_, rfl, a, _, rfl, ha, for_it (walk_enum (K := K) (a := a) (xs := ws.map V.str)) (fun i σ H' => Same H H' ∧ ∃ v1 v2, σ = [some (.ref a), v1, v2]) ⟨Same.refl H, none, none, rfl⟩ (fun i σ H' _ p => p.1.seq ha) ?_ ?_⟩
      · rintro i x σ H1 H2 hi ⟨sm, v1, v2, rfl⟩ ⟨t, x1, x2, rfl, ht, rfl, e1, e2⟩
        cases e1
        replace e2 : (ws.map V.str)[i]? = some x2 := e2
        rw [List.getElem?_map] at e2
        obtain ⟨z, hz, rfl⟩ := Option.map_eq_some_iff.mp e2
        have hzm := List.mem_of_getElem? hz
        have hil : i < ws.length := (List.getElem?_eq_some_iff.mp hz).1
        have sm2 := sm.trans (same_upd (o := .tup [V.int (i : Nat), V.str z]) ht)
        refine ⟨t, _, rfl, SqT.of upd_same, rfl, _, _, rfl, _, _, rfl, rfl, ?_⟩
        refine ⟨_, rfl, z, rfl, gd.wd z hzm, fun H3 sm3 => ⟨true, rfl, ?_⟩⟩
        refine iteF ?_
        have sm4 := sm2.trans sm3
        refine ⟨_, rfl, _, rfl, _, rfl, (i : Int), rfl, a, _, rfl, sm4.seq ha, fun q hq => ?_⟩
        rw [cut_to (by rw [List.length_map]; omega), ← List.map_take]
        refine ⟨q, _, rfl, .inl (SqL.of upd_same), rfl, flat_strs _, false, ?_, ?_⟩
        · show V.bl (if false = true then _ else inV (V.str z) ((ws.take i).map V.str)) = V.bl false
          rw [inV_str (nodup_take gd.nd hz)]
          rfl
        · refine iteF ?_
          exact ⟨sm4.trans (same_upd hq), _, _, rfl⟩
      · rintro σ H1 ⟨sm, v1, v2, rfl⟩
        exact k H1 sm
    · refine ⟨_, pss_one (ps_for PassesOwn.never rfl (pi_enumT (by rfl) T.enumerate (pa_cons (pv 0) pa_nil)) (pg_tup (by rfl) (pgs_cons (pg_name (i := 1) scDiff.nd rfl (Or.inl rfl)) (pgs_cons (pg_name (i := 2) scDiff.nd rfl (Or.inl rfl)) pgs_nil)))
          (pss_one (ps_if (PW.pt (pw_or (pt_not (pt_val (pe_call GW hr rfl DW.g DW.F.kp DW.b .nil pass0 (pa_cons (pv 2) pa_nil)))) (pw_or1 (pt_cmpR op_in_seq (pv 2) (pe_slice sl_tupA (pv 0) po_none (po_some (pv 1))) (by rfl))))) pss_never pss_nil))), ?_⟩
      refine ⟨_, rfl, a, _, rfl, ha, for_it (walk_enumT (K := K) (a := a) (xs := ws.map V.str)) (fun i σ H' => Same H H' ∧ ∃ v1 v2, σ = [some (.ref a), v1, v2]) ⟨Same.refl H, none, none, rfl⟩ (fun i σ H' _ p => ha.ext p.1) ?_ ?_⟩
      · rintro i x σ H1 H2 hi ⟨sm, v1, v2, rfl⟩ ⟨t, x1, x2, rfl, ht, rfl, e1, e2⟩
        cases e1
        replace e2 : (ws.map V.str)[i]? = some x2 := e2
        rw [List.getElem?_map] at e2
        obtain ⟨z, hz, rfl⟩ := Option.map_eq_some_iff.mp e2
        have hzm := List.mem_of_getElem? hz
        have hil : i < ws.length := (List.getElem?_eq_some_iff.mp hz).1
        have sm2 := sm.trans (same_upd (o := .tup [V.int (i : Nat), V.str z]) ht)
        refine ⟨t, _, rfl, SqT.of upd_same, rfl, _, _, rfl, _, _, rfl, rfl, ?_⟩
        refine ⟨_, rfl, z, rfl, gd.wd z hzm, fun H3 sm3 => ⟨true, rfl, ?_⟩⟩
        refine iteF ?_
        have sm4 := sm2.trans sm3
        have eh : HT.sIx (ws.map V.str).length (ws.map V.str).length (some (i : Int)) = i := by rw [HT.sIx_nat, List.length_map]; omega
        refine ⟨_, rfl, _, rfl, _, rfl, (i : Int), rfl, a, _, rfl, ha.ext sm4, fun h => absurd h.2 (by rw [eh, List.length_map]; omega), fun _ q hq => ?_⟩
        rw [cut_to (by rw [List.length_map]; omega), ← List.map_take]
        refine ⟨q, _, rfl, .inr (SqT.of upd_same), rfl, flat_strs _, false, ?_, ?_⟩
        · show V.bl (if false = true then _ else inV (V.str z) ((ws.take i).map V.str)) = V.bl false
          rw [inV_str (nodup_take gd.nd hz)]
          rfl
        · refine iteF ?_
          exact ⟨sm4.trans (same_upd hq), _, _, rfl⟩
      · rintro σ H1 ⟨sm, v1, v2, rfl⟩
        exact k H1 sm
theorem Sq.len {K : PySem.W.Frag} {H : Hp} {a : Addr} {xs : List V} (h : Sq K H a xs) : LenV K (.ref a) H xs.length := by
  rcases h with h | h
  · exact .inl ⟨_, h, rfl⟩
  · exact .inr ⟨_, h, rfl⟩
theorem scGroup : FnScope ["deeds"] ["deeds"] (defScope sCheckGroup) := ⟨rfl, rfl, rfl, by decide +kernel, rfl, by decide +kernel, by decide +kernel⟩
theorem ok_group {f fC fW : Addr} {fd fdC fdW : FuncData} (D : Df K mg "check_group" sCheckGroup ["deeds"] f fd) (DC : Df K mg "check_different" sCheckDiff ["deeds"] fC fdC) (DW : Df K mg "is_word" sIsWord ["value"] fW fdW) (T : Bt2 mg) : FnOk P w K mg base CX0 3 f fd ["deeds"] (spDeeds K) := by
  have GC : FnOk P w K mg base CX0 2 fC fdC ["deeds"] (spDeeds K) := ok_diff DC DW T
  refine D.F.ok scGroup (fun vs H Q E h => ?_) (fun cdv A outer s H vs Q E hr h => ?_)
  · obtain ⟨a, ws, rfl, _⟩ := h
    rfl
  · obtain ⟨a, ws, rfl, ha, gd, k⟩ := h
    refine ⟨_, pss_cons (ps_expr (pe_call GC hr rfl DC.g DC.F.kp DC.b .nil pass0 (pa_cons (pv 0) pa_nil)))
      (pss_one (ps_if (pt_cmpR op_eq (pe_callB call_len (by rfl) T.len PySem.boot_len (pa_cons (pv 0) pa_nil)) pe_int (nomark _)) pss_never pss_nil)), ?_⟩
    refine ⟨_, rfl, a, ws, rfl, ha, gd, fun H1 sm => ?_⟩
    refine ⟨_, rfl, _, _, rfl, (ha.same sm).len, rfl, _, rfl, ?_⟩
    refine ite2 (fun h => ?_) (fun _ => k H1 sm)
    have := of_decide_eq_true h
    injection this with this
    have := gd.len.1
    rw [List.length_map] at *
    omega
theorem scDeeds : FnScope ["deeds"] ["deeds"] (defScope sCheckDeeds) := ⟨rfl, rfl, rfl, by decide +kernel, rfl, by decide +kernel, by decide +kernel⟩
theorem ok_deeds {f fG fC fW : Addr} {fd fdG fdC fdW : FuncData} (D : Df K mg "check_deeds" sCheckDeeds ["deeds"] f fd) (DG : Df K mg "check_group" sCheckGroup ["deeds"] fG fdG) (DC : Df K mg "check_different" sCheckDiff ["deeds"] fC fdC) (DW : Df K mg "is_word" sIsWord ["value"] fW fdW) (T : Bt2 mg) : FnOk P w K mg base CX0 4 f fd ["deeds"] (spDeeds K) := by
  have GC : FnOk P w K mg base CX0 3 fG fdG ["deeds"] (spDeeds K) := ok_group DG DC DW T
  refine D.F.ok scDeeds (fun vs H Q E h => ?_) (fun cdv A outer s H vs Q E hr h => ?_)
  · obtain ⟨a, ws, rfl, _⟩ := h
    rfl
  · obtain ⟨a, ws, rfl, ha, gd, k⟩ := h
    have hle : ws.length ≤ 6 := gd.len.2
    obtain ⟨tM, gM⟩ := T.MOST_DEEDS
    refine ⟨_, pss_cons (ps_expr (pe_call GC hr rfl DG.g DG.F.kp DG.b .nil pass0 (pa_cons (pv 0) pa_nil)))
      (pss_one (ps_if (pt_cmpR op_gt (pe_callB call_len (by rfl) T.len PySem.boot_len (pa_cons (pv 0) pa_nil)) (pe_glob (v := .int 6) rfl gM ⟨_, rfl⟩) (nomark _)) pss_never pss_nil)), ?_⟩
    refine ⟨_, rfl, a, ws, rfl, ha, gd, fun H1 sm => ?_⟩
    refine ⟨_, rfl, _, _, rfl, (ha.same sm).len, _, _, rfl, rfl, _, rfl, ?_⟩
    refine ite2 (fun h => ?_) (fun _ => k H1 sm)
    have := of_decide_eq_true h
    rw [List.length_map] at this
    exact absurd this (by omega)
end
end K1
set_option Elab.async false
set_option linter.all false
set_option maxRecDepth 100000
namespace K1
open PySem L2
theorem kit_list {K : PySem.W.Frag} : PySem.W.kitAny K (.type "list") [.type "list", .type "tuple"] = some true := by
  simp [PySem.W.kitAny, PySem.W.kitOne]
def spRows (K : PySem.W.Frag) : Sp := fun vs H Q _ => ∃ (b : Addr) (m : Nat) (as : List Addr) (rs : List (List Int)), vs = [.ref b, .int (m : Int)] ∧ SqL K H b (as.map V.ref) ∧ RowsAt H as rs ∧ 1 ≤ rs.length ∧ rs.length ≤ 60 ∧ m ≤ 100 ∧
  (∀ r ∈ rs, r.length = m ∧ ∀ x ∈ r, 0 ≤ x ∧ x < (rs.length : Int)) ∧ ∀ H', Same H H' → Q .non H'
def spTells (K : PySem.W.Frag) : Sp := fun vs H Q _ => ∃ (b : Addr) (ss : List Str), vs = [.ref b, .int (ss.length : Int)] ∧ SqL K H b (ss.map V.str) ∧ (∀ z ∈ ss, Tl z) ∧ ss.length ≤ 100 ∧ ∀ H', Same H H' → Q .non H'
theorem RowsAt.same {H H' : Hp} {as : List Addr} {rs : List (List Int)} (h : RowsAt H as rs) (s : Same H H') : RowsAt H' as rs := ⟨h.1, fun i a r e1 e2 => s _ _ (h.2 i a r e1 e2)⟩
def rLn (K : PySem.W.Frag) : List V → Hp → VK → Prop := fun xs H Q => ∃ x n, xs = [x] ∧ LenV K x H n ∧ Q (.int n) H
section
variable {P : Program} {w : World} {K : PySem.W.Frag} {mg : Str → Option Value} {base : Heap}
abbrev nRows : List Str := ["rows", "many", "index", "row", "state"]
theorem scRows : FnScope nRows ["rows", "many"] (defScope sCheckRows) := ⟨rfl, rfl, rfl, by decide +kernel, rfl, by decide +kernel, by decide +kernel⟩
theorem ok_rows {f fX fI : Addr} {fd fdX fdI : FuncData} (D : Df K mg "check_rows" sCheckRows ["rows", "many"] f fd) (DX : Df K mg "is_index" sIsIndex ["value", "many"] fX fdX) (DI : Df K mg "is_integer" sIsInt ["value"] fI fdI) (T : Bt2 mg) : FnOk P w K mg base CX0 3 f fd ["rows", "many"] (spRows K) := by
  have GX : FnOk P w K mg base CX0 2 fX fdX ["value", "many"] spIsIndex := ok_isindex DX DI T
  refine D.F.ok scRows (fun vs H Q E h => ?_) (fun cdv A outer s H vs Q E hr h => ?_)
  · obtain ⟨b, m, as, rs, rfl, _⟩ := h
    rfl
  · obtain ⟨b, m, as, rs, rfl, hb, hR, h1, h60, hm, hrow, k⟩ := h
    obtain ⟨tM, gM⟩ := T.MOST_STATES
    have hlen : (as.map V.ref).length = rs.length := by rw [List.length_map, hR.1]
    refine ⟨_, pss_cons (ps_if (pt_cmpR op_eq (pe_callB call_len (by rfl) T.len PySem.boot_len (pa_cons (pv 0) pa_nil)) pe_int (nomark _)) pss_never pss_nil)
      (pss_cons (ps_if (pt_cmpR op_gt (pe_callB call_len (by rfl) T.len PySem.boot_len (pa_cons (pv 0) pa_nil)) (pe_glob (v := .int 60) rfl gM ⟨_, rfl⟩) (nomark _)) pss_never pss_nil)
      (pss_one (ps_for PassesOwn.never rfl (pi_enum (by rfl) T.enumerate (pa_cons (pv 0) pa_nil)) (pg_tup (by rfl) (pgs_cons (pg_name (i := 2) scRows.nd rfl (Or.inl rfl)) (pgs_cons (pg_name (i := 3) scRows.nd rfl (Or.inl rfl)) pgs_nil)))
        (pss_cons (ps_if (PW.pt (pw_or (pt_not (pt_val (pe_callB call_isiT (by rfl) T.isinstance PyProof.Rows.boot_isinstance (pa_cons (pv 3) (pa_cons (pe_tup (pa_cons (pe_bltn (v := .ty "list") (by rfl) T.list PyProof.Rows.boot_list rfl) (pa_cons (pe_bltn (v := .ty "tuple") (by rfl) T.tuple PyProof.Rows.boot_tuple rfl) pa_nil))) pa_nil)))))
            (pw_or1 (pt_cmpR op_ne (pe_callB call_len (by rfl) T.len PySem.boot_len (pa_cons (pv 3) pa_nil)) (pv 1) (nomark _))))) pss_never pss_nil)
        (pss_one (ps_if (pt_not (pt_val (pe_callB (cr_all rfl) (by rfl) T.all PyProof.Rows.boot_all (pa_cons (pe_lc (own := [("state", 4)]) (g := gName 4) (by rfl) scRows.nd (pi_list (pv 3))
            (blkOk_by (own := [("state", 4)]) (N := nRows) (sc := defScope sCheckRows) (by decide +kernel)) (fun _ _ _ _ _ => pg_name (i := 4) scRows.nd rfl (Or.inl rfl)) (fun _ _ _ _ _ => pts_nil)
            (fun _ _ _ _ _ => pe_call GX hr rfl DX.g DX.F.kp DX.b .nil pass0 (pa_cons (pv 4) (pa_cons (pe_callB (r := rLn K) call_len (by rfl) T.len PySem.boot_len (pa_cons (pv 0) pa_nil)) pa_nil)))) pa_nil)))) pss_never pss_nil)))))), ?_⟩
    refine ⟨_, rfl, _, rs.length, rfl, .inl ⟨_, hb, hlen.symm⟩, rfl, _, rfl, ?_⟩
    refine ite2 (fun h => absurd (of_decide_eq_true h) (fun h => by injection h with h; omega)) (fun _ => ?_)
    refine ⟨_, rfl, _, rs.length, rfl, .inl ⟨_, hb, hlen.symm⟩, _, _, rfl, rfl, _, rfl, ?_⟩
    refine ite2 (fun h => absurd (of_decide_eq_true h) (by omega)) (fun _ => ?_)
    refine ⟨_, rfl, b, _, rfl, hb, for_it (walk_enum (K := K) (a := b) (xs := as.map V.ref)) (fun i σ H' => Same H H' ∧ ∃ v1 v2, σ = [some (.ref b), some (.int (m : Int)), v1, v2, none]) ⟨Same.refl H, none, none, rfl⟩ (fun i σ H' _ p => p.1.seq hb) ?_ ?_⟩
    · rintro i x σ H1 H2 hi ⟨sm, v1, v2, rfl⟩ ⟨t, x1, x2, rfl, ht, rfl, e1, e2⟩
      cases e1
      replace e2 : (as.map V.ref)[i]? = some x2 := e2
      rw [List.getElem?_map] at e2
      obtain ⟨a, ea, rfl⟩ := Option.map_eq_some_iff.mp e2
      have hir : i < rs.length := by rw [← hR.1]; exact (List.getElem?_eq_some_iff.mp ea).1
      have er : rs[i]? = some rs[i] := List.getElem?_eq_getElem hir
      obtain ⟨hl, hx⟩ := hrow _ (List.getElem_mem hir)
      have sm2 := sm.trans (same_upd (o := .tup [V.int (i : Nat), V.ref a]) ht)
      have ha2 := sm2 _ _ (hR.2 i a _ ea er)
      refine ⟨t, _, rfl, SqT.of upd_same, rfl, _, _, rfl, _, _, rfl, rfl, ?_⟩
      generalize upd H1 t (.tup [V.int (i : Nat), V.ref a]) = H3 at sm2 ha2 ⊢
      refine ⟨_, rfl, by show 2 ≤ sizeLine; decide, fun q hq => ?_⟩
      have sm4 := sm2.trans (same_upd (o := .tup [V.ty "list", V.ty "tuple"]) hq)
      have ha4 := (same_upd (o := .tup [V.ty "list", V.ty "tuple"]) hq) _ _ ha2
      refine ⟨_, q, _, _, _, true, rfl, upd_same, .cons (.ty "list") (.cons (.ty "tuple") .nil), .base (.lst ha4), kit_list, true, rfl, ?_⟩
      refine iteF ?_
      refine ⟨_, rfl, _, m, rfl, .inl ⟨_, SqL.of ha4, by rw [List.length_map]; exact hl.symm⟩, _, rfl, rfl, _, rfl, ?_⟩
      refine ite2 (fun h => ?_) (fun _ => ?_)
      · simp at h
      refine ⟨_, rfl, a, rfl, ⟨_, SqL.of ha4⟩, fun D hD => ?_⟩
      generalize upd H3 q (.tup [V.ty "list", V.ty "tuple"]) = H4 at sm4 ha4 hD ⊢
      refine lc_list (K := K) (a := a) (xs := (rs[i]).map V.int) (fun j H' => Same H4 H' ∧ H' D = some (.lst ((List.replicate j true).map V.bl))) ?_ ?_ ?_ ?_
      · exact ⟨same_upd hD, upd_same⟩
      · exact fun j H' _ p => p.1.seq (SqL.of ha4)
      · rintro j x H5 hj ⟨sm5, hD5⟩
        rw [List.getElem?_map] at hj
        obtain ⟨y, hy, rfl⟩ := Option.map_eq_some_iff.mp hj
        obtain ⟨y0, y1⟩ := hx y (List.mem_of_getElem? hy)
        have hjl : j < (rs[i]).length := (List.getElem?_eq_some_iff.mp hy).1
        refine ⟨rfl, _, rfl, _, rfl, _, rs.length, rfl, .inl ⟨_, (sm4.trans sm5).seq hb, hlen.symm⟩, y, rs.length, rfl, y0, y1, ?_⟩
        refine ⟨_, hD5, ?_, ?_, ?_⟩
        · simp; exact small1000 (by omega)
        · exact fun b' o e => by rw [upd_ne (ne_of_none e hD)]; exact sm5 b' o e
        · rw [upd_same, List.replicate_succ']
          simp
      · rintro H5 ⟨sm5, hD5⟩
        refine ⟨D, _, rfl, SqL.of hD5, ?_⟩
        have e : (List.replicate ((rs[i]).map V.int).length true).all id = true := by simp
        rw [e]
        refine ⟨true, rfl, ?_⟩
        refine iteF ?_
        exact ⟨sm4.trans sm5, _, _, rfl⟩
    · rintro σ H1 ⟨sm, v1, v2, rfl⟩
      exact k H1 sm
theorem scTells : FnScope ["tells", "many", "index", "tell"] ["tells", "many"] (defScope sCheckTells) := ⟨rfl, rfl, rfl, by decide +kernel, rfl, by decide +kernel, by decide +kernel⟩
theorem ok_tells {f fT : Addr} {fd fdT : FuncData} (D : Df K mg "check_tells" sCheckTells ["tells", "many"] f fd) (DT : Df K mg "is_tell" sIsTell ["value"] fT fdT) (T : Bt2 mg) : FnOk P w K mg base CX0 2 f fd ["tells", "many"] (spTells K) := by
  have GT : FnOk P w K mg base CX0 1 fT fdT ["value"] spIsTell := ok_istell DT T
  refine D.F.ok scTells (fun vs H Q E h => ?_) (fun cdv A outer s H vs Q E hr h => ?_)
  · obtain ⟨b, ss, rfl, _⟩ := h
    rfl
  · obtain ⟨b, ss, rfl, hb, ht, hl, k⟩ := h
    refine ⟨_, pss_cons (ps_for PassesOwn.never rfl (pi_enum (by rfl) T.enumerate (pa_cons (pv 0) pa_nil)) (pg_tup (by rfl) (pgs_cons (pg_name (i := 2) scTells.nd rfl (Or.inl rfl)) (pgs_cons (pg_name (i := 3) scTells.nd rfl (Or.inl rfl)) pgs_nil)))
        (pss_one (ps_if (pt_not (pt_val (pe_call GT hr rfl DT.g DT.F.kp DT.b .nil pass0 (pa_cons (pv 3) pa_nil)))) pss_never pss_nil)))
      (pss_one (ps_if (pt_cmpR op_ne (pe_callB call_len (by rfl) T.len PySem.boot_len (pa_cons (pv 0) pa_nil)) (pv 1) (nomark _)) pss_never pss_nil)), ?_⟩
    refine ⟨_, rfl, b, _, rfl, hb, for_it (walk_enum (K := K) (a := b) (xs := ss.map V.str)) (fun i σ H' => Same H H' ∧ ∃ v1 v2, σ = [some (.ref b), some (.int (ss.length : Int)), v1, v2]) ⟨Same.refl H, none, none, rfl⟩ (fun i σ H' _ p => p.1.seq hb) ?_ ?_⟩
    · rintro i x σ H1 H2 hi ⟨sm, v1, v2, rfl⟩ ⟨t, x1, x2, rfl, ht', rfl, e1, e2⟩
      cases e1
      replace e2 : (ss.map V.str)[i]? = some x2 := e2
      rw [List.getElem?_map] at e2
      obtain ⟨z, ez, rfl⟩ := Option.map_eq_some_iff.mp e2
      have sm2 := sm.trans (same_upd (o := .tup [V.int (i : Nat), V.str z]) ht')
      refine ⟨t, _, rfl, SqT.of upd_same, rfl, _, _, rfl, _, _, rfl, rfl, ?_⟩
      refine ⟨_, rfl, z, rfl, ht z (List.mem_of_getElem? ez), fun H3 sm3 => ⟨true, rfl, ?_⟩⟩
      refine iteF ?_
      exact ⟨sm2.trans sm3, _, _, rfl⟩
    · rintro σ H1 ⟨sm, v1, v2, rfl⟩
      refine ⟨_, rfl, _, ss.length, rfl, .inl ⟨_, sm.seq hb, (List.length_map _).symm⟩, _, rfl, rfl, _, rfl, ?_⟩
      refine ite2 (fun h => ?_) (fun _ => k H1 sm)
      simp at h
end
end K1
set_option Elab.async false
set_option linter.all false
set_option maxRecDepth 100000
namespace K1
open PySem L2
abbrev sMInit : Stmt := inClass (top 34) 0
abbrev sMLen : Stmt := inClass (top 34) 1
abbrev sMEq : Stmt := inClass (top 34) 2
theorem f_dr : ¬ (("deeds" : Str) = "rows") := by decide +kernel
theorem f_dt : ¬ (("deeds" : Str) = "tells") := by decide +kernel
theorem f_ds : ¬ (("deeds" : Str) = "start") := by decide +kernel
theorem f_rt : ¬ (("rows" : Str) = "tells") := by decide +kernel
theorem f_rs : ¬ (("rows" : Str) = "start") := by decide +kernel
theorem f_ts : ¬ (("tells" : Str) = "start") := by decide +kernel
theorem f_rd : ¬ (("rows" : Str) = "deeds") := by decide +kernel
theorem f_td : ¬ (("tells" : Str) = "deeds") := by decide +kernel
theorem f_tr : ¬ (("tells" : Str) = "rows") := by decide +kernel
def mf (t r l : Addr) (st : Int) : List (Str × V) := putF "start" (.int st) (putF "tells" (.ref l) (putF "rows" (.ref r) (putF "deeds" (.ref t) [])))
theorem mf_deeds (t r l : Addr) (st : Int) : (mf t r l st).lookup ("deeds" : Str) = some (.ref t) := by
  unfold mf
  rw [lookup_putF, if_neg f_ds, lookup_putF, if_neg f_dt, lookup_putF, if_neg f_dr, lookup_putF, if_pos rfl]
theorem mf_rows (t r l : Addr) (st : Int) : (mf t r l st).lookup ("rows" : Str) = some (.ref r) := by
  unfold mf
  rw [lookup_putF, if_neg f_rs, lookup_putF, if_neg f_rt, lookup_putF, if_pos rfl]
theorem mf_tells (t r l : Addr) (st : Int) : (mf t r l st).lookup ("tells" : Str) = some (.ref l) := by
  unfold mf
  rw [lookup_putF, if_neg f_ts, lookup_putF, if_pos rfl]
theorem mf_start (t r l : Addr) (st : Int) : (mf t r l st).lookup ("start" : Str) = some (.int st) := by
  unfold mf
  rw [lookup_putF, if_pos rfl]
theorem mf_no (t r l : Addr) (st : Int) {m : Str} (h1 : ¬ m = "start") (h2 : ¬ m = "tells") (h3 : ¬ m = "rows") (h4 : ¬ m = "deeds") : (mf t r l st).lookup m = none := by
  unfold mf
  rw [lookup_putF, if_neg h1, lookup_putF, if_neg h2, lookup_putF, if_neg h3, lookup_putF, if_neg h4]
  rfl
def RowsT (H : Hp) (as : List Addr) (rs : List (List Int)) : Prop := as.length = rs.length ∧ ∀ (i : Nat) (a : Addr) (r : List Int), as[i]? = some a → rs[i]? = some r → H a = some (.tup (r.map V.int))
theorem RowsT.same {H H' : Hp} {as : List Addr} {rs : List (List Int)} (h : RowsT H as rs) (s : Same H H') : RowsT H' as rs := ⟨h.1, fun i a r e1 e2 => s _ _ (h.2 i a r e1 e2)⟩
def MachAt (K : PySem.W.Frag) (C : Addr) (H : Hp) (x : Addr) (ws : List Str) (rs : List (List Int)) (ss : List Str) (st : Int) : Prop :=
  ∃ (dx t r l : Addr) (as : List Addr), H x = some (.ins C dx (mf t r l st)) ∧ SqF H t (ws.map V.str) ∧ H r = some (.tup (as.map V.ref)) ∧ RowsT H as rs ∧ H l = some (.tup (ss.map V.str))
/-- the parts that a machine takes -/
structure Parts (ws : List Str) (rs : List (List Int)) (ss : List Str) (st : Int) : Prop where
  gd : GoodD ws
  many : 1 ≤ rs.length ∧ rs.length ≤ 60
  row : ∀ r ∈ rs, r.length = ws.length ∧ ∀ x ∈ r, 0 ≤ x ∧ x < (rs.length : Int)
  tl : ss.length = rs.length ∧ ∀ z ∈ ss, Tl z
  st : 0 ≤ st ∧ st < (rs.length : Int)
def spMInit (K : PySem.W.Frag) (C : Addr) : Sp := fun vs H Q _ => ∃ (x dx a b l : Addr) (as : List Addr) (ws : List Str) (rs : List (List Int)) (ss : List Str) (st : Int), vs = [.ref x, .ref a, .ref b, .ref l, .int st] ∧ H x = some (.ins C dx []) ∧
  (SqF H a (ws.map V.str) ∨ SqL K H a (ws.map V.str)) ∧ SqL K H b (as.map V.ref) ∧ RowsAt H as rs ∧ SqL K H l (ss.map V.str) ∧ Parts ws rs ss st ∧ ∀ H', MachAt K C H' x ws rs ss st → Kept x H H' → Q .non H'
/-- what the class brings -/
structure Tm (K : PySem.W.Frag) (mg : Str → Option Value) (C : Addr) : Prop where
  cl : Cls K C
  nD : NoAttr K C "deeds"
  nR : NoAttr K C "rows"
  nT : NoAttr K C "tells"
  nS : NoAttr K C "start"
  mgC : mg "Machine" = some (.ref C)
theorem tup_any {K : PySem.W.Frag} {H : Hp} {a : Addr} {ys : List V} {Qf : V → Hp → Prop} (h : Sq K H a ys) (k : ∀ t H', SqT K H' t ys → Same H H' → Qf (.ref t) H') :
    (SqL K H a ys ∧ ∀ l, H l = none → Qf (.ref l) (upd H l (.tup ys))) ∨ (SqT K H a ys ∧ Qf (.ref a) H) := by
  rcases h with h | h
  · exact .inl ⟨h, fun l hl => k l _ (SqT.of upd_same) (same_upd hl)⟩
  · exact .inr ⟨h, k a H h (Same.refl H)⟩
theorem Kept.seqI {K : PySem.W.Frag} {x C dx : Addr} {fs : List (Str × V)} {H H' : Hp} {a : Addr} {xs : List V} (e : Kept x H H') (hx : H x = some (.ins C dx fs)) (h : SqL K H a xs) : SqL K H' a xs := by
  rcases h with (h | ⟨o, h⟩) | h
  · exact .inl (.inl (e _ _ h (ne_of h hx (by intro z; cases z))))
  · exact .inl (.inr ⟨o, e _ _ h (ne_of h hx (by intro z; cases z))⟩)
  · exact .inr h
theorem Kept.seqTI {K : PySem.W.Frag} {x C dx : Addr} {fs : List (Str × V)} {H H' : Hp} {a : Addr} {xs : List V} (e : Kept x H H') (hx : H x = some (.ins C dx fs)) (h : SqT K H a xs) : SqT K H' a xs := by
  rcases h with (h | ⟨o, h⟩) | h
  · exact .inl (.inl (e _ _ h (ne_of h hx (by intro z; cases z))))
  · exact .inl (.inr ⟨o, e _ _ h (ne_of h hx (by intro z; cases z))⟩)
  · exact .inr h
theorem Kept.seqFI {x C dx : Addr} {fs : List (Str × V)} {H H' : Hp} {a : Addr} {xs : List V} (e : Kept x H H') (hx : H x = some (.ins C dx fs)) (h : SqF H a xs) : SqF H' a xs := e.seqF hx (by intro o ys z; cases z) h
theorem Kept.rowsI {x C dx : Addr} {fs : List (Str × V)} {H H' : Hp} {as : List Addr} {rs : List (List Int)} (e : Kept x H H') (hx : H x = some (.ins C dx fs)) (h : RowsAt H as rs) : RowsAt H' as rs :=
  ⟨h.1, fun i a r e1 e2 => e _ _ (h.2 i a r e1 e2) (ne_of (h.2 i a r e1 e2) hx (by intro z; cases z))⟩
theorem Kept.self {x : Addr} {H : Hp} {o : HO} : Kept x H (L2.upd H x o) := fun b u e n => by rw [upd_ne n]; exact e
theorem RowsT.kept {x C dx : Addr} {fs : List (Str × V)} {H H' : Hp} {as : List Addr} {rs : List (List Int)} (e : Kept x H H') (hx : H x = some (.ins C dx fs)) (h : RowsT H as rs) : RowsT H' as rs :=
  ⟨h.1, fun i a r e1 e2 => e _ _ (h.2 i a r e1 e2) (ne_of (h.2 i a r e1 e2) hx (by intro z; cases z))⟩
theorem RowsT.snoc {H : Hp} {as : List Addr} {rs : List (List Int)} {a : Addr} {r : List Int} (h : RowsT H as rs) (e : H a = some (.tup (r.map V.int))) : RowsT H (as ++ [a]) (rs ++ [r]) := by
  refine ⟨by simp [h.1], fun i b q e1 e2 => ?_⟩
  by_cases hi : i < as.length
  · rw [List.getElem?_append_left hi] at e1
    rw [List.getElem?_append_left (by rw [← h.1]; exact hi)] at e2
    exact h.2 i b q e1 e2
  · rw [List.getElem?_append_right (by omega)] at e1
    rw [List.getElem?_append_right (by rw [← h.1]; omega), ← h.1] at e2
    cases hj : i - as.length with
    | zero =>
      rw [hj] at e1 e2
      simp at e1 e2
      rw [← e1, ← e2]; exact e
    | succ j => rw [hj] at e1; simp at e1
def rTu (K : PySem.W.Frag) : List V → Hp → VK → Prop := fun xs H Q => ∃ p ys, xs = [.ref p] ∧ ((SqL K H p ys ∧ ∀ l, H l = none → Q (.ref l) (upd H l (.tup ys))) ∨ (SqT K H p ys ∧ Q (.ref p) H))
section
variable {P : Program} {w : World} {K : PySem.W.Frag} {mg : Str → Option Value} {base : Heap}
abbrev pInit : List Str := ["self", "deeds", "rows", "tells", "start"]
abbrev nInit : List Str := ["self", "deeds", "rows", "tells", "start", "row"]
theorem scMInit : FnScope nInit pInit (defScope sMInit) := ⟨rfl, rfl, rfl, by decide +kernel, rfl, by decide +kernel, by decide +kernel⟩
abbrev MI (K : PySem.W.Frag) (f : Addr) (fd : FuncData) : Prop := FunD K "__init__" "Machine.__init__" (defArgs sMInit) (defBody sMInit) (defScope sMInit) [.int 0] [] f fd
theorem ok_minit {C f fCd fG fD fW fR fX fI fT fL : Addr} {fd fdCd fdG fdD fdW fdR fdX fdI fdT fdL : FuncData} (F : MI K f fd) (M : Tm K mg C) (T : Bt2 mg)
    (DCd : Df K mg "check_deeds" sCheckDeeds ["deeds"] fCd fdCd) (DG : Df K mg "check_group" sCheckGroup ["deeds"] fG fdG) (DD : Df K mg "check_different" sCheckDiff ["deeds"] fD fdD) (DW : Df K mg "is_word" sIsWord ["value"] fW fdW)
    (DR : Df K mg "check_rows" sCheckRows ["rows", "many"] fR fdR) (DX : Df K mg "is_index" sIsIndex ["value", "many"] fX fdX) (DI : Df K mg "is_integer" sIsInt ["value"] fI fdI)
    (DT : Df K mg "check_tells" sCheckTells ["tells", "many"] fT fdT) (DL : Df K mg "is_tell" sIsTell ["value"] fL fdL) : FnOk P w K mg base CX0 5 f fd pInit (spMInit K C) := by
  have GC : FnOk P w K mg base CX0 4 fCd fdCd ["deeds"] (spDeeds K) := ok_deeds DCd DG DD DW T
  have GR : FnOk P w K mg base CX0 3 fR fdR ["rows", "many"] (spRows K) := ok_rows DR DX DI T
  have GT : FnOk P w K mg base CX0 2 fT fdT ["tells", "many"] (spTells K) := ok_tells DT DL T
  have GX : FnOk P w K mg base CX0 2 fX fdX ["value", "many"] spIsIndex := ok_isindex DX DI T
  refine F.ok scMInit (fun vs H Q E h => ?_) (fun cdv A outer s H vs Q E hr h => ?_)
  · obtain ⟨x, dx, a, b, l, as, ws, rs, ss, st, rfl, _⟩ := h
    rfl
  · obtain ⟨x, dx, a, b, l, as, ws, rs, ss, st, rfl, hx, ha, hb, hR, hl, pt, k⟩ := h
    have hr2 : Room 2 _ := hr.mono (by decide)
    have hr3 : Room 3 _ := hr.mono (by decide)
    obtain ⟨t2, ht2, hq2⟩ : ∃ t2, PSs (cxOf CX0 P w K mg base nInit "Machine.__init__" (defScope sMInit) f cdv A outer s H E) ((defBody sMInit).drop 5) t2 ∧ ∀ (t : Addr) (H5 : Hp), H5 x = some (.ins C dx (putF "deeds" (.ref t) [])) →
        SqF H5 t (ws.map V.str) → SqL K H5 b (as.map V.ref) → RowsAt H5 as rs → SqL K H5 l (ss.map V.str) → Kept x H H5 → t2 { nx := fun _ H' => Q .non H', rt := Q } (start nInit [.ref x, .ref a, .ref b, .ref l, .int st]) H5 := by
      refine ⟨_, pss_cons (ps_fld (pv 0) (pe_callTy call_tuple_of (by rfl) T.tuple PyProof.Rows.boot_tuple (pa_cons (pe_lc (own := [("row", 5)]) (g := gName 5) (by rfl) scMInit.nd (pi_list (pv 2))
            (blkOk_by (own := [("row", 5)]) (N := nInit) (sc := defScope sMInit) (by decide +kernel)) (fun _ _ _ _ _ => pg_name (i := 5) scMInit.nd rfl (Or.inl rfl)) (fun _ _ _ _ _ => pts_nil)
            (fun _ _ _ _ _ => pe_callTy (r := rTu K) call_tuple_of (by rfl) T.tuple PyProof.Rows.boot_tuple (pa_cons (pv 5) pa_nil))) pa_nil)) rfl)
        (pss_cons (ps_fld (pv 0) (pe_callTy call_tuple_of (by rfl) T.tuple PyProof.Rows.boot_tuple (pa_cons (pv 3) pa_nil)) rfl)
        (pss_one (ps_fld (pv 0) (pv 4) rfl))), ?_⟩
      intro t H5 hx5 ht5 hb5 hR5 hl5 kk5
      refine ⟨_, rfl, b, rfl, ⟨_, hb5⟩, fun D hD => ?_⟩
      refine lc_list (K := K) (a := b) (xs := as.map V.ref) (fun i H' => Same H5 H' ∧ ∃ bs : List Addr, bs.length = i ∧ H' D = some (.lst (bs.map V.ref)) ∧ RowsT H' bs (rs.take i) ∧ ∀ q ∈ bs, q ≠ D) ?_ ?_ ?_ ?_
      · exact ⟨same_upd hD, [], rfl, upd_same, ⟨by simp, fun i a r e => by simp at e⟩, by simp⟩
      · exact fun i H' _ p => p.1.seq hb5
      · rintro i y H6 hi ⟨sm6, bs, hbs, hD6, hR6, hnD⟩
        rw [List.getElem?_map] at hi
        obtain ⟨ai, eai, rfl⟩ := Option.map_eq_some_iff.mp hi
        have hir : i < rs.length := by rw [← hR.1]; exact (List.getElem?_eq_some_iff.mp eai).1
        have eri : rs[i]? = some rs[i] := List.getElem?_eq_getElem hir
        have ha6 := sm6 _ _ (hR5.2 i ai _ eai eri)
        refine ⟨rfl, _, rfl, ai, _, rfl, .inl ⟨SqL.of ha6, fun q hq => ?_⟩⟩
        have nDq : D ≠ q := ne_of_none hD6 hq
        have h60 := pt.many.2
        refine ⟨_, (by rw [upd_ne nDq]; exact hD6), ?_, ?_, bs ++ [q], by simp [hbs], by rw [upd_same]; simp, ?_, ?_⟩
        · rw [List.length_map]; exact small1000 (by omega)
        · exact fun c o e => by rw [upd_ne (ne_of_none e hD), upd_ne (ne_of_none (sm6 _ _ e) hq)]; exact sm6 _ _ e
        · have e7 : RowsT (upd H6 q (.tup ((rs[i]).map V.int))) (bs ++ [q]) (rs.take i ++ [rs[i]]) := (hR6.same (same_upd hq)).snoc upd_same
          rw [List.take_add_one, eri]
          refine ⟨e7.1, fun j c r e1 e2 => ?_⟩
          have hm := List.mem_of_getElem? e1
          have : c ≠ D := by
            rcases List.mem_append.mp hm with h | h
            · exact hnD c h
            · rw [List.mem_singleton.mp h]; exact nDq.symm
          rw [upd_ne this]
          exact e7.2 j c r e1 e2
        · intro c hc
          rcases List.mem_append.mp hc with h | h
          · exact hnD c h
          · rw [List.mem_singleton.mp h]; exact nDq.symm
      · rintro H6 ⟨sm6, bs, hbs, hD6, hR6, hnD⟩
        have etk : rs.take (as.map V.ref).length = rs := by rw [List.length_map, hR.1, List.take_length]
        rw [etk] at hR6
        refine ⟨D, _, rfl, .inl ⟨SqL.of hD6, fun r hr7 => ?_⟩⟩
        have sr := same_upd (o := .tup (bs.map V.ref)) hr7
        have sm7 := sm6.trans sr
        have hx7 := sm7 _ _ hx5
        have hr7' : upd H6 r (.tup (bs.map V.ref)) r = some (.tup (bs.map V.ref)) := upd_same
        have hR7 := hR6.same sr
        have hl7 := sm7.seq hl5
        have ht7 := ht5.same sm7
        have kk7 : Kept x H (upd H6 r (.tup (bs.map V.ref))) := kk5.trans (.same sm7)
        generalize upd H6 r (.tup (bs.map V.ref)) = H7 at sm7 hx7 hr7' hR7 hl7 ht7 kk7 ⊢
        refine ⟨_, rfl, x, C, dx, _, rfl, hx7, M.cl, M.nR, (by show 1 < 1000; decide), ?_⟩
        have k8 : Kept x H7 (upd H7 x (.ins C dx (putF "rows" (.ref r) (putF "deeds" (.ref t) [])))) := Kept.self
        have hx8 : upd H7 x (.ins C dx (putF "rows" (.ref r) (putF "deeds" (.ref t) []))) x = some (.ins C dx (putF "rows" (.ref r) (putF "deeds" (.ref t) []))) := upd_same
        have hr8 := k8 _ _ hr7' (ne_of hr7' hx7 (by intro z; cases z))
        have hR8 := RowsT.kept k8 hx7 hR7
        have hl8 := k8.seqI hx7 hl7
        have ht8 := k8.seqFI hx7 ht7
        have kk8 := kk7.trans k8
        generalize upd H7 x (.ins C dx (putF "rows" (.ref r) (putF "deeds" (.ref t) []))) = H8 at k8 hx8 hr8 hR8 hl8 ht8 kk8 ⊢
        -- self.tells
        refine ⟨_, rfl, l, _, rfl, .inl ⟨hl8, fun l' hl9 => ?_⟩⟩
        have sl := same_upd (o := .tup (ss.map V.str)) hl9
        have hx9 := sl _ _ hx8
        have hl9' : upd H8 l' (.tup (ss.map V.str)) l' = some (.tup (ss.map V.str)) := upd_same
        have hr9 := sl _ _ hr8
        have hR9 := hR8.same sl
        have ht9 := ht8.same sl
        have kk9 : Kept x H (upd H8 l' (.tup (ss.map V.str))) := kk8.trans (.same sl)
        generalize upd H8 l' (.tup (ss.map V.str)) = H9 at hx9 hl9' hr9 hR9 ht9 kk9 ⊢
        refine ⟨_, rfl, x, C, dx, _, rfl, hx9, M.cl, M.nT, (by show 2 < 1000; decide), ?_⟩
        have k10 : Kept x H9 (upd H9 x (.ins C dx (putF "tells" (.ref l') (putF "rows" (.ref r) (putF "deeds" (.ref t) []))))) := Kept.self
        have hx10 : upd H9 x (.ins C dx (putF "tells" (.ref l') (putF "rows" (.ref r) (putF "deeds" (.ref t) [])))) x = some (.ins C dx (putF "tells" (.ref l') (putF "rows" (.ref r) (putF "deeds" (.ref t) [])))) := upd_same
        have hl10 := k10 _ _ hl9' (ne_of hl9' hx9 (by intro z; cases z))
        have hr10 := k10 _ _ hr9 (ne_of hr9 hx9 (by intro z; cases z))
        have hR10 := RowsT.kept k10 hx9 hR9
        have ht10 := k10.seqFI hx9 ht9
        have kk10 := kk9.trans k10
        generalize upd H9 x (.ins C dx (putF "tells" (.ref l') (putF "rows" (.ref r) (putF "deeds" (.ref t) [])))) = H10 at k10 hx10 hl10 hr10 hR10 ht10 kk10 ⊢
        -- self.start
        refine ⟨_, rfl, _, rfl, x, C, dx, _, rfl, hx10, M.cl, M.nS, (by show 3 < 1000; decide), ?_⟩
        have k11 : Kept x H10 (upd H10 x (.ins C dx (mf t r l' st))) := Kept.self
        exact k _ ⟨dx, t, r, l', bs, upd_same, k11.seqFI hx10 ht10, k11 _ _ hr10 (ne_of hr10 hx10 (by intro z; cases z)), RowsT.kept k11 hx10 hR10, k11 _ _ hl10 (ne_of hl10 hx10 (by intro z; cases z))⟩ (kk10.trans k11)
    have lnR : ∀ {H' : Hp}, Same H H' → LenV K (.ref b) H' rs.length := fun sm => .inl ⟨_, sm.seq hb, by rw [List.length_map, hR.1]⟩
    refine ⟨_, (pss_cons (ps_expr (pe_call GC hr rfl DCd.g DCd.F.kp DCd.b .nil pass0 (pa_cons (pv 1) pa_nil)))
      (pss_cons (ps_expr (pe_call GR hr3 rfl DR.g DR.F.kp DR.b .nil pass0 (pa_cons (pv 2) (pa_cons (pe_callB call_len (by rfl) T.len PySem.boot_len (pa_cons (pv 1) pa_nil)) pa_nil))))
      (pss_cons (ps_expr (pe_call GT hr2 rfl DT.g DT.F.kp DT.b .nil pass0 (pa_cons (pv 3) (pa_cons (pe_callB call_len (by rfl) T.len PySem.boot_len (pa_cons (pv 2) pa_nil)) pa_nil))))
      (pss_cons (ps_if (pt_not (pt_val (pe_call GX hr2 rfl DX.g DX.F.kp DX.b .nil pass0 (pa_cons (pv 4) (pa_cons (pe_callB call_len (by rfl) T.len PySem.boot_len (pa_cons (pv 2) pa_nil)) pa_nil))))) pss_never pss_nil)
      (pss_cons (ps_fld (pv 0) (pe_callTy (r := rTuF K) call_tuple_F (by rfl) T.tuple PyProof.Rows.boot_tuple (pa_cons (pv 1) pa_nil)) rfl) ht2))))), ?_⟩
    have has : Sq K H a (ws.map V.str) := ha.elim (fun z => .inr z.sq) .inl
    refine ⟨_, rfl, a, ws, rfl, has, pt.gd, fun H1 sm1 => ?_⟩
    refine ⟨_, rfl, _, rfl, _, ws.length, rfl, (by have := Sq.len (K := K) (has.same sm1); rwa [List.length_map] at this), b, ws.length, as, rs, rfl, sm1.seq hb, hR.same sm1, pt.many.1, pt.many.2, (by have := pt.gd.len.2; omega), pt.row, fun H2 sm2 => ?_⟩
    have s2 := sm1.trans sm2
    refine ⟨_, rfl, _, rfl, _, rs.length, rfl, lnR s2, l, ss, by rw [pt.tl.1]; rfl, s2.seq hl, pt.tl.2, by rw [pt.tl.1]; have := pt.many.2; omega, fun H3 sm3 => ?_⟩
    have s3 := s2.trans sm3
    refine ⟨_, rfl, _, rfl, _, rs.length, rfl, lnR s3, st, rs.length, rfl, pt.st.1, pt.st.2, true, rfl, ?_⟩
    refine iteF ?_
    have fin : ∀ (t : Addr) (H4 : Hp), SqF H4 t (ws.map V.str) → Same H3 H4 → t2 { nx := fun _ H' => Q .non H', rt := Q } (start nInit [.ref x, .ref a, .ref b, .ref l, .int st]) (upd H4 x (.ins C dx (putF "deeds" (.ref t) []))) := fun t H4 ht4 sm4 => by
      have s4 := s3.trans sm4
      have hx4 := s4 _ _ hx
      have k5 : Kept x H4 (upd H4 x (.ins C dx (putF "deeds" (.ref t) []))) := Kept.self
      exact hq2 t _ upd_same (k5.seqFI hx4 ht4) (k5.seqI hx4 (s4.seq hb)) (k5.rowsI hx4 (hR.same s4)) (k5.seqI hx4 (s4.seq hl)) ((Kept.same s4).trans k5)
    refine ⟨_, rfl, a, ws.map V.str, rfl, ?_⟩
    rcases ha with ha | ha
    · exact .inr ⟨(ha.same s3).sq, ⟨_, rfl, x, C, dx, _, rfl, s3 _ _ hx, M.cl, M.nD, (by show 0 < 1000; decide), fin a _ (ha.same s3) (Same.refl _)⟩⟩
    · refine .inl ⟨s3.seq ha, fun l0 o0 hl0 ho0 => ?_⟩
      have s4 := same_upd (o := .frz o0 (.tup (ws.map V.str))) hl0
      exact ⟨_, rfl, x, C, dx, _, rfl, s4 _ _ (s3 _ _ hx), M.cl, M.nD, (by show 0 < 1000; decide), fin l0 _ ⟨o0, upd_same, ho0⟩ s4⟩
end
end K1
set_option Elab.async false
set_option linter.all false
set_option maxRecDepth 100000
namespace K1
open PySem L2
abbrev sMade : Stmt := top 47
theorem pk_deeds (t r l : Addr) (s : Int) : valV (plainK t r l s) kDeeds = some (.ref t) := valV_pos rfl
theorem pk_rows (t r l : Addr) (s : Int) : valV (plainK t r l s) kRows = some (.ref r) := by
  have h1 : ¬ (kDeeds = kRows) := by decide +kernel
  unfold plainK; rw [valV_neg h1]; exact valV_pos rfl
theorem pk_tells (t r l : Addr) (s : Int) : valV (plainK t r l s) kTells = some (.ref l) := by
  have h1 : ¬ (kDeeds = kTells) := by decide +kernel
  have h2 : ¬ (kRows = kTells) := by decide +kernel
  unfold plainK; rw [valV_neg h1, valV_neg h2]; exact valV_pos rfl
theorem pk_start (t r l : Addr) (s : Int) : valV (plainK t r l s) kStart = some (.int s) := by
  have h1 : ¬ (kDeeds = kStart) := by decide +kernel
  have h2 : ¬ (kRows = kStart) := by decide +kernel
  have h3 : ¬ (kTells = kStart) := by decide +kernel
  unfold plainK; rw [valV_neg h1, valV_neg h2, valV_neg h3]; exact valV_pos rfl
theorem gDeeds {H : Hp} {p t r l : Addr} {s : Int} (h : H p = some (.dK (plainK t r l s))) : DGet H p (.str "deeds") (some (.ref t)) := by have := DGet.k (k := kDeeds) h; rw [pk_deeds] at this; exact this
theorem gRows {H : Hp} {p t r l : Addr} {s : Int} (h : H p = some (.dK (plainK t r l s))) : DGet H p (.str "rows") (some (.ref r)) := by have := DGet.k (k := kRows) h; rw [pk_rows] at this; exact this
theorem gTells {H : Hp} {p t r l : Addr} {s : Int} (h : H p = some (.dK (plainK t r l s))) : DGet H p (.str "tells") (some (.ref l)) := by have := DGet.k (k := kTells) h; rw [pk_tells] at this; exact this
theorem gStart {H : Hp} {p t r l : Addr} {s : Int} (h : H p = some (.dK (plainK t r l s))) : DGet H p (.str "start") (some (.int s)) := by have := DGet.k (k := kStart) h; rw [pk_start] at this; exact this
def spMade (K : PySem.W.Frag) (C : Addr) : Sp := fun vs H Q _ => ∃ (p : Addr) (ws : List Str) (rs : List (List Int)) (ss : List Str) (st : Int), vs = [.ref p] ∧ PlainAt H p ws rs ss st ∧ Parts ws rs ss st ∧
  ∀ (x : Addr) (H' : Hp), H x = none → MachAt K C H' x ws rs ss st → Same H H' → Q (.ref x) H'
section
variable {P : Program} {w : World} {K : PySem.W.Frag} {mg : Str → Option Value} {base : Heap}
abbrev nMade : List Str := ["_law_plain_here", "_law_row"]
theorem scMade : FnScope nMade ["_law_plain_here"] (defScope sMade) := ⟨rfl, rfl, rfl, by decide +kernel, rfl, by decide +kernel, by decide +kernel⟩
def rLi (K : PySem.W.Frag) : List V → Hp → VK → Prop := fun xs H Q => ∃ p ys, xs = [.ref p] ∧ (SqL K H p ys ∨ SqT K H p ys) ∧ ∀ l, H l = none → Q (.ref l) (upd H l (.lst ys))
theorem ok_made {C f fI : Addr} {fd fdI : FuncData} (D : Df K mg "_law_made" sMade ["_law_plain_here"] f fd) (M : Tm K mg C) (T : Bt2 mg) (Mk' : Mk K C fI) (GI : FnOk P w K mg base CX0 5 fI fdI pInit (spMInit K C)) (bI : Binds K fdI pInit []) : FnOk P w K mg base CX0 7 f fd ["_law_plain_here"] (spMade K C) := by
  refine D.F.ok scMade (fun vs H Q E h => ?_) (fun cdv A outer s H vs Q E hr h => ?_)
  · obtain ⟨p, ws, rs, ss, st, rfl, _⟩ := h
    rfl
  · obtain ⟨p, ws, rs, ss, st, rfl, ⟨t, r, l, as, hp, ht, hr', hl, hR⟩, pt, k⟩ := h
    have hu := hu_of hr
    refine ⟨_, pss_one (ps_ret (pe_make Mk' GI hr rfl M.mgC bI .nil pass0 (pa_cons (pe_dget hu (pv 0) pe_str (fun _ _ => rfl))
      (pa_cons (pe_lc (own := [("_law_row", 1)]) (g := gName 1) (by rfl) scMade.nd (pi_list (pe_dget hu (pv 0) pe_str (fun _ _ => rfl)))
            (blkOk_by (own := [("_law_row", 1)]) (N := nMade) (sc := defScope sMade) (by decide +kernel)) (fun _ _ _ _ _ => pg_name (i := 1) scMade.nd rfl (Or.inl rfl)) (fun _ _ _ _ _ => pts_nil)
            (fun _ _ _ _ _ => pe_callTy (r := rLi K) call_list_of (by rfl) T.list PyProof.Rows.boot_list (pa_cons (pv 1) pa_nil)))
      (pa_cons (pe_callTy call_list_of (by rfl) T.list PyProof.Rows.boot_list (pa_cons (pe_dget hu (pv 0) pe_str (fun _ _ => rfl)) pa_nil))
      (pa_cons (pe_dget hu (pv 0) pe_str (fun _ _ => rfl)) pa_nil)))))), ?_⟩
    refine ⟨_, rfl, p, _, rfl, gDeeds hp, _, rfl, p, _, rfl, gRows hp, r, rfl, ⟨_, SqL.of hr'⟩, fun D1 hD => ?_⟩
    refine lc_list (K := K) (a := r) (xs := as.map V.ref) (fun i H' => Same H H' ∧ ∃ bs : List Addr, bs.length = i ∧ H' D1 = some (.lst (bs.map V.ref)) ∧ RowsAt H' bs (rs.take i) ∧ ∀ q ∈ bs, q ≠ D1) ?_ ?_ ?_ ?_
    · exact ⟨same_upd hD, [], rfl, upd_same, ⟨by simp, fun i a r e => by simp at e⟩, by simp⟩
    · exact fun i H' _ q => SqL.of (q.1 _ _ hr')
    · rintro i y H6 hi ⟨sm6, bs, hbs, hD6, hR6, hnD⟩
      rw [List.getElem?_map] at hi
      obtain ⟨ai, eai, rfl⟩ := Option.map_eq_some_iff.mp hi
      have hir : i < rs.length := by rw [← hR.1]; exact (List.getElem?_eq_some_iff.mp eai).1
      have eri : rs[i]? = some rs[i] := List.getElem?_eq_getElem hir
      have ha6 := sm6 _ _ (hR.2 i ai _ eai eri)
      refine ⟨rfl, _, rfl, ai, _, rfl, .inl (SqL.of ha6), fun q hq => ?_⟩
      have nDq : D1 ≠ q := ne_of_none hD6 hq
      have h60 := pt.many.2
      refine ⟨_, (by rw [upd_ne nDq]; exact hD6), ?_, ?_, bs ++ [q], by simp [hbs], by rw [upd_same]; simp, ?_, ?_⟩
      · rw [List.length_map]; exact small1000 (by omega)
      · exact fun c o e => by rw [upd_ne (ne_of_none e hD), upd_ne (ne_of_none (sm6 _ _ e) hq)]; exact sm6 _ _ e
      · have e7 : RowsAt (upd H6 q (.lst ((rs[i]).map V.int))) (bs ++ [q]) (rs.take i ++ [rs[i]]) := (hR6.same (same_upd hq)).snoc upd_same
        rw [List.take_add_one, eri]
        refine ⟨e7.1, fun j c r e1 e2 => ?_⟩
        have hm := List.mem_of_getElem? e1
        have : c ≠ D1 := by
          rcases List.mem_append.mp hm with h | h
          · exact hnD c h
          · rw [List.mem_singleton.mp h]; exact nDq.symm
        rw [upd_ne this]
        exact e7.2 j c r e1 e2
      · intro c hc
        rcases List.mem_append.mp hc with h | h
        · exact hnD c h
        · rw [List.mem_singleton.mp h]; exact nDq.symm
    · rintro H6 ⟨sm6, bs, hbs, hD6, hR6, hnD⟩
      have etk : rs.take (as.map V.ref).length = rs := by rw [List.length_map, hR.1, List.take_length]
      rw [etk] at hR6
      refine ⟨_, rfl, p, _, rfl, gTells (sm6 _ _ hp), l, _, rfl, .inl (SqL.of (sm6 _ _ hl)), fun l2 hl2 => ?_⟩
      have sl := same_upd (o := .lst (ss.map V.str)) hl2
      have s7 := sm6.trans sl
      refine ⟨_, rfl, p, _, rfl, gStart (s7 _ _ hp), ?_⟩
      intro x dx hx hdx ndx
      have zx : H x = none := s7.free hx
      have s8 : Same (upd H6 l2 (.lst (ss.map V.str))) (upd (upd (upd H6 l2 (.lst (ss.map V.str))) dx (.own x)) x (.ins C dx [])) := fun b o e => by
        rw [upd_ne (ne_of_none e hx), upd_ne (ne_of_none e hdx)]; exact e
      refine ⟨x, dx, t, D1, l2, bs, ws, rs, ss, st, rfl, upd_same, (.inl ((ht.same s7).same s8)), SqL.of (s8 _ _ (sl _ _ hD6)), (hR6.same sl).same s8, SqL.of (s8 _ _ upd_same), pt, fun H9 hm hk => ⟨rfl, ?_⟩⟩
      exact k x H9 zx hm fun b o e => hk b o (s8 _ _ (s7 _ _ e)) (ne_of_none e zx)
end
end K1
set_option Elab.async false
set_option linter.all false
set_option maxRecDepth 100000
/-! the package's own errors: made from their fields, kept in their dict -/
namespace K1
open PySem L2
structure Oer (K : PySem.W.Frag) (mg : Str → Option Value) (x : Str) (fs : List Str) (C fI : Addr) (fd : FuncData) (qual : Str) (st : Stmt) : Prop where
  T : OexC K C
  xf : XfC K C
  g : mg x = some (.ref C)
  ini : PySem.W.findIn K (.ref C) "__init__" = some (some (.ref fI))
  tI : PySem.W.typeIn K (.ref fI) = some (.type "function")
  no : ∀ f ∈ fs, PySem.W.findIn K (.ref C) f = some none
  F : Fun K "__init__" qual st fI fd
  b : Binds K fd ("self" :: fs) []
def spIni (C : Addr) (fs : List Str) : Sp := fun vs H Q _ => ∃ (a : Addr) (ys : List V), vs = .ref a :: ys ∧ ys.length = fs.length ∧ H a = some (exo a C none) ∧
  ∀ dx, H dx = none → dx ≠ a → ∀ H', (∀ b o, H b = some o → b ≠ a → H' b = some o) → H' a = some (exo a C (some dx)) → H' dx = some (exd dx (fs.zip ys).reverse) → Q .non H'
/-- the reading of C(e, ..): d is the error's dict, new -/
theorem err_read {C : Addr} {fs : List Str} {vs : List V} {H1 : Hp} {Q : XK} (hl : fs.length ≤ 10) (e : vs.length = fs.length) (k : ∀ d G, Same H1 G → H1 d = none → G d = some (.xd (fs.zip vs).reverse) → Q (.ref C) (some d) G) :
    vs.length ≤ 1000 ∧ ∀ a, H1 a = none → spIni C fs (.ref a :: (vs ++ [])) (upd H1 a (exo a C none))
      (fun v H2 => v = .non ∧ ∃ (d : Addr) (gs : List (Str × V)), H2 a = some (exo a C (some d)) ∧ H2 d = some (exd d gs) ∧ H1 d = none ∧ Q (.ref C) (some d) (upd (del H2 a) d (.xd gs))) (fun _ _ _ => False) := by
  refine ⟨by omega, fun a ha => ?_⟩
  rw [List.append_nil]
  refine ⟨a, vs, rfl, e, upd_same, fun dx hdx ne H' keep ea ed => ⟨rfl, dx, _, ea, ed, ?_, ?_⟩⟩
  · rw [upd_ne ne] at hdx; exact hdx
  · have h1 : H1 dx = none := by rw [upd_ne ne] at hdx; exact hdx
    refine k dx _ (fun b o eb => ?_) h1 upd_same
    have nb : b ≠ a := ne_of_none eb ha
    rw [upd_ne (ne_of_none eb h1), del_ne nb]
    exact keep b o (by rw [upd_ne nb]; exact eb) nb
end K1
set_option Elab.async false
set_option linter.all false
set_option maxRecDepth 100000
/-! several clauses, each `except X as e`, of one name e -/
namespace K1
open PySem L2 PySem.Spec PyProof.Rows
def endsI (D : Ends) (i : Nat) : Ends := { nx := fun u G => D.nx (u.set i none) G, rt := D.rt, bk := fun u G => D.bk (u.set i none) G, ct := fun u G => D.ct (u.set i none) G }
def wAsAll (K : PySem.W.Frag) (i : Nat) (Wo : WX) (D : Ends) : List (Value × (Addr → Value → Option Addr → TS)) → WX
  | [] => Wo
  | p :: r => fun cl dd u G => ∃ b, PySem.W.exmOne K cl p.1 = some b ∧ (b = true → ∀ a, G a = none → p.2 a cl dd (endsI D i) (u.set i (some (.ref a))) G) ∧ (b = false → wAsAll K i Wo D r cl dd u G)
inductive AsOk (X : Cx) (n : Str) : List ExceptHandler → List (Value × (Addr → Value → Option Addr → TS)) → Prop
  | nil : AsOk X n [] []
  | cons {x : Str} {c : Value} {ts : Addr → Value → Option Addr → TS} {b₀ : Stmt} {suite : List Stmt} {np q : Pos} {hds : List ExceptHandler} {l : List (Value × (Addr → Value → Option Addr → TS))} (hc : Names X x c)
      (hsu : ∀ (a : Addr) (oe : Obj) (cl : Value) (dd : Option Addr) (pn : List (Addr × Obj)), Zc cl dd oe → (∃ vs, oe.data = .fields vs) → PSs (X.suite a ((a, oe) :: pn)) (b₀ :: suite) (ts a cl dd)) (r : AsOk X n hds l) :
      AsOk X n (.ExceptHandler (some (.Name x np)) (some n) (b₀ :: suite) q :: hds) ((c, ts) :: l)
section
variable {X : Cx} {n : Str} {i : Nat} {body : List Stmt} {h₀ : ExceptHandler} {hds : List ExceptHandler} {l : List (Value × (Addr → Value → Option Addr → TS))} {pos : Pos} {tb : WX → TS} {Wo : WX}
theorem ps_try_asAll (e0 : X.stack = X.env :: X.outer) (e1 : X.env.frame = some X.env.locals) (nd : X.N.Nodup) (hi : X.N[i]? = some n) (hln : X.env.kindOf n = some .local) (tk : Takes X Wo)
    (hb : ∀ (W : WX) (pn : List (Addr × Obj)) (xe : Value → Shared → Prop), Takes (X.tr pn xe) W → PassesOwn (model X.prog X.w) X.A X.env xe → PSs (X.tr pn xe) body (tb W))
    (hh : AsOk X n (h₀ :: hds) l) : PS X (.Try body (h₀ :: hds) [] [] pos) (fun D u G => tb (wAsAll X.K i Wo D l) D u G) := by
  refine ⟨fun pins s u G D I0 go0 => ?_⟩
  have ok := I0.ok
  have fr : X.A.frames = some (X.env :: X.outer) := by rw [ok.frames, e0]
  have lc : Loc X.env.scope n := .inl hln
  refine wpAny_Try_except ?_
  have run0 := (hb (wAsAll X.K i Wo D l) (X.pn ++ pins) (fun e s₁ => wpAny (model X.prog X.w) X.A (noteFrame e X.env) (fun _ s₂ => wpAny (model X.prog X.w) X.A (setFlight e none) (fun _ s₃ =>
    wpAny (model X.prog X.w) X.A (handleBy e X.env (h₀ :: hds)) (SP X pins D) X.xe s₃) X.xe s₂) X.xe s₁) (fun v s' xx => ?_) PassesOwn.looking).run [] s u G D (I0.toTry _) go0
  · refine wpAny_mono run0 (fun f s1 hsp => ?_) (fun e s1 he => he)
    cases f with
    | next => exact let ⟨u', G', J', q⟩ := hsp; wpAny_execs_nil ⟨u', G', J'.ofTry ok, q⟩
    | brk => exact let ⟨u', G', J', q⟩ := hsp; ⟨u', G', J'.ofTry ok, q⟩
    | cont => exact let ⟨u', G', J', q⟩ := hsp; ⟨u', G', J'.ofTry ok, q⟩
    | ret w => exact let ⟨v, u', G', J', r, q⟩ := hsp; ⟨v, u', G', J'.ofTry ok, r, q⟩
  · obtain ⟨a, B, sI, pins', u', G', cl, dd, rfl, J', nb, up, sky, na, os, ag, w⟩ := xx
    have J : Inv X pins u' G' sI := J'.ofTry ok
    have sk : Sky B (X.env :: X.outer) a (Zc cl dd) X.env.locals s'.heap := by rw [← e0]; exact sky
    show wpAny (model X.prog X.w) X.A (noteFrame (.ref a) X.env) _ _ _
    refine Sky.land Zc.steady fr e1 sk fun h3 fl3 up3 => ?_
    have J3 : Inv X pins u' G' { s' with heap := h3 } := J.landed nb fl3.1 (up.trans up3) os ag
    obtain ⟨oe3, vs3, he3, hz3, hd3⟩ := fl3.there
    have out : ∀ {h : Heap} {o : Obj} {vs : Array Value}, h.FunFrames B (X.env :: X.outer) → h.get? a = some o → o.data = .fields vs → a ∉ frs (X.env :: X.outer) := fun {h o vs} ff e hdt hm => by
      obtain ⟨_, o', e', hnf⟩ := ff.mem hm
      cases e.symm.trans e'
      exact hnf _ hdt
    have nfr := out fl3.2.2.1 he3 hd3
    have nL : a ≠ X.env.locals := fun z => nfr (List.mem_filterMap.mpr ⟨X.env, List.mem_cons_self, by rw [e1, z]⟩)
    have nF : a ∉ X.fs := fun hm => let ⟨e, he, q⟩ := List.mem_filterMap.mp hm; nfr (List.mem_filterMap.mpr ⟨e, List.mem_cons_of_mem _ he, q⟩)
    have S3 := J3.suite he3 hd3 na nL nF
    have go : ∀ {hs' : List ExceptHandler} {l' : List (Value × (Addr → Value → Option Addr → TS))}, AsOk X n hs' l' → wAsAll X.K i Wo D l' cl dd u' G' →
        wpAny (model X.prog X.w) X.A (handleBy (.ref a) X.env hs') (SP X pins D) X.xe { s' with heap := h3 } := by
      intro hs' l' hk
      induction hk with
      | nil =>
        intro w
        refine wpAny_handleBy_nil ?_
        obtain ⟨k1, k2, k3, oe, vs, T, oT, tz, he, hz, hd, h1, hr⟩ := id fl3
        unfold PySem.passOn
        refine wpAny_bind (wpAny_field he hd h1 ?_)
        rw [if_neg (show ¬ ((Value.ref T == Value.none) = true) by simp)]
        have fin : wpAny (model X.prog X.w) X.A (setFlight (.ref a) X.env.frame) (fun _ s4 => wpAny (model X.prog X.w) X.A (throw (.ref a) : Sem Flow) (SP X pins D) X.xe s4) X.xe { s' with heap := h3 } := by
          rw [e1]
          refine HandSPX.setFlight_upZ fl3 fun h4 hh4 up4 => wpAny_throw (tk _ _ ?_)
          exact ⟨a, B, sI, pins, u', G', cl, dd, rfl, J, nb, (up.trans up3).trans up4, .inr (.inr (by rw [e0]; exact hh4)), na, os, ag, w⟩
        first
          | exact wpAny_bind (wpAny_pure (wpAny_bind fin))
          | exact wpAny_bind fin
      | @cons x c ts b₀ suite np q0 hds2 l2 hc hsu r ih =>
        intro w
        obtain ⟨b, hb1, yes, no⟩ := w
        refine wpAny_handleBy_cons (codeAny_handlers_test ?_) (by intro q; cases q)
        have LT : PySem.W.Looks (model X.prog X.w) h3 (typeOf (.ref a)) cl := fun A Q E s k q => wpAny_typeOf_ref (k _ _ he3) (by rw [hz3.1]; exact q)
        have LM := PySem.W.exm_one (M := model X.prog X.w) (J3.kIn) LT hb1
        have test : ∀ {Q : Value → Shared → Prop} {E : Value → Shared → Prop}, Q c { s' with heap := h3 } → wpAny (model X.prog X.w) (X.A.mark (some (.ref a))) (eval (.Name x np) X.env) Q E { s' with heap := h3 } := fun {Q E} q => by
          rcases hc with ⟨hg, hdbg, hm | ⟨hm, hv, hnn⟩⟩
          · exact ld_glob (X := X.suite a ((a, oe3) :: (X.pn ++ pins))) S3 hg hm q hdbg
          · exact ld_blt (X := X.suite a ((a, oe3) :: (X.pn ++ pins))) S3 hg hm hv q hnn hdbg
        refine test (LM.here ?_)
        cases b with
        | true =>
          refine codeAny_handlers_suite_as (HandSPX.lands_againZ fl3 fun h4 fl4 up4 => ?_)
          have J4 : Inv X pins u' G' { s' with heap := h4 } := J.landed nb fl4.1 ((up.trans up3).trans up4) os ag
          obtain ⟨oe4, vs4, he4, hz4, hd4⟩ := fl4.there
          have S4 := J4.suite he4 hd4 na nL nF
          refine store_ok (X := X.suite a ((a, oe4) :: (X.pn ++ pins))) (v := .ref a) S4 nd hi lc rfl (fun s5 S5 => ?_) (.inr hln)
          refine wpAny_mono ((hsu a oe4 cl dd (X.pn ++ pins) hz4 ⟨_, hd4⟩).run [] s5 _ G' _ S5 (yes rfl a na)) (fun f s6 hsp => ?_) (fun _ _ z => False.elim z)
          have close : ∀ {u6 : L2.St} {G6 : Hp} {Q : Shared → Prop}, Inv (X.suite a ((a, oe4) :: (X.pn ++ pins))) [] u6 G6 s6 → (∀ s7, Inv X pins (u6.set i none) G6 s7 → Q s7) →
              wpAny (model X.prog X.w) X.A (do bindName X.env n .none; unbindBehindTheSuite X.env n q0) (fun _ s7 => Q s7) X.xe s6 := fun {u6 G6 Q} S6 hq => gone_ok (S6.unsuite ok) nd hi hln hq
          cases f with
          | next => exact let ⟨u6, G6, S6, q6⟩ := hsp; close S6 fun s7 J7 => ⟨_, _, J7, q6⟩
          | brk => exact let ⟨u6, G6, S6, q6⟩ := hsp; close S6 fun s7 J7 => ⟨_, _, J7, q6⟩
          | cont => exact let ⟨u6, G6, S6, q6⟩ := hsp; close S6 fun s7 J7 => ⟨_, _, J7, q6⟩
          | ret z => exact let ⟨v6, u6, G6, S6, r6, q6⟩ := hsp; close S6 fun s7 J7 => ⟨_, _, _, J7, r6, q6⟩
        | false =>
          show wpAny _ X.A (handleBy (.ref a) X.env hds2) _ _ _
          exact ih (no rfl)
    exact go hh w
end
end K1
set_option Elab.async false
set_option linter.all false
set_option maxRecDepth 100000
/-! repr of plain values; what is told of a making -/
namespace L2
open PySem PySem.Spec PyProof.Rows
def reprV : V → Str
  | .non => "None"
  | .bl b => if b then "True" else "False"
  | .int i => toString i
  | .str z => PySem.reprText z
  | _ => ""
def reprOk : V → Prop
  | .non => True
  | .bl _ => True
  | .int i => i.natAbs.log2 < 1920
  | .str z => (PySem.reprText z).length ≤ sizeLine
  | _ => False
def rRepr : List V → Hp → VK → Prop := fun xs H Q => ∃ v, xs = [v] ∧ reprOk v ∧ Q (.str (reprV v)) H
theorem call_repr_any {X : Cx} : CallR X (.builtin "repr") rRepr := by
  intro pins s σ H xs us Q I r h
  obtain ⟨v, rfl, ok, q⟩ := h
  cases v with
  | non =>
    obtain ⟨u, rfl, rv⟩ := vals1 r
    obtain rfl : u = Value.none := rv
    exact PySem.P.repr_of_none ⟨.str _, H, I.tok _, ⟨_, rfl⟩, q⟩
  | bl b =>
    obtain ⟨u, rfl, rv⟩ := vals1 r
    obtain rfl : u = Value.bool b := rv
    exact PySem.P.repr_of_bool ⟨.str _, H, I.tok _, ⟨_, rfl⟩, q⟩
  | int i =>
    obtain ⟨u, rfl, t, rfl⟩ := vals1 r
    exact PySem.P.repr_of_int ok ⟨.str _, H, I.tok _, ⟨_, rfl⟩, q⟩
  | str z =>
    obtain ⟨u, rfl, t, rfl⟩ := vals1 r
    exact PySem.P.repr_of_str ⟨.str _, H, I.tok _, ⟨_, rfl⟩, q⟩ ok
  | _ => exact ok.elim
end L2
set_option Elab.async false
set_option linter.all false
set_option maxRecDepth 100000
/-! what counts as an integer, an index, a word, a tell: of any value -/
namespace K1
open PySem L2
inductive Th (K : PySem.W.Frag) (H : Hp) : V → String → Prop
  | non : Th K H .non "NoneType"
  | bl (b : Bool) : Th K H (.bl b) "bool"
  | int (i : Int) : Th K H (.int i) "int"
  | str (z : Str) (hl : z.length ≤ 1000) : Th K H (.str z) "str"
  | tup {a : Addr} {xs : List V} (e : H a = some (.tup xs)) : Th K H (.ref a) "tuple"
  | lst {a : Addr} {xs : List V} (e : H a = some (.lst xs)) : Th K H (.ref a) "list"
  | dic {a : Addr} {kv : List (Key × V)} (e : H a = some (.dK kv)) : Th K H (.ref a) "dict"
theorem Th.ty {K : PySem.W.Frag} {H : Hp} {v : V} {t : String} (h : Th K H v t) : TyX K H v (.type t) := by
  cases h with
  | non => exact .base .non
  | bl b => exact .base (.bl b)
  | int i => exact .base (.int i)
  | str z => exact .base (.str z)
  | tup e => exact .base (.tup e)
  | lst e => exact .base (.lst e)
  | dic e => exact .base (.dK e)
theorem Th.same {K : PySem.W.Frag} {H H' : Hp} {v : V} {t : String} (h : Th K H v t) (s : Same H H') : Th K H' v t := by
  cases h with
  | non => exact .non
  | bl b => exact .bl b
  | int i => exact .int i
  | str z hl => exact .str z hl
  | tup e => exact .tup (s _ _ e)
  | lst e => exact .lst (s _ _ e)
  | dic e => exact .dic (s _ _ e)
def isStr : V → Bool | .str _ => true | _ => false
def isInt : V → Bool | .int _ => true | .bl _ => true | _ => false
def isBl : V → Bool | .bl _ => true | _ => false
def intB : V → Bool | .int _ => true | _ => false
def ixB (v : V) (m : Int) : Bool := match v with | .int i => decide (0 ≤ i) && decide (i < m) | _ => false
def wordL : List Nat → Bool
  | [] => false
  | c :: r => decide ((c :: r).length ≤ 12) && (decide (c ∈ LE) && (c :: r).all fun x => decide (x ∈ AL))
def wordB : V → Bool | .str z => wordL z.cps.toList | _ => false
def tellL (l : List Nat) : Bool := decide (1 ≤ l.length) && (decide (l.length ≤ 60) && l.all fun x => decide (x ∈ TL'))
def tellB : V → Bool | .str z => tellL z.cps.toList | _ => false
section
variable {K : PySem.W.Frag} {H : Hp} {v : V} {t : String}
theorem Th.kStr (h : Th K H v t) : PySem.W.kitOne K (.type t) (.type "str") = some (isStr v) := by cases h <;> first | exact kit_ty (r := true) (by decide +kernel) | exact kit_ty (r := false) (by decide +kernel)
theorem Th.kInt (h : Th K H v t) : PySem.W.kitOne K (.type t) (.type "int") = some (isInt v) := by cases h <;> first | exact kit_ty (r := true) (by decide +kernel) | exact kit_ty (r := false) (by decide +kernel)
theorem Th.kBl (h : Th K H v t) : PySem.W.kitOne K (.type t) (.type "bool") = some (isBl v) := by cases h <;> first | exact kit_ty (r := true) (by decide +kernel) | exact kit_ty (r := false) (by decide +kernel)
end
def spInt (K : PySem.W.Frag) : Sp := fun vs H Q _ => ∃ v t, vs = [v] ∧ Th K H v t ∧ Q (.bl (intB v)) H
def spIx (K : PySem.W.Frag) : Sp := fun vs H Q _ => ∃ v t m, vs = [v, .int m] ∧ Th K H v t ∧ Q (.bl (ixB v m)) H
def spWord (K : PySem.W.Frag) : Sp := fun vs H Q _ => ∃ v t, vs = [v] ∧ Th K H v t ∧ ∀ H', Same H H' → Q (.bl (wordB v)) H'
def spTell (K : PySem.W.Frag) : Sp := fun vs H Q _ => ∃ v t, vs = [v] ∧ Th K H v t ∧ ∀ H', Same H H' → Q (.bl (tellB v)) H'
section
variable {P : Program} {w : World} {K : PySem.W.Frag} {mg : Str → Option Value} {base : Heap}
theorem g_isint {f : Addr} {fd : FuncData} (D : Df K mg "is_integer" sIsInt ["value"] f fd) (T : Bt2 mg) : FnOk P w K mg base CX0 1 f fd ["value"] (spInt K) := by
  refine D.F.ok scIsInt (fun vs H Q E h => ?_) (fun cdv A outer s H vs Q E hr h => ?_)
  · obtain ⟨v, t, rfl, _⟩ := h
    rfl
  · obtain ⟨v, t, rfl, th, k⟩ := h
    refine ⟨_, pss_one (ps_ret (pe_and (pe_callB call_isi (by rfl) T.isinstance PyProof.Rows.boot_isinstance (pa_cons (pv 0) (pa_cons (pe_bltn (v := .ty "int") (by rfl) T.int PyProof.Rows.boot_int rfl) pa_nil)))
      (pe_one (pe_not (pe_callB call_isi (by rfl) T.isinstance PyProof.Rows.boot_isinstance (pa_cons (pv 0) (pa_cons (pe_bltn (v := .ty "bool") (by rfl) T.bool PyProof.Rows.boot_bool rfl) pa_nil))))))), ?_⟩
    refine ⟨_, rfl, _, _, _, _, isInt v, rfl, .ty "int", th.ty, th.kInt, isInt v, rfl, ?_⟩
    cases v with
    | int i => exact ⟨_, rfl, _, _, _, _, false, rfl, .ty "bool", th.ty, th.kBl, false, rfl, k⟩
    | bl b => exact ⟨_, rfl, _, _, _, _, true, rfl, .ty "bool", th.ty, th.kBl, true, rfl, k⟩
    | _ => exact k
theorem g_isindex {f fI : Addr} {fd fdI : FuncData} (D : Df K mg "is_index" sIsIndex ["value", "many"] f fd) (DI : Df K mg "is_integer" sIsInt ["value"] fI fdI) (T : Bt2 mg) : FnOk P w K mg base CX0 2 f fd ["value", "many"] (spIx K) := by
  have GI : FnOk P w K mg base CX0 1 fI fdI ["value"] (spInt K) := g_isint DI T
  refine D.F.ok scIsIndex (fun vs H Q E h => ?_) (fun cdv A outer s H vs Q E hr h => ?_)
  · obtain ⟨v, t, m, rfl, _⟩ := h
    rfl
  · obtain ⟨v, t, m, rfl, th, k⟩ := h
    refine ⟨_, pss_one (ps_ret (pe_and (pe_call GI hr rfl DI.g DI.F.kp DI.b .nil pass0 (pa_cons (pv 0) pa_nil)) (pe_one (pe_chain op_le op_lt pe_int (pv 0) (pv 1))))), ?_⟩
    refine ⟨_, rfl, v, t, rfl, th, intB v, rfl, ?_⟩
    cases v with
    | int i =>
      refine ⟨_, rfl, _, _, rfl, rfl, _, rfl, ?_⟩
      refine ite2 (fun h => ?_) (fun h => ?_)
      · refine ⟨_, rfl, _, _, rfl, rfl, ?_⟩
        have e : ixB (.int i) m = decide (i < m) := by
          show (decide (0 ≤ i) && decide (i < m)) = _
          rw [h]; rfl
        rw [e] at k
        exact k
      · have e : ixB (.int i) m = false := by
          show (decide (0 ≤ i) && decide (i < m)) = _
          rw [Bool.eq_false_iff.mpr h]; rfl
        rw [e] at k
        exact k
    | _ => exact k
end
end K1
set_option Elab.async false
set_option linter.all false
set_option maxRecDepth 100000
namespace K1
open PySem L2
/-- the signs of z held against a row of signs, one after the other -/
theorem all_signs {K : PySem.W.Frag} (A : List Nat) (l : List Nat) : ((l.map fun x => decide (x ∈ A)).all id) = l.all fun x => decide (x ∈ A) := by
  rw [List.all_map]; rfl
theorem take_snoc {l : List Nat} {i : Nat} {c : Nat} (h : l[i]? = some c) : l.take (i + 1) = l.take i ++ [c] := by
  rw [List.take_add_one, h]; rfl
section
variable {P : Program} {w : World} {K : PySem.W.Frag} {mg : Str → Option Value} {base : Heap}
theorem g_isword {f : Addr} {fd : FuncData} (D : Df K mg "is_word" sIsWord ["value"] f fd) (T : Bt2 mg) : FnOk P w K mg base CX0 1 f fd ["value"] (spWord K) := by
  refine D.F.ok scIsWord (fun vs H Q E h => ?_) (fun cdv A outer s H vs Q E hr h => ?_)
  · obtain ⟨v, t, rfl, _⟩ := h
    rfl
  · obtain ⟨v, t, rfl, th, k⟩ := h
    obtain ⟨tL, gL⟩ := T.LETTERS
    obtain ⟨tD, gD⟩ := T.DIGITS
    obtain ⟨tW, gW⟩ := T.LONGEST_WORD
    refine ⟨_, pss_cons (ps_if (PW.pt (pw_or (pt_not (pt_val (pe_callB call_isi (by rfl) T.isinstance PyProof.Rows.boot_isinstance (pa_cons (pv 0) (pa_cons (pe_bltn (v := .ty "str") (by rfl) T.str PyProof.Rows.boot_str rfl) pa_nil)))))
          (pw_or1 (pt_not (pt_chain op_le op_le pe_int (pe_callB call_len_str (by rfl) T.len PySem.boot_len (pa_cons (pv 0) pa_nil)) (pe_glob (v := .int 12) rfl gW ⟨_, rfl⟩))))))
        (pss_one (ps_ret pe_bl)) pss_nil)
      (pss_one (ps_ret (pe_and (pe_cmpR op_in_sign (pe_ix ix_str (pv 0) pe_int (fun _ _ => rfl)) (pe_glob (v := .str zLE) rfl gL ⟨_, rfl⟩) rfl)
        (pe_one (pe_callB (cr_all rfl) (by rfl) T.all PyProof.Rows.boot_all (pa_cons (pe_lc (own := [("sign", 1)]) (g := gName 1) (by rfl) scIsWord.nd (pi_str (pv 0))
          (blkOk_by (own := [("sign", 1)]) (N := ["value", "sign"]) (sc := defScope sIsWord) (by decide +kernel)) (fun _ _ _ _ _ => pg_name (i := 1) scIsWord.nd rfl (Or.inl rfl)) (fun _ _ _ _ _ => pts_nil)
          (fun _ _ _ _ _ => pe_cmpR op_in_sign (pv 1) (pe_op op_add_str (pe_glob (v := .str zLE) rfl gL ⟨_, rfl⟩) (pe_glob (v := .str zDG) rfl gD ⟨_, rfl⟩)) rfl)) pa_nil)))))), ?_⟩
    refine ⟨_, rfl, _, _, _, _, isStr v, rfl, .ty "str", th.ty, th.kStr, isStr v, rfl, ?_⟩
    cases th with
    | str z hl1 =>
      refine iteF ?_
      have hzl : z.length ≤ sizeLine := Nat.le_trans hl1 (by decide)
      have elen : z.length = z.cps.toList.length := len_tl z
      refine ⟨_, rfl, _, rfl, hzl, _, _, rfl, rfl, _, rfl, ?_⟩
      refine ite2 (fun h1 => ?_) (fun h1 => ?_)
      · have h1' : (1 : Int) ≤ (z.length : Int) := of_decide_eq_true h1
        refine ⟨_, _, rfl, rfl, _, rfl, ?_⟩
        refine ite2 (fun h2 => ?_) (fun h2 => ?_)
        · have e : wordB (.str z) = false := by
            have hn : ¬ z.cps.toList.length ≤ 12 := by
              intro hc
              have : decide ((z.length : Int) ≤ 12) = true := decide_eq_true (by omega)
              rw [this] at h2; exact absurd h2 (by decide)
            show wordL z.cps.toList = false
            cases hz : z.cps.toList with
            | nil => rfl
            | cons c r => rw [hz] at hn; show (decide _ && _) = false; rw [decide_eq_false hn]; rfl
          have := k H (Same.refl H)
          rw [e] at this
          exact this
        · have h12 : z.cps.toList.length ≤ 12 := by
            have : decide ((z.length : Int) ≤ 12) = true := by
              cases hd : decide ((z.length : Int) ≤ 12) with
              | true => rfl
              | false => rw [hd] at h2; exact absurd rfl h2
            have := of_decide_eq_true this
            omega
          obtain ⟨c, r, ez⟩ : ∃ c r, z.cps.toList = c :: r := by
            cases hz : z.cps.toList with
            | nil => rw [hz] at elen; simp at elen; omega
            | cons c r => exact ⟨c, r, rfl⟩
          have ew : wordB (.str z) = (decide (c ∈ LE) && z.cps.toList.all fun x => decide (x ∈ AL)) := by
            show wordL z.cps.toList = _
            rw [ez]
            show (decide _ && _) = _
            rw [ez] at h12
            rw [decide_eq_true h12]; rfl
          refine ⟨_, rfl, z, _, c, rfl, rfl, hzl, ?_, c, zLE, rfl, rfl, decide (c ∈ LE), rfl, ?_⟩
          · rw [ez]; exact atI_nat (j := 0) rfl
          refine ite2 (fun hc => ?_) (fun hc => ?_)
          · refine ⟨_, rfl, z, rfl, fun D hD => ?_⟩
            refine lc_it (walk_str (z := z)) (fun i H' => Same H H' ∧ H' D = some (.lst ((((z.cps.toList.take i).map fun x => decide (x ∈ AL))).map V.bl))) ?_ ?_ ?_ ?_
            · exact ⟨same_upd hD, upd_same⟩
            · exact fun _ _ _ _ => trivial
            · rintro i x H1 H2 hi ⟨sm, hD1⟩ ⟨rfl, c', hc', rfl⟩
              have hi' : z.cps.toList[i]? = some c' := by simpa using hc'
              refine ⟨rfl, _, rfl, _, _, rfl, rfl, by decide +kernel, c', zLE ++ zDG, rfl, rfl, _, hD1, ?_, ?_, ?_⟩
              · rw [List.length_map, List.length_map, List.length_take]; exact small1000 (by omega)
              · exact fun b o e => by rw [upd_ne (ne_of_none e hD)]; exact sm b o e
              · rw [upd_same, take_snoc hi']
                simp [AL_eq]
            · rintro H1 ⟨sm, hD1⟩
              refine ⟨D, _, rfl, SqL.of hD1, ?_⟩
              have e : ((z.cps.toList.take z.cps.size).map fun x => decide (x ∈ AL)).all id = wordB (.str z) := by
                have hs : z.cps.size = z.cps.toList.length := by simp
                rw [hs, List.take_length, all_signs (K := K), ew, hc]; rfl
              rw [e]
              exact k H1 sm
          · have e : wordB (.str z) = decide (c ∈ LE) := by
              rw [ew, Bool.eq_false_iff.mpr hc]; rfl
            have := k H (Same.refl H)
            rw [e] at this
            have e2 := Bool.eq_false_iff.mpr hc
            rw [e2] at this
            exact this
      · have e : wordB (.str z) = false := by
          have hn : z.cps.toList = [] := by
            cases hz : z.cps.toList with
            | nil => rfl
            | cons c r => exact absurd (decide_eq_true (by rw [elen, hz]; simp; omega)) h1
          show wordL z.cps.toList = false
          rw [hn]; rfl
        have := k H (Same.refl H)
        rw [e] at this
        exact ⟨_, rfl, this⟩
    | _ => exact k H (Same.refl H)
end
end K1
set_option Elab.async false
set_option linter.all false
set_option maxRecDepth 100000
set_option maxHeartbeats 2000000
/-! a lambda handed to a def that calls it in a try: what is raised is told of the very slots -/
namespace K1
open PySem PySem.Spec PyProof.Rows L2 LamX
/-- a def whose code object is known -/
structure FunC (K : PySem.W.Frag) (x qual : Str) (st : Stmt) (f : Addr) (fd : FuncData) (c : Addr) : Prop where
  ex : ∃ (oc : Value) (od : Option Addr) (kV doc pm : Value) (an : Option Addr) (ct : Value) (osl : Array (Option Value)),
    fd = PySem.W.fnOf x qual (defArgs st) (defBody st) (defScope st) .none kV doc pm an (.ref c) ct ∧ K.lookup f = some ⟨oc, od, .func fd, osl⟩ ∧ PySem.W.codeIn K (.ref c) qual = true
  kp : PySem.W.keepIn K (.ref f) = true
theorem FunC.toFun {K : PySem.W.Frag} {x qual : Str} {st : Stmt} {f c : Addr} {fd : FuncData} (F : FunC K x qual st f fd c) : L2.Fun K x qual st f fd :=
  let ⟨oc, od, kV, doc, pm, an, ct, osl, e, l, cc⟩ := F.ex
  ⟨⟨oc, od, kV, doc, pm, an, _, ct, osl, e, l, cc⟩, F.kp⟩
section
variable {P : Program} {w : World} {K : PySem.W.Frag} {mg : Str → Option Value} {base : Heap}
theorem FunC.ok {x qual : Str} {st : Stmt} {f c : Addr} {fd : FuncData} {N ps : List Str} {k : Nat} {sp : Sp} (F : FunC K x qual st f fd c) (S : FnScope N ps (defScope st)) (len : ∀ vs H Q E, sp vs H Q E → vs.length = ps.length)
    (body : ∀ (A : Around) (outer : List Env) (s : Shared) (H : Hp) (vs : List V) (Q : VK) (E : XK), Room k (A.deeper (envOfC qual (defScope st) s.heap.objs.size f (.ref c))) → sp vs H Q E →
      ∃ t, PSs (cxOf L2.CX0 P w K mg base N qual (defScope st) f (.ref c) A outer s H E).nox (defBody st) t ∧ t { nx := fun _ H' => Q .non H', rt := Q } (L2.start N vs) H) : FnOk P w K mg base L2.CX0 (k + 1) f fd ps sp := by
  obtain ⟨oc, od, kV, doc, pm, an, ct, osl, rfl, l, cc⟩ := F.ex
  exact fn_of l cc S len fun A outer s H vs Q E hr h => (body A outer s H vs Q E hr h).imp fun t ht => ⟨ht.1.nox, ht.2⟩
end
end K1
namespace LamX
open PySem L2 K1
/-! what is kept when a lambda is made -/
theorem ExtN.tup {H H' : Hp} (e : ExtN H H') {a : Addr} {xs : List V} (h : H a = some (.tup xs)) : H' a = some (.tup xs) := e _ _ h fun ps => by intro z; cases z
theorem ExtN.lst {H H' : Hp} (e : ExtN H H') {a : Addr} {xs : List V} (h : H a = some (.lst xs)) : H' a = some (.lst xs) := e _ _ h fun ps => by intro z; cases z
theorem ExtN.ins {H H' : Hp} (e : ExtN H H') {a C dx : Addr} {fs : List (Str × V)} (h : H a = some (.ins C dx fs)) : H' a = some (.ins C dx fs) := e _ _ h fun ps => by intro z; cases z
theorem ExtN.dk {H H' : Hp} (e : ExtN H H') {a : Addr} {kv : List (Key × V)} (h : H a = some (.dK kv)) : H' a = some (.dK kv) := e _ _ h fun ps => by intro z; cases z
theorem ExtN.seqT {K : PySem.W.Frag} {H H' : Hp} {a : Addr} {xs : List V} (e : ExtN H H') (h : SqT K H a xs) : SqT K H' a xs := by
  rcases h with (h | ⟨o, h⟩) | h
  · exact .inl (.inl (e.tup h))
  · exact .inl (.inr ⟨o, e _ _ h fun ps => by intro z; cases z⟩)
  · exact .inr h
theorem ExtN.seqL {K : PySem.W.Frag} {H H' : Hp} {a : Addr} {xs : List V} (e : ExtN H H') (h : SqL K H a xs) : SqL K H' a xs := by
  rcases h with (h | ⟨o, h⟩) | h
  · exact .inl (.inl (e.lst h))
  · exact .inl (.inr ⟨o, e _ _ h fun ps => by intro z; cases z⟩)
  · exact .inr h
theorem ExtN.pen {H H' : Hp} (e : ExtN H H') {d c : Addr} {n : Nat} (h : PenAt H d c n) : PenAt H' d c n := by
  obtain ⟨ns, a, l, h1, h2, h3⟩ := h
  exact ⟨ns, a, l, e.dk h1, e.lst h2, h3⟩
end LamX
namespace K1
open PySem PySem.Spec PyProof.Rows L2 LamX
/-- all but d and the tables is kept -/
def KeptN (d : Addr) (H H' : Hp) : Prop := ∀ b o, H b = some o → b ≠ d → (∀ ps, o ≠ .tbl ps) → H' b = some o
theorem KeptN.refl (d : Addr) (H : Hp) : KeptN d H H := fun _ _ e _ _ => e
theorem KeptN.trans {d : Addr} {H H1 H2 : Hp} (a : KeptN d H H1) (b : KeptN d H1 H2) : KeptN d H H2 := fun c o e n m => b c o (a c o e n m) n m
theorem KeptN.seqL {K : PySem.W.Frag} {d : Addr} {H H' : Hp} {a : Addr} {xs : List V} (e : KeptN d H H') (n : a ≠ d) (h : SqL K H a xs) : SqL K H' a xs := by
  rcases h with (h | ⟨o, h⟩) | h
  · exact .inl (.inl (e _ _ h n fun ps => by intro z; cases z))
  · exact .inl (.inr ⟨o, e _ _ h n fun ps => by intro z; cases z⟩)
  · exact .inr h
theorem KeptN.seqT {K : PySem.W.Frag} {d : Addr} {H H' : Hp} {a : Addr} {xs : List V} (e : KeptN d H H') (n : a ≠ d) (h : SqT K H a xs) : SqT K H' a xs := by
  rcases h with (h | ⟨o, h⟩) | h
  · exact .inl (.inl (e _ _ h n fun ps => by intro z; cases z))
  · exact .inl (.inr ⟨o, e _ _ h n fun ps => by intro z; cases z⟩)
  · exact .inr h
theorem KeptN.upd {d D : Addr} {H0 H : Hp} {o : HO} (k : KeptN d H0 H) (h : H0 D = none) : KeptN d H0 (upd H D o) := fun b u e nb m => by
  rw [upd_ne (ne_of_none e h)]; exact k b u e nb m
theorem KeptN.tup {d : Addr} {H H' : Hp} {a : Addr} {xs : List V} (e : KeptN d H H') (n : a ≠ d) (h : H a = some (.tup xs)) : H' a = some (.tup xs) := e _ _ h n fun ps => by intro z; cases z
theorem KeptN.lst {d : Addr} {H H' : Hp} {a : Addr} {xs : List V} (e : KeptN d H H') (n : a ≠ d) (h : H a = some (.lst xs)) : H' a = some (.lst xs) := e _ _ h n fun ps => by intro z; cases z
theorem KeptN.ins {d : Addr} {H H' : Hp} {a C dx : Addr} {fs : List (Str × V)} (e : KeptN d H H') (n : a ≠ d) (h : H a = some (.ins C dx fs)) : H' a = some (.ins C dx fs) := e _ _ h n fun ps => by intro z; cases z
theorem Kept.n {d : Addr} {H H' : Hp} (k : Kept d H H') : KeptN d H H' := fun b o e n _ => k b o e n
end K1
namespace LamX
open PySem L2 K1
theorem ExtN.n {d : Addr} {H H' : Hp} (k : ExtN H H') : KeptN d H H' := fun b o e _ m => k b o e m
theorem Tabs.kept {T : List (Addr × Str)} {d : Addr} {kv : List (Key × V)} {H H' : Hp} (t : Tabs T H) (hd : H d = some (.dK kv)) (k : Kept d H H') : Tabs T H' := fun p hp => by
  obtain ⟨ps, h1, h2, h3⟩ := t p hp
  refine ⟨ps, k _ _ h1 (ne_of h1 hd (by intro z; cases z)), h2, fun pos cv hc => ?_⟩
  obtain ⟨c, e1, e2⟩ := h3 pos cv hc
  exact ⟨c, e1, k _ _ e2 (ne_of e2 hd (by unfold CodeO; intro z; cases z))⟩
theorem Tabs.same {T : List (Addr × Str)} {H H' : Hp} (t : Tabs T H) (s : L2.Same H H') : Tabs T H' := t.ext s
theorem Tabs.updL {T : List (Addr × Str)} {H : Hp} {L : Addr} {xs ys : List V} (t : Tabs T H) (h : H L = some (.lst xs)) : Tabs T (upd H L (.lst ys)) := fun p hp => by
  obtain ⟨ps, h1, h2, h3⟩ := t p hp
  refine ⟨ps, by rw [upd_ne (ne_of h1 h (by intro z; cases z))]; exact h1, h2, fun pos cv hc => ?_⟩
  obtain ⟨c, e1, e2⟩ := h3 pos cv hc
  exact ⟨c, e1, by rw [upd_ne (ne_of e2 h (by unfold CodeO; intro z; cases z))]; exact e2⟩
theorem Tabs.pen {T : List (Addr × Str)} {d c : Addr} {n : Nat} {H H' : Hp} (t : Tabs T H) (p : PenAt H d c n) (k : Kept d H H') : Tabs T H' := by
  obtain ⟨ns, x, l, hd, _⟩ := p
  exact t.kept hd k
end LamX
namespace K1
open PySem PySem.Spec PyProof.Rows L2 LamX
section
variable {X : Cx} {pins : List (Addr × Obj)} {σ : L2.St} {H : Hp} {s : Shared}
/-- the call of the handed lambda; what it raises is taken at the slots as they are -/
theorem pe_actS {GX : CXT} {GE : XK} {GN : List Str} {gq : Str} {gs : Scope} {g f c' : Addr} {gcd pm ctv : Value} {params : Arguments} {body : Expr} {scope : Scope} {k i : Nat} {a : Str} {pn : List (Addr × Obj)} {xe : Value → Shared → Prop} {W : WX} {tb : XK → TE} {p1 p2 : Pos}
    (I : Inv X pins σ H s) (L : LamS X.env.scope scope) (hf : s.heap.get? f = some (PySem.W.kla_obj "<lambda>" (X.env.qual ++ "<lambda>") params body scope (cloFrom X.env.cells scope.names []) pm c' ctv)) (hfn : H f = none) (hfr : f ∉ frs X.stack)
    (bind0 : bindArgs (PySem.W.kla_fn "<lambda>" (X.env.qual ++ "<lambda>") params body scope (cloFrom X.env.cells scope.names []) pm (.ref c') ctv) ⟨[], []⟩ = pure [])
    (tk : Takes ((cxOf GX X.prog X.w X.K X.mg X.base GN gq gs g gcd X.A X.stack s H GE).tr pn xe) W) (hr : Room (k + 1) (X.A.deeper (envOfC gq gs s.heap.objs.size g gcd)))
    (inner : ∀ (A : Around) (outer : List Env) (s2 : Shared) (H2 : Hp) (E : XK), Room k (A.deeper (lamEnv X scope s2.heap.objs.size f c')) → PE (lamCx X A outer s2 H2 E scope f c') body (tb E))
    (hN : GN[i]? = some a) (hv : Vis gs a) (hd : (a == ("__debug__" : Str)) = false := by decide) (hcd : (a == ("__classdict__" : Str)) = false := by decide) :
    PE ((cxOf GX X.prog X.w X.K X.mg X.base GN gq gs g gcd X.A X.stack s H GE).tr pn xe) (.Call (.Name a p1) [] [] p2)
      (fun τ G Q => τ[i]? = some (some (.ref f)) ∧ G c' = some (CodeO c' (X.env.qual ++ "<lambda>")) ∧ tb (fun cls dd G' => W cls dd τ G') σ G Q) := by
  constructor
  intro pz sz τ G Q J ⟨at_, co, go⟩
  refine wpAny_Call_Name_kw (thn ((pe_var (pos := p1) (i := i) hN hv hd hcd).run pz sz τ G (fun v G1 => v = .ref f ∧ G1 = G) J ⟨.ref f, at_, rfl, rfl⟩) ?_)
  rintro u s1 ⟨v, G1, J1, rel, rfl, rfl⟩
  cases (show u = Value.ref f from rel)
  have held : s1.heap.get? f = some (PySem.W.kla_obj "<lambda>" (X.env.qual ++ "<lambda>") params body scope (cloFrom X.env.cells scope.names []) pm c' ctv) :=
    J1.base.keep f _ hf hfn hfr fun z => absurd (show f ∈ ([] : List Addr) from z) (by simp)
  refine PySem.W.callWith_F0 ⟨_, _, _, _, held⟩ ?_
  have base : Un (frs X.stack) [] H G1 s.heap s1.heap := J1.base
  obtain ⟨⟨oc, vs, t, k1, k2, k3⟩, -, -⟩ := J1.hok c' _ co
  have ran : codeAny (model X.prog X.w) (X.A.deeper (envOfC gq gs s.heap.objs.size g gcd)) (.call (.ref f) ⟨[], []⟩)
      (CR (L2.CX X.prog X.w) (envOfC gq gs s.heap.objs.size g gcd :: X.stack) X.prog X.w G1 s1 Q (fun cls dd G' => W cls dd τ G')) s1 := by
    refine PySem.W.kla_callFunE hr.depth held rfl L.co L.gen rfl ⟨c', oc, vs, t, rfl, k1, k2, k3⟩ ?_
    rw [bind0]
    refine wpAny_pure (wpAny_newFunctionEnv (fun y hy => (L.own y hy).2) (fun y hy => absurd hy (by simp)) (fun h₁ ns bt => ?_) L.kind)
    have up : ∀ b o, s1.heap.get? b = some o → h₁.get? b = some o := fun b o e =>
      bt.extBut b o (Nat.ne_of_lt (Heap.lt_size e)) (Heap.get?_push_of_some _ e)
    refine ⟨J1.nolimit.fresh _ bt, PySem.W.kla_codeExpr ?_⟩
    have start : Inv (lamCx X (X.A.deeper (envOfC gq gs s.heap.objs.size g gcd)) (envOfC gq gs s.heap.objs.size g gcd :: X.stack) s1 G1 (fun cls dd G' => W cls dd τ G') scope f c') [] σ G1
        { s1 with heap := h₁, toks := s1.toks + ([] : List (Str × Value)).length } := lam_start2 I L J1.env0 hr.hd base ns up
    refine wpAny_mono ((inner _ _ s1 G1 _ (hr.deeper _)).run [] _ _ G1 Q start go) ?_ fun e s' q => q
    rintro v s' ⟨w', G2, J2, rv, q⟩
    exact ⟨w', G2, J2.os, J2.bare, J2.base, J2.hok, rv, q⟩
  refine wpAny_call (codeAny_mono ran fun r s' q => ?_)
  match r, q with
  | .error e, q => exact passAt tk τ pz G1 s1 e s' J1 q
  | .ok (.ret u), q => exact J1.after q
end
/-- what the def g, which calls what it got, makes of the lambda's reading -/
def Gives (X : Cx) (GN : List Str) (x : Str) (gs : Scope) (g : Addr) (gcd : Value) (gb : List Stmt) (a q : Str) (TT : (XK → Hp → VK → Prop) → Hp → VK → Prop) : Prop :=
  ∀ (f c' : Addr) (s : Shared) (H : Hp) (Q : VK) (tl : XK → Hp → VK → Prop),
    (∀ (W : WX) (pn : List (Addr × Obj)) (xe : Value → Shared → Prop) (p1 p2 : Pos), Takes ((cxOf L2.CX0 X.prog X.w X.K X.mg X.base GN x gs g gcd X.A X.stack s H L2.E0).tr pn xe) W →
      PE ((cxOf L2.CX0 X.prog X.w X.K X.mg X.base GN x gs g gcd X.A X.stack s H L2.E0).tr pn xe) (.Call (.Name a p1) [] [] p2) (fun τ G Q => τ[0]? = some (some (.ref f)) ∧ G c' = some (CodeO c' q) ∧ tl (fun cls dd G' => W cls dd τ G') G Q)) →
    H c' = some (CodeO c' q) → TT tl H Q → ∃ t, PSs (cxOf L2.CX0 X.prog X.w X.K X.mg X.base GN x gs g gcd X.A X.stack s H L2.E0).nox gb t ∧ t { nx := fun _ G => Q .non G, rt := Q } (L2.start GN [.ref f]) H
section
variable {X : Cx}
/-- g(lambda: body) -/
theorem pe_lamS {T : List (Addr × Str)} {TT : (XK → Hp → VK → Prop) → Hp → VK → Prop} {x a : Str} {g c P : Addr} {k : Nat} {st : Stmt} {fd : FuncData} {GN : List Str} {params : Arguments} {body : Expr} {scope : Scope} {t : XK → TE} {p lp pos : Pos}
    (D : Df X.K X.mg x st [a] g fd) (S : FnScope GN [a] (defScope st)) (at0 : GN[0]? = some a) (va : Vis (defScope st) a) (gl : Gl X x)
    (gives : ∀ gcd, Gives X GN x (defScope st) g gcd (defBody st) a (X.env.qual ++ "<lambda>") TT) (B : TabB X.base X.mg c P) (code : X.env.code = .ref c) (mem : (P, X.env.qual ++ "<lambda>") ∈ T) (uni : ∀ p ∈ T, p.1 = P → p.2 = X.env.qual ++ "<lambda>")
    (hr : Room (k + 2) X.A) (L : LamS X.env.scope scope) (inner : ∀ (A : Around) (outer : List Env) (s2 : Shared) (H2 : Hp) (E : XK) (f c' : Addr), Room k (A.deeper (lamEnv X scope s2.heap.objs.size f c')) → PE (lamCx X A outer s2 H2 E scope f c') body (t E))
    (d0 : defaultsOf params X.env = ([], []) := by rfl) (bind0 : ∀ (q : Str) (cl : List (Str × Addr)) (pm cv ctv : Value), bindArgs (PySem.W.kla_fn "<lambda>" q params body scope cl pm cv ctv) ⟨[], []⟩ = pure [] := by intros; rfl)
    (hdb : (x == ("__debug__" : Str)) = false := by decide) (hd : (a == ("__debug__" : Str)) = false := by decide) (hcd : (a == ("__classdict__" : Str)) = false := by decide) :
    PE X (.Call (.Name x p) [.Lambda params body scope lp] [] pos) (tLam T TT t) := by
  obtain ⟨oc, od, kV, doc, pm, an, gcd, ct, osl, rfl, lk, cg⟩ := D.F.ex
  constructor
  intro pins s σ H Q I ⟨hT, h⟩
  refine wpAny_Call_Name_kw (ld_glob I gl D.g ?_ hdb)
  refine PySem.W.callWith_K (h₀ := X.base) I.ok.mod.kin D.F.kp ?_ (by rfl) (by rfl)
  show wpAny _ _ (spliced ((false, eval (.Lambda params body scope lp) X.env) :: backTo pos (starEach [] X.env))) _ _ s
  refine Calls.spliced_cons (lam_make2 I B code mem uni hT d0 (L.has I.ok) ?_)
  intro f c' pm' ctv H1 s' I1 eN T1 hf hfn hfr hco
  refine Calls.spliced_nil ⟨I1.kIn, wpAny_call (codeAny_mono ?_ fun r s2 (q : CR L2.CX0 X.stack X.prog X.w H1 s' Q L2.E0 r s2) => ?_)⟩
  · refine run_ofS (N := GN) (ps := [a]) (us := [.ref f]) (vs := [.ref f]) lk cg S hr I1.env0 (D.b s' [.ref f] I1.kIn rfl) (.cons rfl .nil) rfl fun hr' => ?_
    obtain ⟨t', ht', hq'⟩ := gives gcd f c' s' H1 Q (fun E G Q' => t E σ G Q')
      (fun W pn xe p1 p2 tk => pe_actS (i := 0) I1 L hf hfn hfr (bind0 _ _ _ _ _) tk hr' (fun A outer s2 H2 E hr2 => inner A outer s2 H2 E f c' hr2) at0 va hd hcd) hco (h H1 eN T1)
    exact ⟨t', ht'.nox, hq'⟩
  · match r, q with
    | .ok (.ret u), q => exact I1.after q
end
/-- try: a() / except C as e: .. / .. ; return None -/
def TTf (K : PySem.W.Frag) (i : Nat) (l : List (Value × (Addr → Value → Option Addr → TS))) : (XK → Hp → VK → Prop) → Hp → VK → Prop := fun tl H Q =>
  ∀ f : Addr, tl (fun cls dd G => wAsAll K i (fun _ _ _ _ => False) { nx := fun _ G' => Q .non G', rt := Q } l cls dd [some (.ref f), none] G) H fun _ G => Q .non G
theorem fault_gives {X : Cx} {a n x q : Str} {gs : Scope} {g : Addr} {gcd : Value} {h0 : ExceptHandler} {hds : List ExceptHandler} {l : List (Value × (Addr → Value → Option Addr → TS))} {j : Nat} {p1 p2 p3 p4 p5 p6 : Pos} (nd : [a, n].Nodup) (hln : gs.names.lookup n = some .local)
    (hh : ∀ (s : Shared) (H : Hp), AsOk (cxOf L2.CX0 X.prog X.w X.K X.mg X.base [a, n] x gs g gcd X.A X.stack s H L2.E0).nox n (h0 :: hds) l) :
    Gives X [a, n] x gs g gcd [.Try [.Expr (.Call (.Name a p1) [] [] p2) p3] (h0 :: hds) [] [] p4, .Return (some (.Constant .none j p5)) p6] a q (TTf X.K 1 l) := by
  intro f c' s H Q tl act hc h
  refine ⟨_, pss_cons (ps_try_asAll (X := (cxOf L2.CX0 X.prog X.w X.K X.mg X.base [a, n] x gs g gcd X.A X.stack s H L2.E0).nox) (i := 1)
    (tb := fun W D τ G => τ[0]? = some (some (.ref f)) ∧ G c' = some (CodeO c' q) ∧ tl (fun cls dd G' => W cls dd τ G') G fun _ G' => D.nx τ G') rfl rfl nd rfl hln LamX.takes0 (fun W pn xe tk _ => ?_) (hh s H)) (pss_one (ps_ret pe_non)), ?_⟩
  · constructor
    intro pins s' τ G D I go
    exact (pss_one (ps_expr (act W pn xe p1 p2 tk))).run pins s' τ G D I go
  · exact ⟨rfl, hc, h f⟩
end K1
set_option Elab.async false
set_option linter.all false
set_option maxRecDepth 100000
/-! a clause's suite that tells a tag and the error's fields -/
namespace K1
open PySem L2
def Has (gs : List (Str × V)) : List Str → List V → Prop
  | [], [] => True
  | f :: r, v :: vs => gs.lookup f = some v ∧ Has gs r vs
  | _, _ => False
def tFs (i : Nat) (C a : Addr) (cl : Value) (dd : Option Addr) : List Str → TA
  | [] => tNil
  | f :: r => tCons (tXf a cl dd C f (tVar i)) (tFs i C a cl dd r)
/-- return (tag, e.f, ..) -/
def suiteT (i : Nat) (C : Addr) (tag : Str) (fs : List Str) : Addr → Value → Option Addr → TS := fun a cl dd => tRet (tTup (tCons (tC (.str tag)) (tFs i C a cl dd fs)))
theorem tFs_read {i : Nat} {C a d : Addr} {gs : List (Str × V)} {σ : St} {G : Hp} (hσ : σ[i]? = some (some (.ref a))) (hd : G d = some (.xd gs)) : ∀ (fs : List Str) (vs : List V), Has gs fs vs → ∀ {Q : List V → Hp → Prop}, Q vs G → tFs i C a (.ref C) (some d) fs σ G Q
  | [], [], _, _, k => k
  | [], _ :: _, h, _, _ => h.elim
  | _ :: _, [], h, _, _ => h.elim
  | f :: r, v :: vs, h, Q, k => by
    obtain ⟨h1, h2⟩ := h
    exact ⟨_, hσ, rfl, rfl, d, gs, v, rfl, hd, h1, tFs_read hσ hd r vs h2 k⟩
theorem suiteT_read {i : Nat} {C a d : Addr} {tag : Str} {fs : List Str} {vs : List V} {gs : List (Str × V)} {D : Ends} {σ : St} {G : Hp} (hσ : σ[i]? = some (some (.ref a))) (hd : G d = some (.xd gs)) (h : Has gs fs vs) (hl : vs.length ≤ 10)
    (k : ∀ p, G p = none → D.rt (.ref p) (upd G p (.tup (.str tag :: vs)))) : suiteT i C tag fs a (.ref C) (some d) D σ G :=
  tFs_read hσ hd fs vs h ⟨by simp; exact Nat.le_of_lt (small1000 (by omega)), k⟩
end K1
set_option Elab.async false
set_option linter.all false
set_option maxRecDepth 100000
namespace L2
open PySem PySem.Spec PyProof.Rows
variable {X : Cx}
/-- x in t, of data, where t is a tuple -/
def rInT (K : PySem.W.Frag) (neg : Bool) : R2 := fun x y H Q => ∃ d ds, Dp K H x d ∧ Dp K H y (.tuple ds) ∧ SeqAt.shaped d = true ∧ SeqAt.shaped (.tuple ds) = true ∧ Q (.bl (if neg then !(ds.any fun z => PyData.eqv z d) else ds.any fun z => PyData.eqv z d)) H
theorem canLay_tup {ds : List PyData} (h : SeqAt.shaped (.tuple ds) = true) : PyData.canLayAll0 ds = true := by
  unfold SeqAt.shaped at h
  rw [PyData.canLay0] at h
  exact (Bool.and_eq_true_iff.mp h).1
theorem op_inT (hu : X.A.units + 65 < cLine) : OpR X (compareOp .In) (rInT X.K false) := by
  intro pins s σ H x y v u Q I rx ry h
  obtain ⟨d, ds, hd, he, sd, se, q⟩ := h
  obtain ⟨as, r1⟩ := Dp.reads I d x v hd rx
  obtain ⟨bs, r2⟩ := Dp.reads I (.tuple ds) y u he ry
  exact SeqAt.in_tuple_reads r2 r1 (canLay_tup se) (SeqAt.canLay_of_shaped sd) (room_in_shaped sd hu) ⟨.bl _, H, I, rfl, q⟩
theorem op_notInT (hu : X.A.units + 65 < cLine) : OpR X (compareOp .NotIn) (rInT X.K true) := by
  intro pins s σ H x y v u Q I rx ry h
  obtain ⟨d, ds, hd, he, sd, se, q⟩ := h
  obtain ⟨as, r1⟩ := Dp.reads I d x v hd rx
  obtain ⟨bs, r2⟩ := Dp.reads I (.tuple ds) y u he ry
  exact SeqAt.notIn_tuple_reads r2 r1 (canLay_tup se) (SeqAt.canLay_of_shaped sd) (room_in_shaped sd hu) ⟨.bl _, H, I, rfl, q⟩
end L2
namespace K1
open PySem L2
section
variable {P : Program} {w : World} {K : PySem.W.Frag} {mg : Str → Option Value} {base : Heap}
abbrev sBadState : Stmt := inClass (top 8) 0
theorem scBadState : FnScope ["self", "state"] ["self", "state"] (defScope sBadState) := ⟨rfl, rfl, rfl, by decide +kernel, rfl, by decide +kernel, by decide +kernel⟩
abbrev OBadState (K : PySem.W.Frag) (mg : Str → Option Value) (C fI : Addr) (fd : FuncData) : Prop := Oer K mg "BadState" ["state"] C fI fd "BadState.__init__" sBadState
theorem ini_BadState {C fI : Addr} {fd : FuncData} (O : OBadState K mg C fI fd) : FnOk P w K mg base CX0 1 fI fd ["self", "state"] (spIni C ["state"]) := by
  refine O.F.ok scBadState (fun vs H Q E h => ?_) (fun cdv A outer s H vs Q E hr h => ?_)
  · obtain ⟨a, ys, rfl, e, _⟩ := h
    show ys.length + 1 = _
    rw [e]; rfl
  · obtain ⟨a, ys, rfl, e, ha, k⟩ := h
    obtain ⟨y0, rfl⟩ : ∃ y0, ys = [y0] := by
      match ys, e with
      | [y0], _ => exact ⟨y0, rfl⟩
    refine ⟨_, pss_one (ps_ost (f := "state") (pv 0) (pv 1)), ?_⟩
    refine ⟨_, rfl, _, rfl, a, C, rfl, O.T, O.no _ (List.mem_cons_self ..), .inl ⟨ha, fun dx hdx ne => ?_⟩⟩
    refine k dx hdx ne _ (fun b o eb nb => ?_) ?_ ?_
    · rw [upd_ne nb, upd_ne (ne_of_none eb hdx)]; exact eb
    · exact upd_same
    · rw [upd_ne ne]; exact upd_same
abbrev sNoDeed : Stmt := inClass (top 9) 0
theorem scNoDeed : FnScope ["self", "index"] ["self", "index"] (defScope sNoDeed) := ⟨rfl, rfl, rfl, by decide +kernel, rfl, by decide +kernel, by decide +kernel⟩
abbrev ONoDeed (K : PySem.W.Frag) (mg : Str → Option Value) (C fI : Addr) (fd : FuncData) : Prop := Oer K mg "NoDeed" ["index"] C fI fd "NoDeed.__init__" sNoDeed
theorem ini_NoDeed {C fI : Addr} {fd : FuncData} (O : ONoDeed K mg C fI fd) : FnOk P w K mg base CX0 1 fI fd ["self", "index"] (spIni C ["index"]) := by
  refine O.F.ok scNoDeed (fun vs H Q E h => ?_) (fun cdv A outer s H vs Q E hr h => ?_)
  · obtain ⟨a, ys, rfl, e, _⟩ := h
    show ys.length + 1 = _
    rw [e]; rfl
  · obtain ⟨a, ys, rfl, e, ha, k⟩ := h
    obtain ⟨y0, rfl⟩ : ∃ y0, ys = [y0] := by
      match ys, e with
      | [y0], _ => exact ⟨y0, rfl⟩
    refine ⟨_, pss_one (ps_ost (f := "index") (pv 0) (pv 1)), ?_⟩
    refine ⟨_, rfl, _, rfl, a, C, rfl, O.T, O.no _ (List.mem_cons_self ..), .inl ⟨ha, fun dx hdx ne => ?_⟩⟩
    refine k dx hdx ne _ (fun b o eb nb => ?_) ?_ ?_
    · rw [upd_ne nb, upd_ne (ne_of_none eb hdx)]; exact eb
    · exact upd_same
    · rw [upd_ne ne]; exact upd_same
end
def Rs (C : Addr) (fs : List Str) (vs : List V) (H : Hp) (E : XK) : Prop := ∀ d G, Same H G → H d = none → G d = some (.xd (fs.zip vs).reverse) → E (.ref C) (some d) G
theorem Rs.same {C : Addr} {fs : List Str} {vs : List V} {H H' : Hp} {E : XK} (r : Rs C fs vs H E) (s : Same H H') : Rs C fs vs H' E := fun d G sG hd e => r d G (s.trans sG) (s.free hd) e
end K1
set_option Elab.async false
set_option linter.all false
set_option maxRecDepth 100000
namespace K1
open PySem L2
theorem eqv_strs : ∀ ws ws2 : List Str, PyData.eqvAll (ws.map PyData.str) (ws2.map PyData.str) = decide (ws = ws2)
  | [], [] => by simp [PyData.eqvAll]
  | [], _ :: _ => by simp [PyData.eqvAll]
  | _ :: _, [] => by simp [PyData.eqvAll]
  | a :: r, b :: q => by
    simp only [List.map_cons, PyData.eqvAll, eqv_strs r q, PyData.eqv]
    by_cases e : a = b
    · subst e; simp
    · simp [e]
theorem eqv_ints : ∀ ws ws2 : List Int, PyData.eqvAll (ws.map PyData.int) (ws2.map PyData.int) = decide (ws = ws2)
  | [], [] => by simp [PyData.eqvAll]
  | [], _ :: _ => by simp [PyData.eqvAll]
  | _ :: _, [] => by simp [PyData.eqvAll]
  | a :: r, b :: q => by
    simp only [List.map_cons, PyData.eqvAll, eqv_ints r q, PyData.eqv]
    by_cases e : a = b
    · subst e; simp
    · simp [e]
def OkS (ws : List Str) : Prop := ∀ z ∈ ws, PyData.strOk z = true
theorem TL_lt : ∀ c ∈ TL', c < 0x110000 := by decide +kernel
theorem ok_chars {z : Str} (h : ∀ c ∈ z.cps.toList, c ∈ TL') : PyData.strOk z = true := by
  unfold PyData.strOk
  rw [Array.all_eq_true']
  intro c hc
  exact decide_eq_true (TL_lt c (h c (by simpa using hc)))
theorem Wd.chars {z : Str} (h : Wd z) : ∀ c ∈ z.cps.toList, c ∈ AL := by
  obtain ⟨c, r, ez, hc, hr, _⟩ := h
  intro x hx
  rw [ez] at hx
  rcases List.mem_cons.mp hx with rfl | hx
  · exact LE_AL hc
  · exact hr x hx
theorem ok_wd {ws : List Str} (h : ∀ z ∈ ws, Wd z) : OkS ws := fun z hz => ok_chars fun c hc => List.mem_append_left _ ((h z hz).chars c hc)
theorem canLay_strs : ∀ ws : List Str, OkS ws → PyData.canLayAll0 (ws.map PyData.str) = true
  | [], _ => rfl
  | n :: r, h => by simp [PyData.canLayAll0, PyData.canLay0, canLay_strs r (fun z hz => h z (List.mem_cons_of_mem _ hz)), h n (List.mem_cons_self ..)]
theorem depth_ints : ∀ ns : List Int, PyData.depthAll (ns.map PyData.int) ≤ 1
  | [] => by decide
  | n :: r => by have := depth_ints r; simp only [List.map_cons, PyData.depthAll, PyData.depth]; omega
theorem depth_strs : ∀ ns : List Str, PyData.depthAll (ns.map PyData.str) ≤ 1
  | [] => by decide
  | n :: r => by have := depth_strs r; simp only [List.map_cons, PyData.depthAll, PyData.depth]; omega
theorem shaped_of {d : PyData} (h : d.canLay0 = true) (e : d.depth ≤ 64) : SeqAt.shaped d = true := by
  unfold SeqAt.shaped
  rw [h]
  simp [e]
theorem shaped_strs {ws : List Str} (h : OkS ws) : SeqAt.shaped (.tuple (ws.map PyData.str)) = true := shaped_of (by rw [PyData.canLay0, canLay_strs _ h]) (by rw [PyData.depth]; have := depth_strs ws; omega)
theorem dp_strs {K : PySem.W.Frag} {H : Hp} : ∀ ws : List Str, DpAll K H (ws.map V.str) (ws.map PyData.str)
  | [] => .nil
  | n :: r => .cons (.str n) (dp_strs r)

/-- None or a number, as data -/
def mD : V → PyData
  | .int i => .int i
  | _ => .none
def mOk (m : V) : Prop := m = .non ∨ ∃ i, m = .int i
theorem mOk.dp {K : PySem.W.Frag} {H : Hp} {m : V} (h : mOk m) : Dp K H m (mD m) := by
  rcases h with rfl | ⟨i, rfl⟩
  · exact .non
  · exact .int i
theorem mOk.sh {m : V} (h : mOk m) : SeqAt.shaped (mD m) = true := by
  rcases h with rfl | ⟨i, rfl⟩
  · exact shaped_of rfl (by decide)
  · exact shaped_of rfl (Nat.zero_le _)
theorem mOk.eqv {m n : V} (h : mOk m) (h' : mOk n) : PyData.eqv (mD m) (mD n) = decide (m = n) := by
  rcases h with rfl | ⟨i, rfl⟩ <;> rcases h' with rfl | ⟨j, rfl⟩ <;> simp [mD, PyData.eqv]
  by_cases e : i = j <;> simp [e]
end K1
set_option Elab.async false
set_option linter.all false
set_option maxRecDepth 100000
/-! where a row leads -/
namespace K1
open PySem L2
def forBody : Stmt → List Stmt
  | .For _ _ b _ _ => b
  | _ => []
theorem room65 {k : Nat} {A : Around} (r : Room k A) : A.units + 65 < cLine := by have := r.un; omega
/-- one step -/
def stp (rs : List (List Int)) (s k : Int) : Int := (rs.getD s.toNat []).getD k.toNat 0
def led (rs : List (List Int)) (ks : List Int) (s : Int) : Int := ks.foldl (stp rs) s
def wayN (rs : List (List Int)) (ks : List Int) (s : Int) (n : Nat) : List Int := (List.range n).map fun j => led rs (ks.take j) s
/-- all states on the way -/
def way (rs : List (List Int)) (ks : List Int) (s : Int) : List Int := wayN rs ks s (ks.length + 1)
/-- the deeds of a row of numbers -/
def nm (ws : List Str) (ks : List Int) : List Str := ks.map fun k => ws.getD k.toNat ""
def Ix (w : Nat) (ks : List Int) : Prop := ∀ k ∈ ks, 0 ≤ k ∧ k < (w : Int)
theorem nm_len (ws : List Str) (ks : List Int) : (nm ws ks).length = ks.length := by simp [nm]
theorem wayN_succ (rs : List (List Int)) (ks : List Int) (s : Int) (n : Nat) : wayN rs ks s (n + 1) = wayN rs ks s n ++ [led rs (ks.take n) s] := by
  simp [wayN, List.range_succ]
theorem wayN_len (rs : List (List Int)) (ks : List Int) (s : Int) (n : Nat) : (wayN rs ks s n).length = n := by simp [wayN]
theorem way_eq (rs : List (List Int)) (ks : List Int) (s : Int) : way rs ks s = wayN rs ks s ks.length ++ [led rs ks s] := by
  rw [way, wayN_succ, List.take_length]
theorem led_snoc (rs : List (List Int)) (ks : List Int) (s k : Int) : led rs (ks ++ [k]) s = stp rs (led rs ks s) k := by simp [led]
theorem at_last {xs : List Int} {y : Int} : atI ((xs ++ [y]).map V.int) (-1) = some (.int y) := by
  rw [List.map_append]; exact atI_last _ _
theorem at_deed {ws : List Str} {k : Int} (h0 : 0 ≤ k) (h1 : k < (ws.length : Int)) : atI (ws.map V.str) k = some (.str (ws.getD k.toNat "")) := by
  have hl : k.toNat < ws.length := by omega
  have e : k = ((k.toNat : Nat) : Int) := by omega
  rw [e]
  refine atI_nat ?_
  rw [Int.toNat_natCast, List.getElem?_map, List.getElem?_eq_getElem hl, List.getD_eq_getElem?_getD, List.getElem?_eq_getElem hl]
  rfl
theorem at_int {r : List Int} {k : Int} (h0 : 0 ≤ k) (h1 : k < (r.length : Int)) : atI (r.map V.int) k = some (.int (r.getD k.toNat 0)) := by
  have hl : k.toNat < r.length := by omega
  have e : k = ((k.toNat : Nat) : Int) := by omega
  rw [e]
  refine atI_nat ?_
  rw [Int.toNat_natCast, List.getElem?_map, List.getElem?_eq_getElem hl, List.getD_eq_getElem?_getD, List.getElem?_eq_getElem hl]
  rfl
theorem at_ref {as : List Addr} {k : Int} (h0 : 0 ≤ k) (h1 : k < (as.length : Int)) : ∃ a, as[k.toNat]? = some a ∧ atI (as.map V.ref) k = some (.ref a) := by
  obtain ⟨m, rfl⟩ : ∃ m : Nat, k = (m : Int) := ⟨k.toNat, by omega⟩
  have hl : m < as.length := by omega
  refine ⟨as[m], by rw [Int.toNat_natCast]; exact List.getElem?_eq_getElem hl, atI_nat ?_⟩
  rw [List.getElem?_map, List.getElem?_eq_getElem hl]
  rfl
theorem getD_get {α : Type} {xs : List α} {n : Nat} (d : α) (h : n < xs.length) : xs[n]? = some (xs.getD n d) := by
  rw [List.getD_eq_getElem?_getD, List.getElem?_eq_getElem h]; rfl
section
variable {ws : List Str} {rs : List (List Int)} {ss : List Str} {st : Int}
theorem Parts.stp (pt : Parts ws rs ss st) {s k : Int} (s0 : 0 ≤ s) (s1 : s < (rs.length : Int)) (k0 : 0 ≤ k) (k1 : k < (ws.length : Int)) :
    ∃ r, rs[s.toNat]? = some r ∧ r.length = ws.length ∧ K1.stp rs s k = r.getD k.toNat 0 ∧ 0 ≤ K1.stp rs s k ∧ K1.stp rs s k < (rs.length : Int) := by
  have hs : s.toNat < rs.length := by omega
  have er := getD_get (xs := rs) [] hs
  obtain ⟨hl, hx⟩ := pt.row _ (List.mem_of_getElem? er)
  have hk : k.toNat < (rs.getD s.toNat []).length := by omega
  have hm := hx _ (List.mem_of_getElem? (getD_get 0 hk))
  exact ⟨_, er, hl, rfl, hm⟩
theorem Parts.led (pt : Parts ws rs ss st) : ∀ {ks : List Int} {s : Int}, Ix ws.length ks → 0 ≤ s → s < (rs.length : Int) → 0 ≤ K1.led rs ks s ∧ K1.led rs ks s < (rs.length : Int)
  | [], s, _, h0, h1 => ⟨h0, h1⟩
  | k :: ks, s, hk, h0, h1 => by
    obtain ⟨k0, k1⟩ := hk k (List.mem_cons_self ..)
    obtain ⟨r, _, _, _, a, b⟩ := pt.stp h0 h1 k0 k1
    exact Parts.led pt (ks := ks) (fun j hj => hk j (List.mem_cons_of_mem _ hj)) a b
end
theorem Ix.take {w : Nat} {ks : List Int} (h : Ix w ks) (n : Nat) : Ix w (ks.take n) := fun k hk => h k (List.mem_of_mem_take hk)
theorem first_at {ws : List Str} (nd : ws.Nodup) {j : Nat} (hj : j < ws.length) : ∀ m, m < j → ws[m]? ≠ some (ws.getD j "") := by
  intro m hm e
  have hm' : m < ws.length := by omega
  rw [List.getElem?_eq_getElem hm', List.getD_eq_getElem?_getD, List.getElem?_eq_getElem hj] at e
  have e2 : ws[m] = ws[j] := by simpa using e
  exact List.pairwise_iff_getElem.mp nd m j hm' hj hm e2
theorem eqv_str (a b : Str) : PyData.eqv (.str a) (.str b) = decide (a = b) := by
  simp [PyData.eqv]
  by_cases e : a = b <;> simp [e]
theorem shaped_str {ws : List Str} (h : OkS ws) {z : Str} (hz : z ∈ ws) : SeqAt.shaped (.str z) = true := shaped_of (by rw [PyData.canLay0]; exact h z hz) (by rw [PyData.depth]; decide)
theorem ix_of {s m : Int} (h0 : 0 ≤ s) (h1 : s < m) : ixB (.int s) m = true := by
  unfold ixB
  simp [h0, h1]
end K1
set_option Elab.async false
set_option linter.all false
set_option maxRecDepth 100000
/-! dicts with tuple keys: items() walked; a display of one pair -/
namespace L2
open PySem PySem.W PySem.Spec PyProof.Rows
/-- the pairs of a locked dict with tuple keys, each a new tuple -/
def Itit (d : Addr) (o : Obj) (kvs : List (List Key × V)) : It :=
  ⟨fun i H => H d = some (.frz o (.dT kvs)) ∧ i < kvs.length, fun i H x H' => ∃ T k v q, kvs[i]? = some (k, v) ∧ H q = some (.tup (k.map kV)) ∧ x = .ref T ∧ H T = none ∧ H' = upd H T (.tup [.ref q, v]), fun i H => H d = some (.frz o (.dT kvs)) ∧ kvs.length ≤ i⟩
section
variable {X : Cx} {pins : List (Addr × Obj)} {σ : St} {H : Hp} {s : Shared} {d : Addr} {o : Obj}
theorem Inv.frzT2 {kvs : List (List Key × V)} (I : Inv X pins σ H s) (h : H d = some (.frz o (.dT kvs))) :
    (d == sysModules) = false ∧ s.heap.get? d = some o ∧ o.ExactDict ∧ ∃ (es : Array DictEntry) (ep : Nat), o.data = .dict es ep ∧ es.size = kvs.length ∧
      ∀ (i : Nat) (k : List Key) (v : V), kvs[i]? = some (k, v) → ∃ (en : DictEntry) (q : Addr), es[i]? = some en ∧ en.key = .ref q ∧ H q = some (.tup (k.map kV)) ∧ RelV v en.val := by
  obtain ⟨hd, z, hs, xs, pr, o', es, ep, ho, hx, hdt, he, _⟩ := I.hok d _ h
  rw [hd] at ho
  cases ho
  refine ⟨hs, hd, hx, es, ep, hdt, ?_, fun i k v e => ?_⟩
  · have l1 : es.size = xs.length := size_of_entries he
    have l2 : kvs.length = xs.length := Paired.length pr
    omega
  · obtain ⟨b, hb, e1, e2, e3⟩ := paired_get pr e
    have q := entry_at he i
    rw [hb] at q
    exact ⟨_, b.2.1, q, rfl, e2, e3⟩
end
section
variable {P : Program} {w : World} {K : PySem.W.Frag} {tg : Expr} {d : Addr} {o : Obj} {es : Array DictEntry} {ep : Nat}
theorem turn_itemsT {kvs : List (List Key × V)} {elts : List Expr} {kk : Nat} {tpos : Pos} (it : Addr) (hod : o.data = .dict es ep) :
    Turn P w K (.Tuple elts kk tpos) (Itit d o kvs) [it] it (fun i h => ∃ ok ov, IsItemIter h it d i kvs.length ep ok ov) where
  mem := by simp
  obj := fun i h st b hb => by
    have e : b = it := by simpa using hb
    subst e
    obtain ⟨ok, ov, e⟩ := st
    exact ⟨_, e, fun v z => nomatch z⟩
  keep := fun i h h' st k => let ⟨ok, ov, e⟩ := st; ⟨ok, ov, k it (by simp) _ e⟩
  item := by
    intro X hP hw hK hc i pins s σ H E I hf st hg
    subst hP hw hK
    obtain ⟨hd, hi⟩ := hg
    obtain ⟨hs, hgd, hx, es', ep', hdt, hsz, ent⟩ := I.frzT2 hd
    obtain ⟨rfl, rfl⟩ := dict_ep hod hdt
    obtain ⟨⟨k, v⟩, hkv⟩ : ∃ p, kvs[i]? = some p := ⟨kvs[i], List.getElem?_eq_getElem hi⟩
    obtain ⟨en, q, hen, hkey, hq, rv⟩ := ent i k v hkv
    obtain ⟨ok, ov, he⟩ := st
    rw [← hsz] at he
    have hlt : it < s.heap.objs.size := Heap.lt_size he
    have hi' : i < es'.size := by omega
    have een : es'[i] = en := by
      have := Array.getElem?_eq_getElem hi'
      rw [hen] at this
      exact (Option.some.inj this).symm
    refine DT.nextI he ⟨o, hgd, hx, hdt⟩ hi' fun h' ho hT hz hk => ?_
    rw [een] at ho hT
    refine ⟨_, rfl, wpAny_letOwnedTupleGo_items (s := { s with heap := h' }) ho fun h'' he' sb => ?_⟩
    have hT2 : h''.get? s.heap.objs.size = some { cls := .type "tuple", data := .seq #[en.key, en.val] } := (sb.2 _ (Nat.ne_of_gt hlt)).trans hT
    have new : ObjOk X.prog X.w (upd H s.heap.objs.size (.tup [.ref q, v])) h'' s.heap.objs.size (.tup [.ref q, v]) :=
      ⟨by show 2 ≤ sizeLine; decide, [en.key, en.val], .cons hkey (.cons rv .nil), ⟨_, hT2, rfl, _, rfl⟩⟩
    have I1 : Inv X pins σ (upd H s.heap.objs.size (.tup [.ref q, v])) { s with heap := h'' } :=
      I.turnedNew (t' := s.toks) (ch := [it]) (fun b ob hb e => (sb.2 b (by simpa using hb)).trans (hk b ob (by simpa using hb) e)) hf (Nat.le_refl _) new
    refine ⟨.ref s.heap.objs.size, _, I1, rfl, ⟨_, k, v, q, hkv, hq, rfl, I.hok.fresh (Nat.le_refl _), rfl⟩, ⟨en.key, en.val, ?_⟩, fun b hb => ?_⟩
    · rw [← hsz]; exact he'
    · have e : b = it := by simpa using hb
      rw [e, upd_ne (Nat.ne_of_lt hlt)]
      exact (hf it (by simp)).1
  done := by
    intro X hP hw hK hc i pins s σ H E I hf st hg
    subst hP hw hK
    obtain ⟨hd, hi⟩ := hg
    obtain ⟨f0, f1, f2, f3, f4, f5⟩ := hf it (by simp)
    obtain ⟨hs, hgd, hx, es', ep', hdt, hsz, ent⟩ := I.frzT2 hd
    obtain ⟨rfl, rfl⟩ := dict_ep hod hdt
    obtain ⟨ok, ov, he⟩ := st
    rw [← hsz] at he
    exact DT.endI (I.ok.hd hc) he ⟨o, hgd, hx, hdt⟩ (by omega) fun h' eb => ⟨rfl, I.turned (t' := s.toks) (fun b ob hb e => eb b ob hb e) f0 f1 f3 f4 f5⟩
  self := fun A i s Q E st h => let ⟨_, _, e⟩ := st; PySem.W.kcp_self e h
theorem walk_itemsT {kvs : List (List Key × V)} : Walk (Itit d o kvs) kvs.length (fun H => H d = some (.frz o (.dT kvs)))
    (fun i H x H' => ∃ T k v q, kvs[i]? = some (k, v) ∧ H q = some (.tup (k.map kV)) ∧ x = .ref T ∧ H T = none ∧ H' = upd H T (.tup [.ref q, v])) :=
  ⟨fun _ _ hi q => ⟨q, hi⟩, fun _ q => ⟨q, Nat.le_refl _⟩, fun _ _ _ _ _ _ y => y⟩
end
/-- for (k, v) in d.items(), d a locked dict with tuple keys -/
def iItemsT (td : TE) : TI := fun σ H R => td σ H fun x H1 => ∃ d o kvs, x = .ref d ∧ H1 d = some (.frz o (.dT kvs)) ∧ R (Itit d o kvs) H1
section
variable {X : Cx} {e : Expr} {td : TE} {apos cpos : Pos}
theorem pi_itemsT {elts : List Expr} {kk : Nat} {tpos : Pos} (he : PE X e td) (hbase : attributeBase e "items" X.env (eval e X.env) = eval e X.env := by rfl) (hline : (apos.endLine == cpos.line) = true := by rfl) :
    PI X (.Tuple elts kk tpos) (.Call (.Attribute e "items" apos) [] [] cpos) (iItemsT td) := by
  refine ⟨fun pins s σ H R I h => ?_⟩
  refine wpAny_Call_method (T := "dict") (id := "dict.items") hbase rfl hline F.plainAttrs_dict F.slot_dict_items F.type_dict_items (thn (he.run pins s σ H _ I h) fun u s1 ⟨x, H1, I1, rx, d, o, kvs, ex, hd, q⟩ => ?_)
  subst ex
  obtain rfl : u = Value.ref d := rx
  obtain ⟨hs, hgd, hx, es, ep, hdt, hsz, ent⟩ := I1.frzT2 hd
  have hm : DT.Raw s1.heap d es ep := ⟨o, hgd, hx, hdt⟩
  refine ⟨hm.typeIs, fun a ea => by cases ea; exact ⟨o, hgd, hx.2.1⟩, ?_⟩
  have I2 : Inv X pins σ H1 { s1 with heap := s1.heap.push { cls := .type "dict_items", data := .fields #[.ref d] } } := I1.kept (t' := s1.toks) fun b ob q => Heap.get?_push_of_some _ q
  have fin : wpAny (model X.prog X.w) X.A (pyIter (.ref s1.heap.objs.size)) (PIE X pins σ (.Tuple elts kk tpos) R) X.xe { s1 with heap := s1.heap.push { cls := .type "dict_items", data := .fields #[.ref d] } } := by
    refine DT.iterI (d := d) ⟨_, Heap.get?_push_size _ rfl, rfl, rfl⟩ (hm.push _) (pi_one (tk := s1.toks) I2 _ (turn_itemsT _ hdt) ⟨.none, .none, ?_⟩ q)
    rw [← hsz]
    exact Heap.get?_push_size _ rfl
  show wpAny _ _ (callWith cpos (.builtin "dict.items") [.ref d] [] []) _ X.xe s1
  exact method_meetsIn F.slot_dict_items F.entry_dict_items rfl (PySem.evalArgs_none ⟨rfl, hm.typeIs, F.args_dict_items_1 _, _, DT.meetsItems (es := es) (ep := ep) hs, hm, fin⟩)
end
/-- {k: v}, k a tuple -/
def tDisp1T (tk tv : TE) : TE := fun σ H Q => ∀ p, H p = none → tPairs [(tk, tv)] σ (upd H p (.dT [])) fun ps H2 => H2 p = some (.dT []) ∧ ∃ (b : Addr) (k : List Key) (y : V), ps = [(.ref b, y)] ∧ H2 b = some (.tup (k.map kV)) ∧ Q (.ref p) (upd H2 p (.dT [(k, y)]))
theorem pe_disp1T {X : Cx} {pos : Pos} {k v : Expr} {tk tv : TE} (hu : X.A.units + 1 < cLine) (hk : PE X k tk) (hv : PE X v tv) : PE X (.Dict [some k] [v] pos) (tDisp1T tk tv) := by
  refine ⟨fun pins s σ H Q I q => ?_⟩
  have hn := I.hok.fresh (Nat.le_refl s.heap.objs.size)
  have I1 := I.laid (a := s.heap.objs.size) (o := .dT []) (h' := s.heap.push { cls := .type "dict", data := .dict #[] }) (t' := s.toks) (fun _ _ q => Heap.get?_push_of_some _ q) (Nat.le_refl _) (dt_empty s.heap I.big)
  have hp := (pps_cons (pos := pos) hk hv pps_nil).run pins _ σ _ (fun ps H2 => H2 s.heap.objs.size = some (.dT []) ∧ ∃ (b : Addr) (k : List Key) (y : V), ps = [(.ref b, y)] ∧ H2 b = some (.tup (k.map kV)) ∧ Q (.ref s.heap.objs.size) (upd H2 s.heap.objs.size (.dT [(k, y)]))) I1 ?_
  · have pt : (evalEachOpt [some k] X.env).zip ((evalEach [v] X.env).map fun v => do let x ← v; standAt pos; pure x) = (pairTrees [some k] [v] X.env pos).map fun p => (some p.1, p.2) := by rfl
    rw [arm_eval_Dict, pt, dictDisplay_pairs _ (by simp [pairTrees]) (by simp [pairTrees])]
    refine wpAny_bind (wpAny_standAt (wpAny_bind (wpAny_subDictH (knd := tupleKind (mixKind X.prog X.w)) (Q := fun d s' => wpAny (model X.prog X.w) X.A (pure (Value.ref d)) _ _ s') (by show X.A.units < cLine; omega) (by simp [pairTrees]) ?_)))
    refine wpAny_mono hp (fun vs s2 h2 => ?_) fun _ _ z => z
    obtain ⟨ps, H2, I2, rel, e, b, kk, y, rfl, hb, q2⟩ := h2
    obtain ⟨z, hd, xs0, r0, dd⟩ := dt_of I2.hok e
    cases r0
    match vs, rel with
    | [(u1, u2)], .cons ⟨ru, rw2⟩ .nil =>
      cases (show u1 = Value.ref b from ru)
      refine ⟨[(kk, b, u2)], ⟨rfl, rfl, key_of I2.hok hb, trivial⟩, dd, fun h' tk' dd' hs => wpAny_pure ⟨.ref s.heap.objs.size, _, ?_, rfl, q2⟩⟩
      obtain ⟨o2, es, ep, ho2, h2a, h2b, h2c, _, h2d⟩ := dd'
      have rel2 : KT H2 (putK [] kk y) (storedH [] kk b u2) := KT.put .nil kk hb rw2
      refine d_write I2 (by rw [e]; exact True.intro) hs ⟨o2, ho2⟩ ⟨by show 1 ≤ sizeLine; decide, hd, _, (rel2 : KT H2 [(kk, y)] _).keeps fun c ys ec => ?_, o2, es, ep, ho2, h2a, h2b, h2c, h2d⟩
      rw [upd_ne (ne_of ec e (fun z => nomatch z))]
      exact ec
  · exact q _ hn
end L2
set_option Elab.async false
set_option linter.all false
set_option maxRecDepth 100000
/-! rows looked for layer by layer: the mathematics -/
namespace K1
open PySem L2
section
variable (r : List Nat → List Int)
/-- words, each only if its state is new -/
def dd (acc l : List (List Nat)) : List (List Nat) := l.foldl (fun acc v => if r v ∈ acc.map r then acc else acc ++ [v]) acc
def ext (w : Nat) (u : List Nat) : List (List Nat) := (List.range w).map fun k => u ++ [k]
def exts (w : Nat) (B : List (List Nat)) : List (List Nat) := B.flatMap (ext w)
/-- all words of a length; up to a length -/
def allW (w : Nat) : Nat → List (List Nat)
  | 0 => [[]]
  | n + 1 => exts w (allW w n)
def allU (w : Nat) : Nat → List (List Nat)
  | 0 => [[]]
  | n + 1 => allU w n ++ allW w (n + 1)
/-- what is met after n layers, and the last layer -/
def bfs (w : Nat) : Nat → List (List Nat) × List (List Nat)
  | 0 => ([[]], [[]])
  | n + 1 => (dd r (bfs w n).1 (exts w (bfs w n).2), (dd r (bfs w n).1 (exts w (bfs w n).2)).drop (bfs w n).1.length)
variable {r}
theorem dd_nil (acc : List (List Nat)) : dd r acc [] = acc := rfl
theorem dd_cons (acc : List (List Nat)) (v : List Nat) (l : List (List Nat)) : dd r acc (v :: l) = dd r (if r v ∈ acc.map r then acc else acc ++ [v]) l := rfl
theorem dd_app (acc l m : List (List Nat)) : dd r acc (l ++ m) = dd r (dd r acc l) m := List.foldl_append
theorem dd_pre : ∀ (l acc : List (List Nat)), ∃ N, dd r acc l = acc ++ N
  | [], acc => ⟨[], by rw [dd_nil, List.append_nil]⟩
  | v :: l, acc => by
    rw [dd_cons]
    by_cases h : r v ∈ acc.map r
    · rw [if_pos h]; exact dd_pre l acc
    · rw [if_neg h]
      obtain ⟨N, e⟩ := dd_pre l (acc ++ [v])
      exact ⟨v :: N, by rw [e, List.append_assoc]; rfl⟩
theorem dd_keep {acc l : List (List Nat)} {s : List Int} (h : s ∈ acc.map r) : s ∈ (dd r acc l).map r := by
  obtain ⟨N, e⟩ := dd_pre (r := r) l acc
  rw [e, List.map_append]
  exact List.mem_append_left _ h
theorem dd_mem : ∀ {l acc : List (List Nat)} {v : List Nat}, v ∈ l → r v ∈ (dd r acc l).map r
  | [], _, _, h => nomatch h
  | a :: l, acc, v, h => by
    rw [dd_cons]
    rcases List.mem_cons.mp h with rfl | h
    · refine dd_keep ?_
      by_cases h : r v ∈ acc.map r
      · rw [if_pos h]; exact h
      · rw [if_neg h, List.map_append]; exact List.mem_append_right _ (by simp)
    · exact dd_mem h
theorem dd_sub : ∀ {l acc : List (List Nat)} {v : List Nat}, v ∈ dd r acc l → v ∈ acc ∨ v ∈ l
  | [], _, _, h => .inl h
  | a :: l, acc, v, h => by
    rw [dd_cons] at h
    rcases dd_sub h with h | h
    · by_cases e : r a ∈ acc.map r
      · rw [if_pos e] at h; exact .inl h
      · rw [if_neg e] at h
        rcases List.mem_append.mp h with h | h
        · exact .inl h
        · exact .inr (by rw [List.mem_singleton.mp h]; exact List.mem_cons_self ..)
    · exact .inr (List.mem_cons_of_mem _ h)
theorem dd_noop : ∀ {l acc : List (List Nat)}, (∀ v ∈ l, r v ∈ acc.map r) → dd r acc l = acc
  | [], _, _ => rfl
  | a :: l, acc, h => by
    rw [dd_cons, if_pos (h a (List.mem_cons_self ..))]
    exact dd_noop fun v hv => h v (List.mem_cons_of_mem _ hv)
theorem dd_nodup : ∀ {l acc : List (List Nat)}, (acc.map r).Nodup → ((dd r acc l).map r).Nodup
  | [], _, h => h
  | a :: l, acc, h => by
    rw [dd_cons]
    refine dd_nodup ?_
    by_cases e : r a ∈ acc.map r
    · rw [if_pos e]; exact h
    · rw [if_neg e, List.map_append]
      refine List.nodup_append.mpr ⟨h, by simp, fun x hx y hy => ?_⟩
      rw [List.map_singleton, List.mem_singleton] at hy
      rw [hy]
      exact fun z => e (z ▸ hx)
theorem find_dd {p : List Nat → Bool} (hp : ∀ u v, r u = r v → p u = p v) : ∀ (l acc : List (List Nat)), (dd r acc l).find? p = (acc.find? p).or (l.find? p)
  | [], acc => by rw [dd_nil]; simp
  | a :: l, acc => by
    rw [dd_cons]
    by_cases e : r a ∈ acc.map r
    · rw [if_pos e, find_dd hp l acc]
      cases h : acc.find? p with
      | some z => rfl
      | none =>
        obtain ⟨b, hb, eb⟩ := List.mem_map.mp e
        have : p a = false := by rw [← hp b a eb]; simpa using List.find?_eq_none.mp h b hb
        rw [List.find?_cons, this]
    · rw [if_neg e, find_dd hp l, List.find?_append, List.find?_cons]
      cases acc.find? p with
      | some z => simp
      | none => cases h : p a <;> simp [h]
theorem exts_app (w : Nat) (A B : List (List Nat)) : exts w (A ++ B) = exts w A ++ exts w B := List.flatMap_append
theorem exts_cons (w : Nat) (a : List Nat) (B : List (List Nat)) : exts w (a :: B) = ext w a ++ exts w B := rfl
theorem mem_ext {w : Nat} {u v : List Nat} : v ∈ ext w u ↔ ∃ k, k < w ∧ v = u ++ [k] := by
  rw [ext, List.mem_map]
  constructor
  · rintro ⟨k, hk, rfl⟩; exact ⟨k, List.mem_range.mp hk, rfl⟩
  · rintro ⟨k, hk, rfl⟩; exact ⟨k, List.mem_range.mpr hk, rfl⟩
theorem mem_exts {w : Nat} {B : List (List Nat)} {v : List Nat} : v ∈ exts w B ↔ ∃ u ∈ B, ∃ k, k < w ∧ v = u ++ [k] := by
  rw [exts, List.mem_flatMap]
  constructor
  · rintro ⟨u, hu, hv⟩; exact ⟨u, hu, mem_ext.mp hv⟩
  · rintro ⟨u, hu, hv⟩; exact ⟨u, hu, mem_ext.mpr hv⟩
/-- words that add no state add none behind them -/
theorem exts_dd {w : Nat} (hr : ∀ u v k, r u = r v → r (u ++ [k]) = r (v ++ [k])) : ∀ (A acc acc1 B : List (List Nat)), dd r acc A = acc ++ B → (∀ u ∈ acc, ∀ k, k < w → r (u ++ [k]) ∈ acc1.map r) → dd r acc1 (exts w A) = dd r acc1 (exts w B)
  | [], acc, acc1, B, h, _ => by
    have : B = [] := by
      have := congrArg List.length h
      rw [dd_nil, List.length_append] at this
      exact List.length_eq_zero_iff.mp (by omega)
    rw [this]
  | a :: A, acc, acc1, B, h, hc => by
    rw [dd_cons] at h
    by_cases e : r a ∈ acc.map r
    · rw [if_pos e] at h
      obtain ⟨b, hb, eb⟩ := List.mem_map.mp e
      have e1 : dd r acc1 (ext w a) = acc1 := dd_noop fun v hv => by
        obtain ⟨k, hk, rfl⟩ := mem_ext.mp hv
        rw [← hr b a k eb]
        exact hc b hb k hk
      rw [exts_cons, dd_app, e1]
      exact exts_dd hr A acc acc1 B h hc
    · rw [if_neg e] at h
      obtain ⟨N, en⟩ := dd_pre (r := r) A (acc ++ [a])
      have eB : B = a :: N := by
        rw [en, List.append_assoc] at h
        exact (List.append_cancel_left h).symm
      subst eB
      rw [exts_cons, exts_cons, dd_app, dd_app]
      refine exts_dd hr A (acc ++ [a]) _ N en fun u hu k hk => ?_
      rcases List.mem_append.mp hu with hu | hu
      · exact dd_keep (hc u hu k hk)
      · rw [List.mem_singleton.mp hu]
        exact dd_mem (mem_ext.mpr ⟨k, hk, rfl⟩)
/-- what a search has after n layers -/
structure BfsI (r : List Nat → List Int) (w n : Nat) (M B : List (List Nat)) : Prop where
  ex : ∃ M0, M = M0 ++ B ∧ M = dd r M0 (allW w n) ∧ ∀ u ∈ M0, ∀ k, k < w → r (u ++ [k]) ∈ M.map r
  all : M = dd r [] (allU w n)
  nd : (M.map r).Nodup
  pre : ∀ u k, u ++ [k] ∈ M → u ∈ M
  lt : ∀ u ∈ M, ∀ k ∈ u, k < w
  len : ∀ u ∈ B, u.length = n
  hd : ∃ T, M = [] :: T
theorem bfs_ok (hr : ∀ u v k, r u = r v → r (u ++ [k]) = r (v ++ [k])) (w : Nat) : ∀ n, BfsI r w n (bfs r w n).1 (bfs r w n).2
  | 0 => ⟨⟨[], rfl, rfl, fun u hu => nomatch hu⟩, rfl, by simp [bfs], fun u k h => by simp [bfs] at h, fun u hu k hk => by
      have : u = [] := by simpa [bfs] using hu
      rw [this] at hk; exact (List.not_mem_nil hk).elim, fun u hu => by
      have : u = [] := by simpa [bfs] using hu
      rw [this]; rfl, ⟨[], rfl⟩⟩
  | n + 1 => by
    obtain ⟨⟨M0, h1, h2, h3⟩, h4, h5, h6, h7, h8, h9⟩ := bfs_ok hr w n
    generalize hM : (bfs r w n).1 = M at *
    generalize hB : (bfs r w n).2 = B at *
    obtain ⟨N, en⟩ := dd_pre (r := r) (exts w B) M
    have e1 : (bfs r w (n + 1)).1 = M ++ N := by
      show dd r (bfs r w n).1 (exts w (bfs r w n).2) = _
      rw [hM, hB, en]
    have e2 : (bfs r w (n + 1)).2 = N := by
      show (dd r (bfs r w n).1 (exts w (bfs r w n).2)).drop (bfs r w n).1.length = _
      rw [hM, hB, en, List.drop_left]
    rw [e1, e2]
    have e3 : M ++ N = dd r M (allW w (n + 1)) := by
      rw [← en]
      exact (exts_dd hr (allW w n) M0 M B (by rw [← h2]; exact h1) h3).symm
    have hN : ∀ v ∈ N, ∃ u ∈ B, ∃ k, k < w ∧ v = u ++ [k] := fun v hv => by
      -- v is new
      have hnd : ((M ++ N).map r).Nodup := by rw [← en]; exact dd_nodup h5
      rcases dd_sub (r := r) (l := exts w B) (acc := M) (by rw [en]; exact List.mem_append_right _ hv) with h | h
      · exfalso
        rw [List.map_append] at hnd
        exact (List.nodup_append.mp hnd).2.2 (r v) (List.mem_map_of_mem h) (r v) (List.mem_map_of_mem hv) rfl
      · exact mem_exts.mp h
    have hBM : ∀ u ∈ B, u ∈ M := fun u hu => by rw [h1]; exact List.mem_append_right _ hu
    refine ⟨⟨M, rfl, e3, fun u hu k hk => ?_⟩, ?_, by rw [← en]; exact dd_nodup h5, fun u k hu => ?_, fun u hu k hk => ?_, fun u hu => ?_, ?_⟩
    · rw [← en]
      rw [h1] at hu
      rcases List.mem_append.mp hu with hu | hu
      · exact dd_keep (h3 u hu k hk)
      · exact dd_mem (mem_exts.mpr ⟨u, hu, k, hk, rfl⟩)
    · rw [e3, h4]
      exact (dd_app _ _ _).symm
    · rcases List.mem_append.mp hu with hu | hu
      · exact List.mem_append_left _ (h6 u k hu)
      · obtain ⟨u', hu', k', _, e⟩ := hN _ hu
        obtain ⟨rfl, _⟩ := List.append_inj' e rfl
        exact List.mem_append_left _ (hBM u hu')
    · rcases List.mem_append.mp hu with hu | hu
      · exact h7 u hu k hk
      · obtain ⟨u', hu', k', hk', rfl⟩ := hN _ hu
        rcases List.mem_append.mp hk with hk | hk
        · exact h7 u' (hBM u' hu') k hk
        · rw [List.mem_singleton.mp hk]; exact hk'
    · obtain ⟨u', hu', k', _, rfl⟩ := hN _ hu
      rw [List.length_append, h8 u' hu']; rfl
    · obtain ⟨T, eT⟩ := h9
      exact ⟨T ++ N, by rw [eT]; rfl⟩
theorem allU_pre (w : Nat) : ∀ {n m : Nat}, n ≤ m → ∃ R, allU w m = allU w n ++ R
  | n, 0, h => ⟨[], by rw [Nat.le_zero.mp h]; simp⟩
  | n, m + 1, h => by
    by_cases e : n = m + 1
    · exact ⟨[], by rw [e]; simp⟩
    · obtain ⟨R, eR⟩ := allU_pre w (show n ≤ m by omega)
      exact ⟨R ++ allW w (m + 1), by rw [allU, eR, List.append_assoc]⟩
theorem allW_len (w : Nat) : ∀ (n : Nat) (v : List Nat), v ∈ allW w n ↔ v.length = n ∧ ∀ k ∈ v, k < w
  | 0, v => by
    simp only [allW, List.mem_singleton]
    constructor
    · rintro rfl; exact ⟨rfl, fun k h => nomatch h⟩
    · rintro ⟨h, _⟩; exact List.length_eq_zero_iff.mp h
  | n + 1, v => by
    rw [allW, mem_exts]
    constructor
    · rintro ⟨u, hu, k, hk, rfl⟩
      obtain ⟨h1, h2⟩ := (allW_len w n u).mp hu
      refine ⟨by rw [List.length_append, h1]; rfl, fun j hj => ?_⟩
      rcases List.mem_append.mp hj with h | h
      · exact h2 j h
      · rw [List.mem_singleton.mp h]; exact hk
    · rintro ⟨h1, h2⟩
      have hne : v ≠ [] := fun e => by rw [e] at h1; simp at h1
      refine ⟨v.dropLast, (allW_len w n _).mpr ⟨by rw [List.length_dropLast, h1]; rfl, fun k hk => h2 k (List.dropLast_subset v hk)⟩, v.getLast hne, h2 _ (List.getLast_mem hne), (List.dropLast_concat_getLast hne).symm⟩
theorem allU_mem (w : Nat) : ∀ (n : Nat) (v : List Nat), v ∈ allU w n ↔ v.length ≤ n ∧ ∀ k ∈ v, k < w
  | 0, v => by
    simp only [allU, List.mem_singleton]
    constructor
    · rintro rfl; exact ⟨Nat.le_refl _, fun k h => nomatch h⟩
    · rintro ⟨h, _⟩; exact List.length_eq_zero_iff.mp (by omega)
  | n + 1, v => by
    rw [allU, List.mem_append, allU_mem w n, allW_len w (n + 1)]
    constructor
    · rintro (⟨a, b⟩ | ⟨a, b⟩)
      · exact ⟨by omega, b⟩
      · exact ⟨by omega, b⟩
    · rintro ⟨a, b⟩
      by_cases e : v.length = n + 1
      · exact .inr ⟨e, b⟩
      · exact .inl ⟨by omega, b⟩
/-- the first of all words, up to a length, for which p holds -/
theorem bfs_find {p : List Nat → Bool} (hr : ∀ u v k, r u = r v → r (u ++ [k]) = r (v ++ [k])) (hp : ∀ u v, r u = r v → p u = p v) (w n : Nat) : (bfs r w n).1.find? p = (allU w n).find? p := by
  rw [(bfs_ok hr w n).all, find_dd hp]; simp
/-- an empty layer: nothing comes later -/
theorem bfs_end (hr : ∀ u v k, r u = r v → r (u ++ [k]) = r (v ++ [k])) {w n : Nat} (h : (bfs r w n).2 = []) : ∀ m, n ≤ m → bfs r w m = ((bfs r w n).1, [])
  | m, hm => by
    induction m with
    | zero =>
      have : n = 0 := by omega
      subst this
      exact Prod.ext rfl h
    | succ m ih =>
      by_cases e : n = m + 1
      · subst e; exact Prod.ext rfl h
      · have := ih (by omega)
        show (dd r (bfs r w m).1 (exts w (bfs r w m).2), _) = _
        rw [this]
        exact Prod.ext rfl (by show List.drop _ (dd r _ (exts w [])) = []; simp [exts, dd_nil])
end
end K1
set_option Elab.async false
set_option linter.all false
set_option maxRecDepth 100000
/-! walks.next_layer -/
namespace L2
open PySem PySem.Spec PyProof.Rows
/-- zip of two tuples, walked -/
theorem walk_zipT {K : PySem.W.Frag} {a b : Addr} {xs ys : List V} {n : Nat} (hn : n = min xs.length ys.length) : Walk (RZ.ItzT K a b) n (fun H => SqT K H a xs ∧ SqT K H b ys) (YPair (fun i => xs[i]?) (fun i => ys[i]?)) := by
  refine ⟨fun i H hi h => ?_, fun H h => ⟨xs, ys, h.1, h.2, by omega⟩, fun i H x H' hi h y => ?_⟩
  · have h1 : i < xs.length := by omega
    have h2 : i < ys.length := by omega
    exact ⟨xs, ys, _, _, h.1, h.2, List.getElem?_eq_getElem h1, List.getElem?_eq_getElem h2⟩
  · obtain ⟨T, x', y', e, hT, e2, f1, f2⟩ := y
    exact ⟨T, x', y', e, hT, e2, f1 xs h.1, f2 ys h.2⟩
theorem valV_mem {κ : Type} [DecidableEq κ] {k : κ} {v : V} : ∀ {kvs : List (κ × V)}, (kvs.map (·.1)).Nodup → (k, v) ∈ kvs → valV kvs k = some v
  | [], _, h => nomatch h
  | p :: q, hn, h => by
    rcases List.mem_cons.mp h with e | h
    · rw [← e]; exact valV_pos rfl
    · rw [List.map_cons, List.nodup_cons] at hn
      rw [valV_neg fun e => hn.1 (by rw [e]; exact List.mem_map_of_mem (f := (·.1)) h)]
      exact valV_mem hn.2 h
theorem valV_no {κ : Type} [DecidableEq κ] {k : κ} : ∀ {kvs : List (κ × V)}, k ∉ kvs.map (·.1) → valV kvs k = none
  | [], _ => rfl
  | p :: q, h => by
    rw [List.map_cons, List.mem_cons] at h
    rw [valV_neg fun e => h (.inl e.symm)]
    exact valV_no fun z => h (.inr z)
end L2
namespace K1
open PySem L2 LamX
/-! tuples of states, tables -/
def stepT (ts : List (List (List Int))) (k : Nat) (vs : List Int) : List Int := List.zipWith (fun t v => (t.getD v.toNat []).getD k 0) ts vs
def runT (ts : List (List (List Int))) (s0 : List Int) (u : List Nat) : List Int := u.foldl (fun s k => stepT ts k s) s0
theorem runT_snoc (ts : List (List (List Int))) (s0 : List Int) (u : List Nat) (k : Nat) : runT ts s0 (u ++ [k]) = stepT ts k (runT ts s0 u) := by simp [runT]
theorem runT_c (ts : List (List (List Int))) (s0 : List Int) : ∀ u v k, runT ts s0 u = runT ts s0 v → runT ts s0 (u ++ [k]) = runT ts s0 (v ++ [k]) := fun u v k e => by rw [runT_snoc, runT_snoc, e]
def TabOk (w : Nat) (t : List (List Int)) : Prop := ∀ row ∈ t, row.length = w ∧ ∀ x ∈ row, 0 ≤ x ∧ x < (t.length : Int)
def StOk (ts : List (List (List Int))) (vs : List Int) : Prop := vs.length = ts.length ∧ ∀ (i : Nat) (t : List (List Int)) (v : Int), ts[i]? = some t → vs[i]? = some v → 0 ≤ v ∧ v < (t.length : Int)
theorem StOk.step {w : Nat} {ts : List (List (List Int))} {vs : List Int} {k : Nat} (h : StOk ts vs) (ht : ∀ t ∈ ts, TabOk w t) (hk : k < w) : StOk ts (stepT ts k vs) := by
  refine ⟨by simp [stepT, h.1], fun i t v e1 e2 => ?_⟩
  rw [stepT, List.getElem?_zipWith] at e2
  rw [e1] at e2
  cases ev : vs[i]? with
  | none => rw [ev] at e2; cases e2
  | some v0 =>
    rw [ev] at e2
    cases e2
    obtain ⟨h0, h1⟩ := h.2 i t v0 e1 ev
    have hrow := getD_get ([] : List Int) (xs := t) (n := v0.toNat) (by omega)
    obtain ⟨hl, hx⟩ := ht t (List.mem_of_getElem? e1) _ (List.mem_of_getElem? hrow)
    exact hx _ (List.mem_of_getElem? (getD_get (0 : Int) (by rw [hl]; exact hk)))
theorem StOk.run {w : Nat} {ts : List (List (List Int))} {s0 : List Int} (h : StOk ts s0) (ht : ∀ t ∈ ts, TabOk w t) : ∀ (u : List Nat) , (∀ k ∈ u, k < w) → StOk ts (runT ts s0 u) := fun u => by
  show _ → StOk ts (u.foldl (fun s k => stepT ts k s) s0)
  induction u generalizing s0 with
  | nil => exact fun _ => h
  | cons k u ih => exact fun hu => ih (h.step ht (hu k (List.mem_cons_self ..))) fun j hj => hu j (List.mem_cons_of_mem _ hj)
/-! dicts of what is met -/
def keyI (s : List Int) : List Key := s.map Sum.inl
theorem keyI_kV (s : List Int) : (keyI s).map kV = s.map V.int := by simp [keyI, kV]
theorem keyI_inj {s t : List Int} (h : keyI s = keyI t) : s = t := by
  induction s generalizing t with
  | nil => cases t with
    | nil => rfl
    | cons a b => cases h
  | cons x q ih => cases t with
    | nil => cases h
    | cons a b =>
      simp only [keyI, List.map_cons, List.cons.injEq, Sum.inl.injEq] at h
      rw [h.1, ih h.2]
def KeepT (H H' : Hp) : Prop := ∀ a xs, H a = some (.tup xs) → H' a = some (.tup xs)
theorem KeepT.of {H H' : Hp} (s : Same H H') : KeepT H H' := fun a xs e => s _ _ e
theorem KeepT.trans {H H1 H2 : Hp} (a : KeepT H H1) (b : KeepT H1 H2) : KeepT H H2 := fun c xs e => b _ _ (a _ _ e)
theorem KeepT.updT {H : Hp} {a : Addr} {kvs : List (List Key × V)} {o : HO} (h : H a = some (.dT kvs)) : KeepT H (upd H a o) := fun b xs e => by rw [upd_ne (ne_of e h (by intro z; cases z))]; exact e
theorem KeepT.updF {H : Hp} {a : Addr} {kvs : List (List Key × V)} {od : Obj} {o : HO} (h : H a = some (.frz od (.dT kvs))) : KeepT H (upd H a o) := fun b xs e => by rw [upd_ne (ne_of e h (by intro z; cases z))]; exact e
section
variable (r : List Nat → List Int) (ws : List Str)
/-- how a word's last step is told -/
def EVal (H : Hp) (v : V) (u : List Nat) : Prop := (u = [] ∧ v = .non) ∨ ∃ (u' : List Nat) (k : Nat) (t q : Addr), u = u' ++ [k] ∧ v = .ref t ∧ H t = some (.tup [.ref q, .str (ws.getD k "")]) ∧ H q = some (.tup ((r u').map V.int))
def Ents (H : Hp) (kvs : List (List Key × V)) (M : List (List Nat)) : Prop := kvs.length = M.length ∧ ∀ (i : Nat) (k : List Key) (v : V) (u : List Nat), kvs[i]? = some (k, v) → M[i]? = some u → k = keyI (r u) ∧ EVal r ws H v u
def DAt (H : Hp) (d : Addr) (M : List (List Nat)) : Prop := ∃ kvs, H d = some (.dT kvs) ∧ Ents r ws H kvs M
variable {r ws}
theorem EVal.keep {H H' : Hp} {v : V} {u : List Nat} (h : EVal r ws H v u) (k : KeepT H H') : EVal r ws H' v u := by
  rcases h with h | ⟨u', j, t, q, h1, h2, h3, h4⟩
  · exact .inl h
  · exact .inr ⟨u', j, t, q, h1, h2, k _ _ h3, k _ _ h4⟩
theorem Ents.keep {H H' : Hp} {kvs : List (List Key × V)} {M : List (List Nat)} (h : Ents r ws H kvs M) (k : KeepT H H') : Ents r ws H' kvs M := ⟨h.1, fun i j v u e1 e2 => ⟨(h.2 i j v u e1 e2).1, (h.2 i j v u e1 e2).2.keep k⟩⟩
theorem Ents.keys {H : Hp} : ∀ {kvs : List (List Key × V)} {M : List (List Nat)}, Ents r ws H kvs M → kvs.map (·.1) = M.map fun u => keyI (r u)
  | [], [], _ => rfl
  | [], _ :: _, h => by simp [Ents] at h
  | _ :: _, [], h => by simp [Ents] at h
  | (k, v) :: kvs, u :: M, h => by
    rw [List.map_cons, List.map_cons, (h.2 0 k v u rfl rfl).1, Ents.keys (kvs := kvs) (M := M) ⟨by simpa using h.1, fun i k v u e1 e2 => h.2 (i + 1) k v u e1 e2⟩]
theorem Ents.nodup {H : Hp} {kvs : List (List Key × V)} {M : List (List Nat)} (h : Ents r ws H kvs M) (hn : (M.map r).Nodup) : (kvs.map (·.1)).Nodup := by
  rw [h.keys]
  have : (M.map fun u => keyI (r u)) = (M.map r).map keyI := by rw [List.map_map]; rfl
  rw [this]
  exact hn.map keyI fun a b e hab => e (keyI_inj hab)
theorem Ents.no {H : Hp} {kvs : List (List Key × V)} {M : List (List Nat)} {s : List Int} (h : Ents r ws H kvs M) (hs : s ∉ M.map r) : valV kvs (keyI s) = none := by
  refine valV_no fun z => hs ?_
  rw [h.keys] at z
  obtain ⟨u, hu, e⟩ := List.mem_map.mp z
  rw [← keyI_inj e]
  exact List.mem_map_of_mem hu
theorem Ents.at {H : Hp} {kvs : List (List Key × V)} {M : List (List Nat)} (h : Ents r ws H kvs M) (hn : (M.map r).Nodup) {u : List Nat} (hu : u ∈ M) : ∃ v, valV kvs (keyI (r u)) = some v ∧ EVal r ws H v u := by
  obtain ⟨i, hi⟩ := List.getElem?_of_mem hu
  have hl : i < kvs.length := by rw [h.1]; exact (List.getElem?_eq_some_iff.mp hi).1
  obtain ⟨⟨k, v⟩, hk⟩ : ∃ p, kvs[i]? = some p := ⟨_, List.getElem?_eq_getElem hl⟩
  obtain ⟨e, ev⟩ := h.2 i k v u hk hi
  exact ⟨v, by rw [← e]; exact valV_mem (h.nodup hn) (List.mem_of_getElem? hk), ev⟩
theorem Ents.isSome {H : Hp} {kvs : List (List Key × V)} {M : List (List Nat)} (h : Ents r ws H kvs M) (hn : (M.map r).Nodup) (s : List Int) : (valV kvs (keyI s)).isSome = decide (s ∈ M.map r) := by
  by_cases hs : s ∈ M.map r
  · rw [decide_eq_true hs]
    obtain ⟨u, hu, rfl⟩ := List.mem_map.mp hs
    obtain ⟨v, e, _⟩ := h.at hn hu
    rw [e]; rfl
  · rw [decide_eq_false hs, h.no hs]; rfl
theorem Ents.snoc {H : Hp} {kvs : List (List Key × V)} {M : List (List Nat)} {u : List Nat} {v : V} (h : Ents r ws H kvs M) (hv : EVal r ws H v u) : Ents r ws H (kvs ++ [(keyI (r u), v)]) (M ++ [u]) := by
  refine ⟨by simp [h.1], fun i k v' u' e1 e2 => ?_⟩
  by_cases hi : i < kvs.length
  · rw [List.getElem?_append_left hi] at e1
    rw [List.getElem?_append_left (by rw [← h.1]; exact hi)] at e2
    exact h.2 i k v' u' e1 e2
  · rw [List.getElem?_append_right (by omega)] at e1
    rw [List.getElem?_append_right (by rw [← h.1]; omega), ← h.1] at e2
    cases hj : i - kvs.length with
    | zero =>
      rw [hj] at e1 e2
      simp at e1 e2
      obtain ⟨rfl, rfl⟩ := e1
      subst e2
      exact ⟨rfl, hv⟩
    | succ j => rw [hj] at e1; simp at e1
theorem DAt.same {H H' : Hp} {d : Addr} {M : List (List Nat)} (h : DAt r ws H d M) (s : Same H H') : DAt r ws H' d M := by
  obtain ⟨kvs, h1, h2⟩ := h
  exact ⟨kvs, s _ _ h1, h2.keep (.of s)⟩
end
theorem dd_len {r : List Nat → List Int} : ∀ (l acc : List (List Nat)), (dd r acc l).length ≤ acc.length + l.length
  | [], acc => by simp [dd_nil]
  | a :: l, acc => by
    rw [dd_cons]
    refine Nat.le_trans (dd_len l _) ?_
    by_cases e : r a ∈ acc.map r
    · rw [if_pos e, List.length_cons]; omega
    · rw [if_neg e, List.length_append]; simp only [List.length_cons, List.length_nil]; omega
theorem exts_len (w : Nat) : ∀ B : List (List Nat), (exts w B).length = w * B.length
  | [] => by simp [exts]
  | a :: B => by rw [exts_cons, List.length_append, exts_len w B, ext, List.length_map, List.length_range, List.length_cons, Nat.mul_succ]; omega
theorem ext_take {w j : Nat} (u : List Nat) (hj : j < w) : (ext w u).take (j + 1) = (ext w u).take j ++ [u ++ [j]] := by
  rw [List.take_add_one]
  congr 1
  rw [ext, List.getElem?_map, List.getElem?_range hj]; rfl
theorem ext_all {w : Nat} (u : List Nat) : (ext w u).take w = ext w u := List.take_of_length_le (by simp [ext])
/-- tables: tuples of tuples of rows -/
def TabsAt (K : PySem.W.Frag) (H : Hp) (tt : Addr) (ts : List (List (List Int))) : Prop := ∃ as : List Addr, SqT K H tt (as.map V.ref) ∧ as.length = ts.length ∧ ∀ (i : Nat) (a : Addr) (t : List (List Int)), as[i]? = some a → ts[i]? = some t → ∃ bs : List Addr, H a = some (.tup (bs.map V.ref)) ∧ RowsT H bs t
theorem TabsAt.keep {K : PySem.W.Frag} {H H' : Hp} {tt : Addr} {ts : List (List (List Int))} (h : TabsAt K H tt ts) (k : KeepT H H') (kt : ∀ a xs, SqT K H a xs → SqT K H' a xs) : TabsAt K H' tt ts := by
  obtain ⟨as, h1, h2, h3⟩ := h
  refine ⟨as, kt _ _ h1, h2, fun i a t e1 e2 => ?_⟩
  obtain ⟨bs, g1, g2⟩ := h3 i a t e1 e2
  exact ⟨bs, k _ _ g1, g2.1, fun j b q f1 f2 => k _ _ (g2.2 j b q f1 f2)⟩
abbrev sNL : Stmt := top 17
def spNL (K : PySem.W.Frag) : Sp := fun vs H Q _ => ∃ (de tt la me : Addr) (ws : List Str) (ts : List (List (List Int))) (s0 : List Int) (M B : List (List Nat)), vs = [.ref de, .ref tt, .ref la, .ref me] ∧ SqT K H de (ws.map V.str) ∧ TabsAt K H tt ts ∧
  (∀ t ∈ ts, TabOk ws.length t) ∧ StOk ts s0 ∧ DAt (runT ts s0) ws H la B ∧ DAt (runT ts s0) ws H me M ∧ la ≠ me ∧ (M.map (runT ts s0)).Nodup ∧ (∀ u ∈ B, ∀ k ∈ u, k < ws.length) ∧ ws.length * B.length ≤ 100000 ∧ ts.length ≤ 900 ∧
  ∀ (p : Addr) (N : List (List Nat)) (H' : Hp), H p = none → Same H H' → dd (runT ts s0) M (exts ws.length B) = M ++ N → DAt (runT ts s0) ws H' p N → Q (.ref p) H'
end K1
set_option Elab.async false
set_option linter.all false
set_option maxRecDepth 100000
/-! walks.next_layer keeps its promise -/
namespace K1
open PySem L2 LamX
section
variable {P : Program} {w : World} {K : PySem.W.Frag} {mg : Str → Option Value} {base : Heap}
abbrev pNL : List Str := ["deeds", "tables", "layer", "met"]
abbrev nNL : List Str := ["deeds", "tables", "layer", "met", "steps", "states", "index", "deed", "led", "table", "state"]
theorem scNL : FnScope nNL pNL (defScope sNL) := ⟨rfl, rfl, rfl, by decide +kernel, rfl, by decide +kernel, by decide +kernel⟩
theorem ok_nl {f : Addr} {fd : FuncData} (D : Df K mg "next_layer" sNL pNL f fd) (T : Bt2 mg) (hz : mg "zip" = none) : FnOk P w K mg base CX0 1 f fd pNL (spNL K) := by
  refine D.F.ok scNL (fun vs H Q E h => ?_) (fun cdv A outer s H vs Q E hr h => ?_)
  · obtain ⟨de, tt, la, me, ws, ts, s0, M, B, rfl, _⟩ := h
    rfl
  · obtain ⟨de, tt, la, me, ws, ts, s0, M, B, rfl, hde, htt, htab, hs0, hla, hme, nlm, hnd, hB, hsz, h900, k⟩ := h
    have hu := hu_of hr
    refine ⟨_, pss_cons (ps_set (i := 4) scNL.nd rfl (Or.inl rfl) pe_dnewT)
      (pss_cons (ps_lock (ps_for PassesOwn.never rfl (pi_keys (pv 2)) (pg_name (i := 5) scNL.nd rfl (Or.inl rfl))
        (pss_one (ps_for PassesOwn.never rfl (pi_enumT (by rfl) T.enumerate (pa_cons (pv 0) pa_nil)) (pg_tup (by rfl) (pgs_cons (pg_name (i := 6) scNL.nd rfl (Or.inr rfl)) (pgs_cons (pg_name (i := 7) scNL.nd rfl (Or.inl rfl)) pgs_nil)))
          (pss_cons (ps_set (i := 8) scNL.nd rfl (Or.inl rfl) (pe_callTy (r := rTu K) call_tuple_of (by rfl) T.tuple PyProof.Rows.boot_tuple (pa_cons (pe_lc (own := [("table", 9), ("state", 10)]) (g := gTup K 2 (gCons (gName 9) (gCons (gName 10) gNil))) (by rfl) scNL.nd (RZ.pi_zipA (by rfl) hz (pa_cons (pv 1) (pa_cons (pv 5) pa_nil)))
              (blkOk_by (own := [("table", 9), ("state", 10)]) (N := nNL) (sc := defScope sNL) (by decide +kernel)) (fun _ _ _ _ _ => pg_tup (by rfl) (pgs_cons (pg_name (i := 9) scNL.nd rfl (Or.inl rfl)) (pgs_cons (pg_name (i := 10) scNL.nd rfl (Or.inl rfl)) pgs_nil))) (fun _ _ _ _ _ => pts_nil)
              (fun _ _ _ _ _ => pe_ix (r := rIxT K) ix_tup (pe_ix (r := rIxT K) ix_tup (pv 9) (pv 10) (fun _ _ => rfl)) (pv 6) (fun _ _ => rfl))) pa_nil)))
          (pss_one (ps_if (PW.pt (pw_and (pt_cmp (pc_dnotin hu (pv 8) (pv 3))) (pw_and1 (pt_cmp (pc_dnotin hu (pv 8) (pv 4))))))
            (pss_one (ps_dput hu (pv 4) (pv 8) (pe_tup (pa_cons (pv 5) (pa_cons (pv 7) pa_nil))) rfl)) pss_nil)))))))
      (pss_one (ps_ret (pv 4)))), ?_⟩
    intro p hp
    obtain ⟨kB, hlaB, hEB⟩ := id hla
    obtain ⟨kM, hmeM, hEM⟩ := id hme
    have s1 := same_upd (o := .dT []) hp
    have ep1 : upd H p (.dT []) p = some (.dT []) := upd_same
    have npl : p ≠ la := (ne_of_none hlaB hp).symm
    have npm : p ≠ me := (ne_of_none hmeM hp).symm
    generalize hR : runT ts s0 = r at *
    generalize upd H p (.dT []) = H1 at s1 ep1 ⊢
    have hla1 := s1 _ _ hlaB
    have hme1 := s1 _ _ hmeM
    have tup_kx : ∀ {G : Hp}, (∀ b o, b ≠ la → b ≠ p → H1 b = some o → G b = some o) → KeepT H1 G := fun kx a xs e => kx _ _ (ne_of e hla1 (by intro z; cases z)) (ne_of e ep1 (by intro z; cases z)) e
    have sqt_kx : ∀ {G : Hp} {a : Addr} {xs : List V}, (∀ b o, b ≠ la → b ≠ p → H1 b = some o → G b = some o) → SqT K H1 a xs → SqT K G a xs := fun {G a xs} kx h => by
      rcases h with (h | ⟨o, h⟩) | h
      · exact .inl (.inl (tup_kx kx _ _ h))
      · exact .inl (.inr ⟨o, kx _ _ (ne_of h hla1 (by intro z; cases z)) (ne_of h ep1 (by intro z; cases z)) h⟩)
      · exact .inr h
    have hde1 := hde.ext s1
    have htt1 : TabsAt K H1 tt ts := htt.keep (.of s1) fun a xs h => h.ext s1
    have hEM1 := hEM.keep (.of s1)
    have hEB1 := hEB.keep (.of s1)
    have lw : ((ws.map V.str).length) = ws.length := List.length_map _
    refine ⟨la, .dT kB, hla1, trivial, fun od => ?_⟩
    refine ⟨_, rfl, la, od, rfl, .inr ⟨kB, upd_same, for_it (walk_keysT (d := la) (o := od) (kvs := kB)) (fun i σ H' => (∀ b o, b ≠ la → b ≠ p → H1 b = some o → H' b = some o) ∧ H' la = some (.frz od (.dT kB)) ∧
      (∃ kN N, H' p = some (.dT kN) ∧ Ents r ws H' kN N ∧ dd r M (exts ws.length (B.take i)) = M ++ N) ∧ ∃ v5 v6 v7 v8, σ = [some (.ref de), some (.ref tt), some (.ref la), some (.ref me), some (.ref p), v5, v6, v7, v8, none, none]) ?_ (fun i σ H' _ q => q.2.1) ?_ ?_⟩⟩
    · refine ⟨fun b o n1 n2 e => by rw [upd_ne n1]; exact e, upd_same, ⟨[], [], by rw [upd_ne npl]; exact ep1, ⟨rfl, fun i k v u e => by simp at e⟩, by simp [exts, dd_nil]⟩, none, none, none, none, rfl⟩
    · rintro i y σ H2 H2' hi ⟨kx, hla2, ⟨kN, N, hpN, hEN, hdd⟩, v5, v6, v7, v8, rfl⟩ ⟨rfl, key, v, q, hkv, rfl, hq⟩
      have hiB : i < B.length := by rw [← hEB.1]; exact hi
      have eu : B[i]? = some B[i] := List.getElem?_eq_getElem hiB
      have hub := hB _ (List.getElem_mem hiB)
      have etk : B.take (i + 1) = B.take i ++ [B[i]] := by rw [List.take_add_one, eu]; rfl
      generalize B[i] = u at eu hub etk
      obtain ⟨rfl, hev⟩ := hEB1.2 i _ _ _ hkv eu
      rw [keyI_kV] at hq
      have hst : StOk ts (r u) := by rw [← hR]; exact hs0.run htab u hub
      have hgo : ∀ j, r (u ++ [j]) = stepT ts j (r u) := fun j => by rw [← hR]; exact runT_snoc ts s0 u j
      -- the deeds
      refine ⟨_, rfl, de, _, rfl, sqt_kx kx hde1, ?_⟩
      refine for_it (walk_enumT (K := K) (a := de) (xs := ws.map V.str)) (fun j σ H' => (∀ b o, b ≠ la → b ≠ p → H1 b = some o → H' b = some o) ∧ H' la = some (.frz od (.dT kB)) ∧ H' q = some (.tup ((r u).map V.int)) ∧
        (∃ kN N, H' p = some (.dT kN) ∧ Ents r ws H' kN N ∧ dd r M (exts ws.length (B.take i) ++ (ext ws.length u).take j) = M ++ N) ∧ ∃ v6 v7 v8, σ = [some (.ref de), some (.ref tt), some (.ref la), some (.ref me), some (.ref p), some (.ref q), v6, v7, v8, none, none]) ?_ (fun j σ H' _ q => sqt_kx q.1 hde1) ?_ ?_
      · exact ⟨kx, hla2, hq, ⟨kN, N, hpN, hEN, by rw [List.take_zero, List.append_nil]; exact hdd⟩, v6, v7, v8, rfl⟩
      · rintro j y σ H3 H4 hj ⟨kx3, hla3, hq3, ⟨kN3, N3, hpN3, hEN3, hdd3⟩, v6', v7', v8', rfl⟩ ⟨t, x1, x2, rfl, ht, rfl, f1, f2⟩
        cases f1
        replace f2 : (ws.map V.str)[j]? = some x2 := f2
        rw [List.getElem?_map] at f2
        obtain ⟨z, ez, rfl⟩ := Option.map_eq_some_iff.mp f2
        have hjw : j < ws.length := by rw [List.length_map] at hj; exact hj
        have ezd : z = ws.getD j "" := by rw [List.getD_eq_getElem?_getD, ez]; rfl
        have s4 := same_upd (o := .tup [V.int (j : Nat), V.str z]) ht
        refine ⟨t, _, rfl, SqT.of upd_same, rfl, _, _, rfl, _, _, rfl, rfl, ?_⟩
        have kx4 : ∀ b o, b ≠ la → b ≠ p → H1 b = some o → upd H3 t (.tup [V.int (j : Nat), V.str z]) b = some o := fun b o n1 n2 e => s4 _ _ (kx3 b o n1 n2 e)
        have hla4 := s4 _ _ hla3
        have hq4 := s4 _ _ hq3
        have hpN4 := s4 _ _ hpN3
        have hEN4 := hEN3.keep (.of s4)
        generalize upd H3 t (.tup [V.int (j : Nat), V.str z]) = H4 at s4 kx4 hla4 hq4 hpN4 hEN4 ⊢
        obtain ⟨as, hta, hal, hab⟩ := htt1
        have hta4 := sqt_kx kx4 hta
        -- led
        refine ⟨_, rfl, _, rfl, tt, q, _, _, rfl, .inr ⟨hta4, SqT.of hq4, fun D hD => ?_⟩⟩
        have hln : ts.length = min (as.map V.ref).length ((r u).map V.int).length := by rw [List.length_map, List.length_map, hal, hst.1]; simp
        refine lc_it (walk_zipT hln) (fun m H' => Same H4 H' ∧ H' D = some (.lst (((stepT ts j (r u)).take m).map V.int))) ?_ ?_ ?_ ?_
        · exact ⟨same_upd hD, upd_same⟩
        · exact fun m H' _ pp => ⟨hta4.ext pp.1, (SqT.of hq4).ext pp.1⟩
        · rintro m y H5 H6 hm ⟨s5, hD5⟩ ⟨t5, x1, x2, rfl, ht5, rfl, e1, e2⟩
          replace e1 : (as.map V.ref)[m]? = some x1 := e1
          replace e2 : ((r u).map V.int)[m]? = some x2 := e2
          rw [List.getElem?_map] at e1 e2
          obtain ⟨a, ea, rfl⟩ := Option.map_eq_some_iff.mp e1
          obtain ⟨vi, evi, rfl⟩ := Option.map_eq_some_iff.mp e2
          have et : ts[m]? = some ts[m] := List.getElem?_eq_getElem hm
          have hT := htab _ (List.getElem_mem hm)
          generalize ts[m] = tb at et hT
          obtain ⟨bs, ha1, hrow⟩ := hab m a tb ea et
          obtain ⟨v0, v1⟩ := hst.2 m tb vi et evi
          have s56 := same_upd (o := .tup [V.ref a, V.int vi]) ht5
          have s46 := s5.trans s56
          have kx6 : KeepT H1 (upd H5 t5 (.tup [V.ref a, V.int vi])) := (tup_kx kx4).trans (.of s46)
          have hvl : vi.toNat < tb.length := by omega
          have erow := getD_get ([] : List Int) hvl
          obtain ⟨hrl, _⟩ := hT _ (List.mem_of_getElem? erow)
          have hbl : bs.length = tb.length := hrow.1
          obtain ⟨ab, eab, atb⟩ := at_ref (as := bs) (k := vi) v0 (by omega)
          have hab6 := kx6 _ _ (hrow.2 _ _ _ eab erow)
          have el : (stepT ts j (r u))[m]? = some ((tb.getD vi.toNat []).getD j 0) := by
            rw [stepT, List.getElem?_zipWith, et, evi]
          refine ⟨t5, _, rfl, SqT.of upd_same, rfl, _, _, rfl, _, _, rfl, rfl, rfl, _, rfl, _, rfl, a, _, _, _, rfl, rfl, SqT.of (kx6 _ _ ha1), atb, _, rfl, ab, _, _, _, rfl, rfl, SqT.of hab6, at_int (k := (j : Nat)) (by omega) (by omega), ?_⟩
          refine ⟨_, s56 _ _ hD5, ?_, ?_, ?_⟩
          · rw [List.length_map, List.length_take]
            exact small1000 (by omega)
          · exact fun c o e => by rw [upd_ne (ne_of_none e hD)]; exact s56 _ _ (s5 c o e)
          · rw [upd_same, List.take_add_one, el, List.map_append]; rfl
        · rintro H5 ⟨s5, hD5⟩
          have hsl : (stepT ts j (r u)).length = ts.length := by simp [stepT, hst.1]
          rw [List.take_of_length_le (by omega)] at hD5
          refine ⟨D, _, rfl, .inl ⟨SqL.of hD5, fun p8 hp8 => ?_⟩⟩
          have e8 : upd H5 p8 (.tup ((stepT ts j (r u)).map V.int)) p8 = some (.tup ((keyI (stepT ts j (r u))).map kV)) := by rw [keyI_kV]; exact upd_same
          have s8 := s5.trans (same_upd (o := .tup ((stepT ts j (r u)).map V.int)) hp8)
          generalize upd H5 p8 (.tup ((stepT ts j (r u)).map V.int)) = H8 at e8 s8 ⊢
          have kx8 : ∀ b o, b ≠ la → b ≠ p → H1 b = some o → H8 b = some o := fun b o n1 n2 e => s8 _ _ (kx4 b o n1 n2 e)
          have hme8 := kx8 _ _ nlm.symm npm.symm hme1
          have hla8 := s8 _ _ hla4
          have hq8 := s8 _ _ hq4
          have hpN8 := s8 _ _ hpN4
          have hEN8 := hEN4.keep (.of s8)
          have hnd3 : ((M ++ N3).map r).Nodup := by rw [← hdd3]; exact dd_nodup hnd
          have hndN : (N3.map r).Nodup := by rw [List.map_append] at hnd3; exact (List.nodup_append.mp hnd3).2.1
          have edd : dd r M (exts ws.length (B.take i) ++ (ext ws.length u).take (j + 1)) = dd r (M ++ N3) [u ++ [j]] := by
            rw [ext_take u hjw, ← List.append_assoc, dd_app, hdd3]
          have old : stepT ts j (r u) ∈ (M ++ N3).map r → dd r M (exts ws.length (B.take i) ++ (ext ws.length u).take (j + 1)) = M ++ N3 := fun hm => by
            rw [edd]; exact dd_noop fun v hv => by rw [List.mem_singleton.mp hv, hgo]; exact hm
          refine ⟨_, rfl, _, rfl, me, _, rfl, DGet.t hme8 e8, _, rfl, ?_⟩
          rw [hEM1.isSome hnd]
          refine ite2 (fun hno => ?_) (fun hyes => ?_)
          · have hnM : stepT ts j (r u) ∉ M.map r := by simpa using hno
            refine ⟨_, rfl, _, rfl, p, _, rfl, DGet.t hpN8 e8, _, rfl, ?_⟩
            rw [hEN8.isSome hndN]
            refine ite2 (fun hno2 => ?_) (fun hyes => ?_)
            · have hnN : stepT ts j (r u) ∉ N3.map r := by simpa using hno2
              refine ⟨_, rfl, _, rfl, Nat.le_of_ble_eq_true rfl, fun tv htv => ⟨_, rfl, _, rfl, p, _, rfl, DPut.t (same_upd htv _ _ hpN8) (same_upd htv _ _ e8) ?_, ?_⟩⟩
              · have h1 := dd_len (r := r) (exts ws.length (B.take i) ++ (ext ws.length u).take j) M
                rw [hdd3, List.length_append, List.length_append, exts_len, List.length_take, List.length_take] at h1
                have h2 : ws.length * min i B.length ≤ ws.length * B.length := Nat.mul_le_mul_left _ (Nat.min_le_right _ _)
                have h3 := hEN3.1
                have h4 : ws.length ≤ ws.length * B.length := Nat.le_mul_of_pos_right _ (by omega)
                have h5 : min j (ext ws.length u).length ≤ j := Nat.min_le_left _ _
                rw [sizeLine_eq]; omega
              have s9 := same_upd (o := .tup [V.ref q, V.str z]) htv
              have e9 : upd H8 tv (.tup [V.ref q, V.str z]) tv = some (.tup [V.ref q, V.str z]) := upd_same
              have nev : valV kN3 (keyI (stepT ts j (r u))) = none := hEN8.no hnN
              rw [putK_new _ nev]
              have hpN9 := s9 _ _ hpN8
              have hEN9 := hEN8.keep (.of s9)
              have hq9 := s9 _ _ hq8
              have hla9 := s9 _ _ hla8
              generalize upd H8 tv (.tup [V.ref q, V.str z]) = H9 at s9 e9 hpN9 hEN9 hq9 hla9 ⊢
              have hEN10 := (hEN9.snoc (u := u ++ [j]) (v := .ref tv) (.inr ⟨u, j, tv, q, rfl, rfl, by rw [← ezd]; exact e9, hq9⟩)).keep (KeepT.updT (o := .dT (kN3 ++ [(keyI (r (u ++ [j])), V.ref tv)])) hpN9)
              rw [hgo] at hEN10
              refine ⟨fun b o n1 n2 e => by rw [upd_ne n2]; exact s9 _ _ (kx8 b o n1 n2 e), by rw [upd_ne npl.symm]; exact hla9, KeepT.updT hpN9 _ _ hq9, ⟨_, N3 ++ [u ++ [j]], upd_same, hEN10, ?_⟩, _, _, _, rfl⟩
              rw [edd, dd_cons, if_neg, dd_nil, List.append_assoc]
              rw [hgo, List.map_append, List.mem_append]
              exact fun z => z.elim hnM hnN
            · have hN : stepT ts j (r u) ∈ N3.map r := by simpa using hyes
              exact ⟨kx8, hla8, hq8, ⟨kN3, N3, hpN8, hEN8, old (by rw [List.map_append]; exact List.mem_append_right _ hN)⟩, _, _, _, rfl⟩
          · have hM : stepT ts j (r u) ∈ M.map r := by simpa using hyes
            exact ⟨kx8, hla8, hq8, ⟨kN3, N3, hpN8, hEN8, old (by rw [List.map_append]; exact List.mem_append_left _ hM)⟩, _, _, _, rfl⟩
      · rintro σ H3 ⟨kx3, hla3, hq3, ⟨kN3, N3, hpN3, hEN3, hdd3⟩, v6', v7', v8', rfl⟩
        rw [lw, ext_all] at hdd3
        exact ⟨kx3, hla3, ⟨kN3, N3, hpN3, hEN3, by rw [etk, exts_app]; simpa [exts] using hdd3⟩, _, v6', v7', v8', rfl⟩
    · rintro σ H2 ⟨kx, hla2, ⟨kN, N, hpN, hEN, hdd⟩, v5, v6, v7, v8, rfl⟩
      rw [hEB.1, List.take_length] at hdd
      refine ⟨hla2, _, rfl, k p N _ hp (fun b o e => ?_) hdd ⟨kN, by rw [upd_ne npl]; exact hpN, hEN.keep (KeepT.updF hla2)⟩⟩
      by_cases hb : b = la
      · subst hb
        rw [hlaB] at e; cases e
        exact upd_same
      · rw [upd_ne hb]
        exact kx b o hb (ne_of_none e hp) (s1 _ _ e)
end
end K1
set_option Elab.async false
set_option linter.all false
set_option maxRecDepth 100000
/-! walks.row_to -/
namespace L2
open PySem PySem.Spec PyProof.Rows
/-- a while by a number that the invariant tells -/
theorem while_ix {c : TT} {tb : TS} {D : Ends} {σ : St} {H : Hp} (Pv : Nat → St → Hp → Prop) (m0 : Nat) (h0 : Pv m0 σ H)
    (hs : ∀ m σ H, Pv m σ H → c σ H fun b H1 => if b = true then tb { D with nx := fun σ' H' => ∃ m', m' < m ∧ Pv m' σ' H', ct := fun σ' H' => ∃ m', m' < m ∧ Pv m' σ' H', bk := D.nx } σ H1 else D.nx σ H1)
    (mono : ∀ σ H Q Q', (∀ b H1, Q b H1 → Q' b H1) → c σ H Q → c σ H Q') : tWhile c tb D σ H := by
  refine ⟨Pv, ⟨_, h0⟩, fun m σ H p => ?_⟩
  refine mono σ H _ _ (fun b H1 q => ?_) (hs m σ H p)
  cases b with
  | true => exact ⟨_, fun σ' H' z => z, q⟩
  | false => exact q
end L2
namespace K1
open PySem L2 LamX
abbrev sRT : Stmt := top 19
def names (ws : List Str) (u : List Nat) : List V := u.map fun k => V.str (ws.getD k "")
def spRT (K : PySem.W.Frag) : Sp := fun vs H Q _ => ∃ (fo q : Addr) (r : List Nat → List Int) (ws : List Str) (M : List (List Nat)) (u : List Nat), vs = [.ref fo, .ref q] ∧ DAt r ws H fo M ∧ (M.map r).Nodup ∧ (∀ u k, u ++ [k] ∈ M → u ∈ M) ∧ u ∈ M ∧ H q = some (.tup ((r u).map V.int)) ∧ u.length ≤ 100000 ∧
  ∀ p H', H p = none → Same H H' → H' p = some (.tup (names ws u)) → Q (.ref p) H'
section
variable {P : Program} {w : World} {K : PySem.W.Frag} {mg : Str → Option Value} {base : Heap}
abbrev pRT : List Str := ["found", "states"]
abbrev nRT : List Str := ["found", "states", "deeds", "step"]
theorem scRT : FnScope nRT pRT (defScope sRT) := ⟨rfl, rfl, rfl, by decide +kernel, rfl, by decide +kernel, by decide +kernel⟩
theorem ok_rt {f : Addr} {fd : FuncData} (D : Df K mg "row_to" sRT pRT f fd) (T : Bt2 mg) : FnOk P w K mg base CX0 1 f fd pRT (spRT K) := by
  refine D.F.ok scRT (fun vs H Q E h => ?_) (fun cdv A outer s H vs Q E hr h => ?_)
  · obtain ⟨fo, q, r, ws, M, u, rfl, _⟩ := h
    rfl
  · obtain ⟨fo, q, r, ws, M, u, rfl, ⟨kv, hfo, hE⟩, hnd, hpre, hu', hq, hlen, k⟩ := h
    have hu := hu_of hr
    refine ⟨_, pss_cons (ps_set (i := 2) scRT.nd rfl (Or.inl rfl) (pe_lst pa_nil))
      (pss_cons (ps_set (i := 3) scRT.nd rfl (Or.inl rfl) (pe_dget hu (pv 0) (pv 1) (fun _ _ => rfl)))
      (pss_cons (ps_while PassesOwn.never (pt_cmpR op_notN (pv 3) pe_non (nomark _))
        (pss_cons (ps_expr (pe_bm PySem.F.plainAttrs_list PySem.F.slot_list_append PySem.F.type_list_append mt_append (pv 2) (pa_cons (pe_ix (r := rIxT K) ix_tup (pv 3) pe_int (fun _ _ => rfl)) pa_nil)))
        (pss_one (ps_set (i := 3) scRT.nd rfl (Or.inl rfl) (pe_dget hu (pv 0) (pe_ix (r := rIxT K) ix_tup (pv 3) pe_int (fun _ _ => rfl)) (fun _ _ => rfl))))))
      (pss_one (ps_ret (pe_callTy (r := rTu K) call_tuple_of (by rfl) T.tuple PyProof.Rows.boot_tuple (pa_cons (pe_revL (pv 2)) pa_nil)))))), ?_⟩
    refine ⟨Nat.zero_le _, fun l hl => ?_⟩
    have s1 := same_upd (o := .lst []) hl
    have el1 : upd H l (.lst []) l = some (.lst []) := upd_same
    generalize upd H l (.lst []) = H1 at s1 el1 ⊢
    obtain ⟨v0, ev0, hv0⟩ := hE.at hnd hu'
    refine ⟨_, rfl, _, rfl, fo, v0, rfl, by rw [← ev0]; exact DGet.t (s1 _ _ hfo) (by rw [keyI_kV]; exact s1 _ _ hq), ?_⟩
    refine while_ix (fun m σ H' => ∃ (u1 u2 : List Nat) (v : V), u1.length = m ∧ u = u1 ++ u2 ∧ u1 ∈ M ∧ EVal r ws H v u1 ∧ Same H H' ∧ H' l = some (.lst (names ws u2.reverse)) ∧ σ = [some (.ref fo), some (.ref q), some (.ref l), some v]) u.length ?_ ?_ ?_
    · exact ⟨u, [], v0, rfl, (List.append_nil u).symm, hu', hv0, s1, el1, rfl⟩
    · rintro m σ H2 ⟨u1, u2, v, rfl, eu, hm1, hv, s2, el2, rfl⟩
      refine ⟨_, rfl, rfl, _, rfl, ?_⟩
      rcases hv with ⟨rfl, rfl⟩ | ⟨u', j, t, q', rfl, rfl, ht, hq'⟩
      · refine iteF ?_
        refine ⟨_, rfl, l, _, rfl, SqL.of el2, fun p1 hp1 => ?_⟩
        have e3 : upd H2 p1 (.lst (names ws u2.reverse).reverse) p1 = some (.lst (names ws u2.reverse).reverse) := upd_same
        have s3 := s2.trans (same_upd (o := .lst (names ws u2.reverse).reverse) hp1)
        generalize upd H2 p1 (.lst (names ws u2.reverse).reverse) = H3 at e3 s3 ⊢
        refine ⟨p1, _, rfl, .inl ⟨SqL.of e3, fun p2 hp2 => ?_⟩⟩
        refine k p2 _ (s3.free hp2) (s3.trans (same_upd hp2)) ?_
        rw [upd_same, eu, names, names, List.map_reverse, List.reverse_reverse]; rfl
      · refine iteT ?_
        have hll : (names ws u2.reverse).length < sizeLine := by
          have h1 := congrArg List.length eu
          rw [List.length_append, List.length_append] at h1
          rw [names, List.length_map, List.length_reverse, sizeLine_eq]; omega
        refine ⟨_, rfl, .inl ⟨rfl, _, SqL.of el2⟩, _, rfl, t, _, _, _, rfl, rfl, SqT.of (s2 _ _ ht), atI_nat (j := 1) rfl, l, _, _, rfl, rfl, el2, hll, ?_⟩
        have s3 : Same H (upd H2 l (.lst (names ws u2.reverse ++ [V.str (ws.getD j "")]))) := fun b o e => by rw [upd_ne (ne_of_none e hl)]; exact s2 _ _ e
        have el3 : upd H2 l (.lst (names ws u2.reverse ++ [V.str (ws.getD j "")])) l = some (.lst (names ws (j :: u2).reverse)) := by
          rw [upd_same, names, names, List.reverse_cons, List.map_append]; rfl
        generalize upd H2 l (.lst (names ws u2.reverse ++ [V.str (ws.getD j "")])) = H3 at s3 el3 ⊢
        have hm' := hpre u' j hm1
        obtain ⟨v', ev', hv'⟩ := hE.at hnd hm'
        refine ⟨_, rfl, _, rfl, t, _, _, _, rfl, rfl, SqT.of (s3 _ _ ht), atI_nat (j := 0) rfl, fo, v', rfl, by rw [← ev']; exact DGet.t (s3 _ _ hfo) (by rw [keyI_kV]; exact s3 _ _ hq'), ?_⟩
        exact ⟨u'.length, by rw [List.length_append]; exact Nat.lt_succ_self _, u', j :: u2, v', rfl, by rw [eu, List.append_assoc]; rfl, hm', hv', s3, el3, rfl⟩
    · rintro σ H Q Q' hQ ⟨v, e, h1, c, h2, h3⟩
      exact ⟨v, e, h1, c, h2, hQ _ _ h3⟩
end
end K1
set_option Elab.async false
set_option linter.all false
set_option maxRecDepth 100000
/-! machines.first_parting -/
namespace K1
open PySem L2 LamX
abbrev sFP : Stmt := top 37
theorem nodup_sub_len {α : Type} [DecidableEq α] : ∀ (l m : List α), l.Nodup → (∀ x ∈ l, x ∈ m) → l.length ≤ m.length
  | [], _, _, _ => Nat.zero_le _
  | a :: l, m, hn, hs => by
    rw [List.nodup_cons] at hn
    have ha := hs a (List.mem_cons_self ..)
    have h1 := nodup_sub_len l (m.erase a) hn.2 fun x hx => (List.mem_erase_of_ne (fun e => hn.1 (by rw [← e]; exact hx))).mpr (hs x (List.mem_cons_of_mem _ hx))
    rw [List.length_erase_of_mem ha] at h1
    have := List.length_pos_of_mem ha
    rw [List.length_cons]; omega
/-- all tuples of states -/
def prodL : List (List (List Int)) → List (List Int)
  | [] => [[]]
  | t :: ts => (List.range t.length).flatMap fun (x : Nat) => (prodL ts).map fun q => (x : Int) :: q
def prodN : List (List (List Int)) → Nat
  | [] => 1
  | t :: ts => t.length * prodN ts
theorem prodL_len : ∀ ts, (prodL ts).length = prodN ts
  | [] => rfl
  | t :: ts => by
    rw [prodL, prodN, ← prodL_len ts, List.length_flatMap]
    simp [List.map_const']
theorem prodL_mem : ∀ (ts : List (List (List Int))) (vs : List Int), StOk ts vs → vs ∈ prodL ts
  | [], vs, h => by
    have : vs = [] := List.length_eq_zero_iff.mp h.1
    rw [this]; exact List.mem_singleton.mpr rfl
  | t :: ts, [], h => by have := h.1; simp at this
  | t :: ts, v :: vs, h => by
    obtain ⟨h0, h1⟩ := h.2 0 t v rfl rfl
    rw [prodL, List.mem_flatMap]
    refine ⟨v.toNat, List.mem_range.mpr (by omega), List.mem_map.mpr ⟨vs, prodL_mem ts vs ⟨by simpa using h.1, fun i t' v' e1 e2 => h.2 (i + 1) t' v' e1 e2⟩, ?_⟩⟩
    rw [Int.toNat_of_nonneg h0]
theorem met_len {w : Nat} {ts : List (List (List Int))} {s0 : List Int} {M : List (List Nat)} (h : StOk ts s0) (ht : ∀ t ∈ ts, TabOk w t) (hn : (M.map (runT ts s0)).Nodup) (hl : ∀ u ∈ M, ∀ k ∈ u, k < w) : M.length ≤ prodN ts := by
  rw [← prodL_len, ← List.length_map (f := runT ts s0)]
  refine nodup_sub_len _ _ hn fun x hx => ?_
  obtain ⟨u, hu, rfl⟩ := List.mem_map.mp hx
  exact prodL_mem _ _ (h.run ht u (hl u hu))
/-- the two tell different things -/
def dif (s1 s2 : List Str) (vs : List Int) : Bool := decide (s1.getD (vs.getD 0 0).toNat "" ≠ s2.getD (vs.getD 1 0).toNat "")
theorem Parts.tab {ws : List Str} {rs : List (List Int)} {ss : List Str} {st : Int} (h : Parts ws rs ss st) : TabOk ws.length rs := h.row
/-- the first word, of all, for which two states are told apart; none -/
def FirstW (w : Nat) (r : List Nat → List Int) (s1 s2 : List Str) (u : List Nat) : Prop := (allU w u.length).find? (fun v => dif s1 s2 (r v)) = some u
def NoW (w : Nat) (r : List Nat → List Int) (s1 s2 : List Str) : Prop := ∀ n, (allU w n).find? (fun v => dif s1 s2 (r v)) = none
theorem MachAt.same {K : PySem.W.Frag} {C : Addr} {H H' : Hp} {x : Addr} {ws : List Str} {rs : List (List Int)} {ss : List Str} {st : Int} (h : MachAt K C H x ws rs ss st) (s : Same H H') : MachAt K C H' x ws rs ss st := by
  obtain ⟨dx, t, r, l, as, h1, h2, h3, h4, h5⟩ := h
  exact ⟨dx, t, r, l, as, s _ _ h1, h2.same s, s _ _ h3, h4.same s, s _ _ h5⟩
def spFP (K : PySem.W.Frag) (C : Addr) : Sp := fun vs H Q _ => ∃ (x y : Addr) (a b : Int) (ws : List Str) (rs1 : List (List Int)) (ss1 : List Str) (st1 : Int) (rs2 : List (List Int)) (ss2 : List Str) (st2 : Int),
  vs = [.ref x, .int a, .ref y, .int b] ∧ MachAt K C H x ws rs1 ss1 st1 ∧ MachAt K C H y ws rs2 ss2 st2 ∧ Parts ws rs1 ss1 st1 ∧ Parts ws rs2 ss2 st2 ∧ 0 ≤ a ∧ a < (rs1.length : Int) ∧ 0 ≤ b ∧ b < (rs2.length : Int) ∧
  (∀ u p H', FirstW ws.length (runT [rs1, rs2] [a, b]) ss1 ss2 u → H p = none → Same H H' → H' p = some (.tup (names ws u)) → Q (.ref p) H') ∧
  (∀ H', NoW ws.length (runT [rs1, rs2] [a, b]) ss1 ss2 → Same H H' → Q .non H')
section
variable {P : Program} {w : World} {K : PySem.W.Frag} {mg : Str → Option Value} {base : Heap}
abbrev pFP : List Str := ["one", "a", "other", "b"]
abbrev nFP : List Str := ["one", "a", "other", "b", "met", "layer", "mine", "theirs", "pair", "step"]
theorem scFP : FnScope nFP pFP (defScope sFP) := ⟨rfl, rfl, rfl, by decide +kernel, rfl, by decide +kernel, by decide +kernel⟩
theorem ok_fp {C f fN fR : Addr} {fd fdN fdR : FuncData} (D : Df K mg "first_parting" sFP pFP f fd) (DN : Df K mg "next_layer" sNL pNL fN fdN) (DR : Df K mg "row_to" sRT pRT fR fdR) (M : Tm K mg C) (T : Bt2 mg) (hz : mg "zip" = none) : FnOk P w K mg base CX0 2 f fd pFP (spFP K C) := by
  have GN : FnOk P w K mg base CX0 1 fN fdN pNL (spNL K) := ok_nl DN T hz
  have GR : FnOk P w K mg base CX0 1 fR fdR pRT (spRT K) := ok_rt DR T
  refine D.F.ok scFP (fun vs H Q E h => ?_) (fun cdv A outer s H vs Q E hr h => ?_)
  · obtain ⟨x, y, a, b, ws, rs1, ss1, st1, rs2, ss2, st2, rfl, _⟩ := h
    rfl
  · obtain ⟨x, y, a, b, ws, rs1, ss1, st1, rs2, ss2, st2, rfl, mx, my, px, py, a0, a1, b0, b1, kS, kN⟩ := h
    have hu := hu_of hr
    refine ⟨_, pss_cons (ps_set (i := 4) scFP.nd rfl (Or.inl rfl) (pe_disp1T hu (pe_tup (pa_cons (pv 1) (pa_cons (pv 3) pa_nil))) pe_non))
      (pss_cons (ps_set (i := 5) scFP.nd rfl (Or.inl rfl) (pe_disp1T hu (pe_tup (pa_cons (pv 1) (pa_cons (pv 3) pa_nil))) pe_non))
      (pss_cons (ps_while PassesOwn.never (pt_cmpR op_gt (pe_callB call_len_dT (by rfl) T.len PySem.boot_len (pa_cons (pv 5) pa_nil)) pe_int (nomark _))
        (pss_cons (ps_lock (ps_for PassesOwn.never rfl (pi_keys (pv 5)) (pg_tup (by rfl) (pgs_cons (pg_name (i := 6) scFP.nd rfl (Or.inl rfl)) (pgs_cons (pg_name (i := 7) scFP.nd rfl (Or.inl rfl)) pgs_nil)))
          (pss_one (ps_if (pt_cmpR op_ne (pe_ix (r := rIxT K) ix_tup (pe_fld (pv 0) rfl) (pv 6) (fun _ _ => rfl)) (pe_ix (r := rIxT K) ix_tup (pe_fld (pv 2) rfl) (pv 7) (fun _ _ => rfl)) (nomark _))
            (pss_one (ps_ret (pe_call GR hr rfl DR.g DR.F.kp DR.b .nil pass0 (pa_cons (pv 4) (pa_cons (pe_tup (pa_cons (pv 6) (pa_cons (pv 7) pa_nil))) pa_nil))))) pss_nil))))
        (pss_cons (ps_set (i := 5) scFP.nd rfl (Or.inl rfl) (pe_call GN hr rfl DN.g DN.F.kp DN.b .nil pass0 (pa_cons (pe_fld (pv 0) rfl) (pa_cons (pe_tup (pa_cons (pe_fld (pv 0) rfl) (pa_cons (pe_fld (pv 2) rfl) pa_nil))) (pa_cons (pv 5) (pa_cons (pv 4) pa_nil))))))
        (pss_one (ps_lock (ps_for PassesOwn.never rfl (pi_itemsT (pv 5)) (pg_tup (by rfl) (pgs_cons (pg_name (i := 8) scFP.nd rfl (Or.inl rfl)) (pgs_cons (pg_name (i := 9) scFP.nd rfl (Or.inl rfl)) pgs_nil)))
          (pss_one (ps_dput hu (pv 4) (pv 8) (pv 9) rfl))))))))
      (pss_one (ps_ret pe_non)))), ?_⟩
    have w6 := px.gd.len.2
    have hs0 : StOk [rs1, rs2] [a, b] := ⟨rfl, fun i t v e1 e2 => by
      match i, e1, e2 with
      | 0, e1, e2 => cases e1; cases e2; exact ⟨a0, a1⟩
      | 1, e1, e2 => cases e1; cases e2; exact ⟨b0, b1⟩
      | _ + 2, e1, _ => simp at e1⟩
    have htab : ∀ t ∈ [rs1, rs2], TabOk ws.length t := fun t ht => by
      simp only [List.mem_cons, List.not_mem_nil, or_false] at ht
      rcases ht with rfl | rfl
      · exact px.tab
      · exact py.tab
    have hpn : prodN [rs1, rs2] ≤ 3600 := by
      show rs1.length * (rs2.length * 1) ≤ 3600
      rw [Nat.mul_one]
      have h1 := px.many.2
      have h2 := py.many.2
      have := Nat.mul_le_mul h1 h2
      omega
    have r0 : runT [rs1, rs2] [a, b] [] = [a, b] := rfl
    have hrc := runT_c [rs1, rs2] [a, b]
    have hrun : ∀ u, (∀ k ∈ u, k < ws.length) → StOk [rs1, rs2] (runT [rs1, rs2] [a, b] u) := fun u => hs0.run htab u
    have hml : ∀ M : List (List Nat), (M.map (runT [rs1, rs2] [a, b])).Nodup → (∀ u ∈ M, ∀ k ∈ u, k < ws.length) → M.length ≤ prodN [rs1, rs2] := fun M => met_len hs0 htab
    generalize hR : runT [rs1, rs2] [a, b] = r at r0 hrc hrun hml kS kN
    have hpc : ∀ u v, r u = r v → dif ss1 ss2 (r u) = dif ss1 ss2 (r v) := fun u v e => by rw [e]
    have kvab : (keyI [a, b]).map kV = [V.int a, V.int b] := rfl
    have mk1 : ∀ {G : Hp} {p t : Addr}, G p = none → upd G p (.dT []) t = none → Same G (upd (upd (upd G p (.dT [])) t (.tup [V.int a, V.int b])) p (.dT [(keyI [a, b], V.non)])) ∧ DAt r ws (upd (upd (upd G p (.dT [])) t (.tup [V.int a, V.int b])) p (.dT [(keyI [a, b], V.non)])) p [[]] := fun {G p t} hp ht => by
      refine ⟨fun c o e => ?_, _, upd_same, rfl, fun i k v u e1 e2 => ?_⟩
      · rw [upd_ne (ne_of_none e hp)]
        exact same_upd ht _ _ (same_upd hp _ _ e)
      · match i, e1, e2 with
        | 0, e1, e2 => cases e1; cases e2; exact ⟨by rw [r0], .inl ⟨rfl, rfl⟩⟩
        | _ + 1, e1, _ => simp at e1
    -- met
    intro me hme
    refine ⟨_, rfl, _, rfl, Nat.le_of_ble_eq_true rfl, fun t1 ht1 => ?_⟩
    have nt1 : me ≠ t1 := ne_of_none upd_same ht1
    refine ⟨by rw [upd_ne nt1]; exact upd_same, t1, keyI [a, b], .non, rfl, upd_same, ?_⟩
    obtain ⟨s1, dm1⟩ := mk1 hme ht1
    generalize upd (upd (upd H me (.dT [])) t1 (.tup [V.int a, V.int b])) me (.dT [(keyI [a, b], V.non)]) = H1 at s1 dm1 ⊢
    -- layer
    intro la hla
    refine ⟨_, rfl, _, rfl, Nat.le_of_ble_eq_true rfl, fun t2 ht2 => ?_⟩
    have nt2 : la ≠ t2 := ne_of_none upd_same ht2
    refine ⟨by rw [upd_ne nt2]; exact upd_same, t2, keyI [a, b], .non, rfl, upd_same, ?_⟩
    obtain ⟨s2, dl2⟩ := mk1 hla ht2
    have nml : me ≠ la := by
      obtain ⟨kv, e, _⟩ := id dm1
      exact ne_of_none e hla
    have dm2 := dm1.same s2
    have s02 := s1.trans s2
    generalize upd (upd (upd H1 la (.dT [])) t2 (.tup [V.int a, V.int b])) la (.dT [(keyI [a, b], V.non)]) = H2 at s2 dl2 dm2 s02 ⊢
    -- the loop
    refine while_ix (fun m σ H' => ∃ (n : Nat) (M0 B : List (List Nat)) (la : Addr) (v6 v7 v8 v9 : Option V), bfs r ws.length n = (M0 ++ B, B) ∧ M0.find? (fun v => dif ss1 ss2 (r v)) = none ∧ Same H H' ∧ DAt r ws H' me (M0 ++ B) ∧ DAt r ws H' la B ∧ me ≠ la ∧ (B ≠ [] → n + 1 ≤ (M0 ++ B).length) ∧ m = 2 * (prodN [rs1, rs2] - (M0 ++ B).length) + (if B = [] then 0 else 1) ∧
      σ = [some (.ref x), some (.int a), some (.ref y), some (.int b), some (.ref me), some (.ref la), v6, v7, v8, v9]) (2 * (prodN [rs1, rs2] - 1) + 1) ?_ ?_ ?_
    · exact ⟨0, [], [[]], la, none, none, none, none, rfl, rfl, s02, dm2, dl2, nml, fun _ => Nat.le_refl _, rfl, rfl⟩
    · rintro m σ H3 ⟨n, M0, B, la, v6, v7, v8, v9, eb, hf0, s3, dm, dl, nml, hnl, rfl, rfl⟩
      obtain ⟨kM, hme3, hEM⟩ := id dm
      obtain ⟨kB, hla3, hEB⟩ := id dl
      have I := bfs_ok hrc ws.length n
      rw [eb] at I
      have hBM : ∀ u ∈ B, u ∈ M0 ++ B := fun u hu => List.mem_append_right _ hu
      have hMl : (M0 ++ B).length ≤ prodN [rs1, rs2] := hml _ I.nd I.lt
      refine ⟨_, rfl, la, kB, rfl, hla3, _, _, rfl, rfl, _, rfl, ?_⟩
      refine ite2 (fun hgt => ?_) (fun hgt => ?_)
      · have hB0 : B ≠ [] := fun e => by
          have h1 := hEB.1
          rw [e] at h1
          have h2 := of_decide_eq_true hgt
          simp at h1
          rw [h1] at h2
          exact absurd h2 (by decide)
        have hn1 := hnl hB0
        -- looked at
        refine ⟨la, .dT kB, hla3, trivial, fun od => ?_⟩
        have kf : KeepT H3 (upd H3 la (.frz od (.dT kB))) := KeepT.updT hla3
        have ef : upd H3 la (.frz od (.dT kB)) la = some (.frz od (.dT kB)) := upd_same
        have kx : ∀ b o, b ≠ la → H3 b = some o → upd H3 la (.frz od (.dT kB)) b = some o := fun b o nb e => by rw [upd_ne nb]; exact e
        have back : Same H3 (upd (upd H3 la (.frz od (.dT kB))) la (.dT kB)) := fun b o e => by
          by_cases hb : b = la
          · subst hb; rw [hla3] at e; cases e; exact upd_same
          · rw [upd_ne hb, upd_ne hb]; exact e
        have fzn : ∀ b, H3 b = none → upd H3 la (.frz od (.dT kB)) b = none := fun b e => by
          rw [upd_ne (fun z => by rw [z, hla3] at e; cases e)]; exact e
        have nzf : ∀ b, upd H3 la (.frz od (.dT kB)) b = none → H3 b = none := fun b e => by
          by_cases hb : b = la
          · rw [hb, ef] at e; cases e
          · rw [upd_ne hb] at e; exact e
        generalize upd H3 la (.frz od (.dT kB)) = Hf at kf ef kx back fzn nzf ⊢
        refine ⟨_, rfl, la, od, rfl, .inr ⟨kB, ef, for_it (walk_keysT (d := la) (o := od) (kvs := kB)) (fun i σ H' => H' = Hf ∧ (B.take i).find? (fun v => dif ss1 ss2 (r v)) = none ∧ ∃ v6 v7, σ = [some (.ref x), some (.int a), some (.ref y), some (.int b), some (.ref me), some (.ref la), v6, v7, v8, v9]) ⟨rfl, by rw [List.take_zero]; rfl, v6, v7, rfl⟩ (fun i σ H' _ q => by rw [q.1]; exact ef) ?_ ?_⟩⟩
        · rintro i yv σ H4 H4' hi ⟨rfl, hfi, v6', v7', rfl⟩ ⟨rfl, key, v, q, hkv, rfl, hq⟩
          have hiB : i < B.length := by rw [← hEB.1]; exact hi
          have eu : B[i]? = some B[i] := List.getElem?_eq_getElem hiB
          have hmem := List.getElem_mem hiB
          have etk : B.take (i + 1) = B.take i ++ [B[i]] := by rw [List.take_add_one, eu]; rfl
          have edr : B = B.take i ++ B[i] :: B.drop (i + 1) := by rw [← List.drop_eq_getElem_cons hiB, List.take_append_drop]
          generalize B[i] = u at eu hmem etk edr
          obtain ⟨rfl, hev⟩ := hEB.2 i _ _ _ hkv eu
          rw [keyI_kV] at hq
          have hst := hrun u (I.lt u (hBM u hmem))
          obtain ⟨c, e, ece⟩ : ∃ c e, r u = [c, e] := by
            have := hst.1
            match hru : r u, this with
            | [c, e], _ => exact ⟨c, e, rfl⟩
          rw [ece] at hq hst
          obtain ⟨c0, c1⟩ := hst.2 0 rs1 c rfl rfl
          obtain ⟨e0, e1⟩ := hst.2 1 rs2 e rfl rfl
          have edif : dif ss1 ss2 (r u) = decide (ss1.getD c.toNat "" ≠ ss2.getD e.toNat "") := by rw [ece]; rfl
          obtain ⟨dx, tx, rx, lx, asx, gx1, gx2, gx3, gx4, gx5⟩ := mx.same s3
          obtain ⟨dy, ty, ry, ly, asy, gy1, gy2, gy3, gy4, gy5⟩ := my.same s3
          refine ⟨q, _, rfl, SqT.of hq, rfl, _, _, rfl, _, _, rfl, rfl, ?_⟩
          refine ⟨_, rfl, x, C, dx, _, _, rfl, kx _ _ (ne_of gx1 hla3 (by intro z; cases z)) gx1, M.cl, M.nT, mf_tells _ _ _ _, _, rfl, lx, _, c, _, rfl, rfl, SqT.of (kf _ _ gx5), at_deed c0 (by rw [px.tl.1]; exact c1), ?_⟩
          refine ⟨_, rfl, y, C, dy, _, _, rfl, kx _ _ (ne_of gy1 hla3 (by intro z; cases z)) gy1, M.cl, M.nT, mf_tells _ _ _ _, _, rfl, ly, _, e, _, rfl, rfl, SqT.of (kf _ _ gy5), at_deed e0 (by rw [py.tl.1]; exact e1), rfl, _, rfl, ?_⟩
          refine ite2 (fun hd => ?_) (fun hd => ?_)
          · -- told apart
            have hdt : dif ss1 ss2 (r u) = true := by
              rw [edif]
              refine decide_eq_true fun z => ?_
              rw [z] at hd
              simp at hd
            have hfu : (M0 ++ B).find? (fun v => dif ss1 ss2 (r v)) = some u := by
              rw [List.find?_append, hf0, edr, List.find?_append, hfi, List.find?_cons, hdt]; rfl
            have hlu := I.len u hmem
            have hM' : u ∈ M0 ++ B := hBM u hmem
            refine ⟨_, rfl, _, rfl, _, rfl, Nat.le_of_ble_eq_true rfl, fun t ht => ?_⟩
            have s5 := same_upd (o := .tup [V.int c, V.int e]) ht
            have e5 : upd H4' t (.tup [V.int c, V.int e]) t = some (.tup ((r u).map V.int)) := by rw [ece]; exact upd_same
            generalize upd H4' t (.tup [V.int c, V.int e]) = H5 at s5 e5 ⊢
            refine ⟨me, t, r, ws, M0 ++ B, u, rfl, ⟨kM, s5 _ _ (kx _ _ nml hme3), hEM.keep (kf.trans (.of s5))⟩, I.nd, I.pre, hM', e5, by omega, fun p H6 hp s6 e6 => ?_⟩
            have s46 := s5.trans s6
            have npl : p ≠ la := (ne_of_none (s5 _ _ ef) hp).symm
            refine ⟨s46 _ _ ef, kS u p _ ?_ ?_ (fun b o e => ?_) (by rw [upd_ne npl]; exact e6)⟩
            · show (allU ws.length u.length).find? _ = some u
              rw [hlu, ← bfs_find hrc hpc ws.length n, eb]
              exact hfu
            · exact s3.free (nzf _ (s5.free hp))
            · by_cases hb : b = la
              · subst hb
                have := s3 _ _ e
                rw [hla3] at this; cases this
                exact upd_same
              · rw [upd_ne hb]
                exact s46 _ _ (kx _ _ hb (s3 _ _ e))
          · have hdf : dif ss1 ss2 (r u) = false := by
              rw [edif]
              refine decide_eq_false fun z => hd ?_
              rw [decide_eq_false (fun e' => z (by injection e'))]; rfl
            exact ⟨rfl, by rw [etk, List.find?_append, hfi, List.find?_cons, hdf]; rfl, _, _, rfl⟩
        · rintro σ H4 ⟨rfl, hfi, v6', v7', rfl⟩
          rw [hEB.1, List.take_length] at hfi
          refine ⟨ef, ?_⟩
          have s5 := s3.trans back
          have dm5 := dm.same back
          have dl5 := dl.same back
          generalize upd H4 la (.dT kB) = H5 at s5 dm5 dl5 ⊢
          obtain ⟨dx, tx, rx, lx, asx, gx1, gx2, gx3, gx4, gx5⟩ := mx.same s5
          obtain ⟨dy, ty, ry, ly, asy, gy1, gy2, gy3, gy4, gy5⟩ := my.same s5
          refine ⟨_, rfl, x, C, dx, _, _, rfl, gx1, M.cl, M.nD, mf_deeds _ _ _ _, _, rfl, x, C, dx, _, _, rfl, gx1, M.cl, M.nR, mf_rows _ _ _ _, _, rfl, y, C, dy, _, _, rfl, gy1, M.cl, M.nR, mf_rows _ _ _ _, Nat.le_of_ble_eq_true rfl, fun tt htt => ?_⟩
          have s6 := same_upd (o := .tup [V.ref rx, V.ref ry]) htt
          have e6 : upd H5 tt (.tup [V.ref rx, V.ref ry]) tt = some (.tup ([rx, ry].map V.ref)) := upd_same
          generalize upd H5 tt (.tup [V.ref rx, V.ref ry]) = H6 at s6 e6 ⊢
          refine ⟨_, rfl, _, rfl, tx, tt, la, me, ws, [rs1, rs2], [a, b], M0 ++ B, B, rfl, (gx2.same s6).sq, ⟨[rx, ry], SqT.of e6, rfl, fun i a' t' e1 e2 => ?_⟩, htab, hs0, by rw [hR]; exact dl5.same s6, by rw [hR]; exact dm5.same s6, nml.symm, by rw [hR]; exact I.nd, fun u hu => I.lt u (hBM u hu), ?_, by simp, fun p N H7 hp s7 edd dN => ?_⟩
          · match i, e1, e2 with
            | 0, e1, e2 => cases e1; cases e2; exact ⟨asx, s6 _ _ gx3, gx4.1, fun j b' q' f1 f2 => s6 _ _ (gx4.2 j b' q' f1 f2)⟩
            | 1, e1, e2 => cases e1; cases e2; exact ⟨asy, s6 _ _ gy3, gy4.1, fun j b' q' f1 f2 => s6 _ _ (gy4.2 j b' q' f1 f2)⟩
            | _ + 2, e1, _ => simp at e1
          · have h1 : B.length ≤ 3600 := by rw [List.length_append] at hMl; omega
            have := Nat.mul_le_mul w6 h1
            omega
          rw [hR] at edd dN
          have s57 := s6.trans s7
          have s07 := s5.trans s57
          have dm7 := dm5.same s57
          obtain ⟨kN, hpN, hEN⟩ := id dN
          obtain ⟨kM7, hme7, hEM7⟩ := id dm7
          have nmp : me ≠ p := by
            obtain ⟨kv, e, _⟩ := id dm5
            exact ne_of_none (s6 _ _ e) hp
          have ebs : bfs r ws.length (n + 1) = (M0 ++ B ++ N, N) := by
            show (dd r (bfs r ws.length n).1 (exts ws.length (bfs r ws.length n).2), (dd r (bfs r ws.length n).1 (exts ws.length (bfs r ws.length n).2)).drop (bfs r ws.length n).1.length) = _
            rw [eb]
            show (dd r (M0 ++ B) (exts ws.length B), (dd r (M0 ++ B) (exts ws.length B)).drop (M0 ++ B).length) = _
            rw [edd, List.drop_left]
          have I2 := bfs_ok hrc ws.length (n + 1)
          rw [ebs] at I2
          have hMl2 : (M0 ++ B ++ N).length ≤ prodN [rs1, rs2] := hml _ I2.nd I2.lt
          -- what is new is met
          refine ⟨p, .dT kN, hpN, trivial, fun od2 => ?_⟩
          have ef8 : upd H7 p (.frz od2 (.dT kN)) p = some (.frz od2 (.dT kN)) := upd_same
          have kf8 : KeepT H7 (upd H7 p (.frz od2 (.dT kN))) := KeepT.updT hpN
          have kx8 : ∀ b o, b ≠ p → H7 b = some o → upd H7 p (.frz od2 (.dT kN)) b = some o := fun b o nb e => by rw [upd_ne nb]; exact e
          generalize upd H7 p (.frz od2 (.dT kN)) = H8 at ef8 kf8 kx8 ⊢
          have hEN8 := hEN.keep kf8
          refine ⟨_, rfl, p, od2, kN, rfl, ef8, for_it (walk_itemsT (d := p) (o := od2) (kvs := kN)) (fun j σ H' => (∀ b o, b ≠ p → b ≠ me → H8 b = some o → H' b = some o) ∧ H' p = some (.frz od2 (.dT kN)) ∧ (∃ kM', H' me = some (.dT kM') ∧ Ents r ws H' kM' (M0 ++ B ++ N.take j)) ∧ ∃ v8 v9, σ = [some (.ref x), some (.int a), some (.ref y), some (.int b), some (.ref me), some (.ref p), v6', v7', v8, v9]) ?_ (fun j σ H' _ q => q.2.1) ?_ ?_⟩
          · exact ⟨fun b o _ _ e => e, ef8, ⟨kM7, kx8 _ _ nmp hme7, by rw [List.take_zero, List.append_nil]; exact hEM7.keep kf8⟩, v8, v9, rfl⟩
          · rintro j yv σ H9 H10 hj ⟨kx9, hp9, ⟨kM', hme9, hEM9⟩, v8', v9', rfl⟩ ⟨T', key, v, q, hkv, hq, rfl, hT', rfl⟩
            have hjN : j < N.length := by rw [← hEN.1]; exact hj
            have eu : N[j]? = some N[j] := List.getElem?_eq_getElem hjN
            have etk : N.take (j + 1) = N.take j ++ [N[j]] := by rw [List.take_add_one, eu]; rfl
            have edr : N = N.take j ++ N[j] :: N.drop (j + 1) := by rw [← List.drop_eq_getElem_cons hjN, List.take_append_drop]
            generalize N[j] = u at eu etk edr
            obtain ⟨rfl, hev⟩ := hEN8.2 j _ _ _ hkv eu
            have s10 := same_upd (o := .tup [V.ref q, v]) hT'
            have e10 : upd H9 T' (.tup [V.ref q, v]) T' = some (.tup [V.ref q, v]) := upd_same
            have kt89 : KeepT H8 H9 := fun c xs e => kx9 _ _ (ne_of e ef8 (by intro z; cases z)) (ne_of e (kx8 _ _ nmp hme7) (by intro z; cases z)) e
            refine ⟨T', _, rfl, SqT.of upd_same, rfl, _, _, rfl, _, _, rfl, rfl, ?_⟩
            have kx10 : ∀ b o, b ≠ p → b ≠ me → H8 b = some o → upd H9 T' (.tup [V.ref q, v]) b = some o := fun b o n1 n2 e => s10 _ _ (kx9 b o n1 n2 e)
            have hp10 := s10 _ _ hp9
            have hme10 := s10 _ _ hme9
            have hEM10 := hEM9.keep (.of s10)
            have hev10 := (hev.keep kt89).keep (.of s10)
            have hq10 := s10 _ _ hq
            generalize upd H9 T' (.tup [V.ref q, v]) = H10 at kx10 hp10 hme10 hEM10 hev10 hq10 ⊢
            have hnew : r u ∉ (M0 ++ B ++ N.take j).map r := by
              have h1 := I2.nd
              rw [edr, ← List.append_assoc, List.map_append] at h1
              intro hz
              exact (List.nodup_append.mp h1).2.2 _ hz _ (by rw [List.map_cons]; exact List.mem_cons_self ..) rfl
            have hkl : kM'.length < sizeLine := by
              rw [hEM10.1, List.length_append, List.length_take]
              rw [List.length_append] at hMl2
              rw [sizeLine_eq]; omega
            refine ⟨_, rfl, _, rfl, _, rfl, me, _, rfl, DPut.t hme10 hq10 hkl, ?_⟩
            rw [putK_new _ (hEM10.no hnew)]
            have hE11 := (hEM10.snoc hev10).keep (KeepT.updT (o := .dT (kM' ++ [(keyI (r u), v)])) hme10)
            exact ⟨fun b o n1 n2 e => by rw [upd_ne n2]; exact kx10 b o n1 n2 e, by rw [upd_ne nmp.symm]; exact hp10, ⟨_, upd_same, by rw [etk, ← List.append_assoc]; exact hE11⟩, _, _, rfl⟩
          · rintro σ H9 ⟨kx9, hp9, ⟨kM', hme9, hEM9⟩, v8', v9', rfl⟩
            rw [hEN.1, List.take_length] at hEM9
            have kf9 := KeepT.updF (o := .dT kN) hp9
            have s9 : Same H (upd H9 p (.dT kN)) := fun b o e => by
              have e7 := s07 _ _ e
              have nbm : b ≠ me := ne_of_none e hme
              by_cases hb : b = p
              · subst hb; rw [hpN] at e7; cases e7; exact upd_same
              · rw [upd_ne hb]; exact kx9 _ _ hb nbm (kx8 _ _ hb e7)
            have kt79 : KeepT H7 H9 := fun c xs e => kx9 _ _ (ne_of e hpN (by intro z; cases z)) (ne_of e hme7 (by intro z; cases z)) (kf8 _ _ e)
            refine ⟨hp9, _, ?_, n + 1, M0 ++ B, N, p, _, _, _, _, ebs, ?_, s9, ⟨kM', by rw [upd_ne nmp]; exact hme9, hEM9.keep kf9⟩, ⟨kN, upd_same, (hEN.keep kt79).keep kf9⟩, nmp, ?_, rfl, rfl⟩
            · rw [if_neg hB0]
              have h1 : (M0 ++ B ++ N).length = (M0 ++ B).length + N.length := List.length_append
              by_cases hN0 : N = []
              · rw [if_pos hN0, hN0, List.append_nil]; omega
              · have h2 := List.length_pos_iff.mpr hN0
                rw [if_neg hN0]; omega
            · rw [List.find?_append, hf0, hfi]; rfl
            · intro hN0
              have h2 := List.length_pos_iff.mpr hN0
              rw [List.length_append]; omega
      · have hB0 : B = [] := by
          have h1 := hEB.1
          refine List.length_eq_zero_iff.mp ?_
          rw [← h1]
          have h2 : ¬ ((kB.length : Nat) : Int) > 0 := fun z => hgt (decide_eq_true z)
          omega
        subst hB0
        rw [List.append_nil] at eb
        refine kN H3 (fun n' => ?_) s3
        rw [← bfs_find hrc hpc]
        by_cases hn' : n ≤ n'
        · rw [bfs_end hrc (by rw [eb]) n' hn', eb]; exact hf0
        · obtain ⟨R, eR⟩ := allU_pre ws.length (show n' ≤ n by omega)
          have h1 := bfs_find hrc hpc ws.length n
          rw [eb, eR, List.find?_append] at h1
          rw [bfs_find hrc hpc]
          have h2 : ((allU ws.length n').find? fun v => dif ss1 ss2 (r v)).or (R.find? fun v => dif ss1 ss2 (r v)) = none := by rw [← h1]; exact hf0
          cases hz : (allU ws.length n').find? fun v => dif ss1 ss2 (r v) with
          | none => rfl
          | some z => rw [hz] at h2; cases h2
    · rintro σ H Q Q' hQ ⟨v, e, d, kvs, h1, h2, i, j, h3, h4, c, h5, h6⟩
      exact ⟨v, e, d, kvs, h1, h2, i, j, h3, h4, c, h5, hQ _ _ h6⟩
end
end K1
set_option Elab.async false
set_option linter.all false
set_option maxRecDepth 100000
/-! walks.first_steps -/
namespace K1
open PySem L2 LamX
abbrev sFS : Stmt := top 18
/-- no bound, or one -/
def MostV (v : V) (o : Option Int) : Prop := (v = .non ∧ o = none) ∨ ∃ m : Int, v = .int m ∧ o = some m
def spFS (K : PySem.W.Frag) : Sp := fun vs H Q _ => ∃ (de tt be : Addr) (mo : V) (om : Option Int) (ws : List Str) (ts : List (List (List Int))) (s0 : List Int), vs = [.ref de, .ref tt, .ref be, mo] ∧ MostV mo om ∧ SqT K H de (ws.map V.str) ∧ TabsAt K H tt ts ∧ H be = some (.tup (s0.map V.int)) ∧
  (∀ t ∈ ts, TabOk ws.length t) ∧ StOk ts s0 ∧ ws.length ≤ 6 ∧ prodN ts ≤ 3600 ∧ ts.length ≤ 900 ∧
  ∀ (fo : Addr) (H' : Hp) (n : Nat) (M0 B : List (List Nat)), bfs (runT ts s0) ws.length n = (M0 ++ B, B) → (B = [] ∨ ∃ m, om = some m ∧ m < ((M0 ++ B).length : Int)) → H fo = none → Same H H' → DAt (runT ts s0) ws H' fo (M0 ++ B) → Q (.ref fo) H'
section
variable {P : Program} {w : World} {K : PySem.W.Frag} {mg : Str → Option Value} {base : Heap}
abbrev pFS : List Str := ["deeds", "tables", "begin", "most"]
abbrev nFS : List Str := ["deeds", "tables", "begin", "most", "found", "layer", "states", "step"]
theorem scFS : FnScope nFS pFS (defScope sFS) := ⟨rfl, rfl, rfl, by decide +kernel, rfl, by decide +kernel, by decide +kernel⟩
theorem ok_fs {f fN : Addr} {fd fdN : FuncData} (F : FunD K "first_steps" "first_steps" (defArgs sFS) (defBody sFS) (defScope sFS) [.non] [] f fd) (DN : Df K mg "next_layer" sNL pNL fN fdN) (T : Bt2 mg) (hz : mg "zip" = none) : FnOk P w K mg base CX0 2 f fd pFS (spFS K) := by
  have GN : FnOk P w K mg base CX0 1 fN fdN pNL (spNL K) := ok_nl DN T hz
  refine F.ok scFS (fun vs H Q E h => ?_) (fun cdv A outer s H vs Q E hr h => ?_)
  · obtain ⟨de, tt, be, mo, om, ws, ts, s0, rfl, _⟩ := h
    rfl
  · obtain ⟨de, tt, be, mo, om, ws, ts, s0, rfl, hmo, hde, htt, hbe, htab, hs0, w6, hpn, htl, k⟩ := h
    have hu := hu_of hr
    refine ⟨_, pss_cons (ps_set (i := 4) scFS.nd rfl (Or.inl rfl) (pe_disp1T hu (pv 2) pe_non))
      (pss_cons (ps_set (i := 5) scFS.nd rfl (Or.inl rfl) (pe_disp1T hu (pv 2) pe_non))
      (pss_cons (ps_while (passes_of rfl) (PW.pt (pw_and (pt_cmpR op_gt (pe_callB call_len_dT (by rfl) T.len PySem.boot_len (pa_cons (pv 5) pa_nil)) pe_int (nomark _))
          (pw_and1 (PW.pt (pw_or (pt_cmpR op_isN (pv 3) pe_non (nomark _)) (pw_or1 (pt_cmpR op_le (pe_callB call_len_dT (by rfl) T.len PySem.boot_len (pa_cons (pv 4) pa_nil)) (pv 3) (nomark _))))))))
        (pss_cons (ps_set (i := 5) scFS.nd rfl (Or.inl rfl) (pe_call GN hr rfl DN.g DN.F.kp DN.b .nil pass0 (pa_cons (pv 0) (pa_cons (pv 1) (pa_cons (pv 5) (pa_cons (pv 4) pa_nil))))))
        (pss_one (ps_lock (ps_for (passes_of rfl) rfl (pi_itemsT (pv 5)) (pg_tup (by rfl) (pgs_cons (pg_name (i := 6) scFS.nd rfl (Or.inl rfl)) (pgs_cons (pg_name (i := 7) scFS.nd rfl (Or.inl rfl)) pgs_nil)))
          (pss_one (ps_dput hu (pv 4) (pv 6) (pv 7) rfl)))))))
      (pss_one (ps_ret (pv 4))))), ?_⟩
    have r0 : runT ts s0 [] = s0 := rfl
    have hrc := runT_c ts s0
    have hml : ∀ M : List (List Nat), (M.map (runT ts s0)).Nodup → (∀ u ∈ M, ∀ k ∈ u, k < ws.length) → M.length ≤ prodN ts := fun M => met_len hs0 htab
    generalize hR : runT ts s0 = r at r0 hrc hml k
    have mk1 : ∀ {G : Hp} {p : Addr}, G p = none → Same G (upd (upd G p (.dT [])) p (.dT [(keyI s0, V.non)])) ∧ DAt r ws (upd (upd G p (.dT [])) p (.dT [(keyI s0, V.non)])) p [[]] := fun {G p} hp => by
      refine ⟨fun c o e => ?_, _, upd_same, rfl, fun i k v u e1 e2 => ?_⟩
      · rw [upd_ne (ne_of_none e hp)]
        exact same_upd hp _ _ e
      · match i, e1, e2 with
        | 0, e1, e2 => cases e1; cases e2; exact ⟨by rw [r0], .inl ⟨rfl, rfl⟩⟩
        | _ + 1, e1, _ => simp at e1
    -- found
    intro me hme
    refine ⟨_, rfl, upd_same, be, keyI s0, .non, rfl, by rw [keyI_kV]; exact same_upd hme _ _ hbe, ?_⟩
    obtain ⟨s1, dm1⟩ := mk1 hme
    generalize upd (upd H me (.dT [])) me (.dT [(keyI s0, V.non)]) = H1 at s1 dm1 ⊢
    -- layer
    intro la hla
    refine ⟨_, rfl, upd_same, be, keyI s0, .non, rfl, by rw [keyI_kV]; exact same_upd hla _ _ (s1 _ _ hbe), ?_⟩
    obtain ⟨s2, dl2⟩ := mk1 hla
    have nml : me ≠ la := by
      obtain ⟨kv, e, _⟩ := id dm1
      exact ne_of_none e hla
    have dm2 := dm1.same s2
    have s02 := s1.trans s2
    generalize upd (upd H1 la (.dT [])) la (.dT [(keyI s0, V.non)]) = H2 at s2 dl2 dm2 s02 ⊢
    -- the loop
    refine while_ix (fun m σ H' => ∃ (n : Nat) (M0 B : List (List Nat)) (la : Addr) (v6 v7 : Option V), bfs r ws.length n = (M0 ++ B, B) ∧ Same H H' ∧ DAt r ws H' me (M0 ++ B) ∧ DAt r ws H' la B ∧ me ≠ la ∧ m = 2 * (prodN ts - (M0 ++ B).length) + (if B = [] then 0 else 1) ∧
      σ = [some (.ref de), some (.ref tt), some (.ref be), some mo, some (.ref me), some (.ref la), v6, v7]) (2 * (prodN ts - 1) + 1) ?_ ?_ ?_
    · exact ⟨0, [], [[]], la, none, none, rfl, s02, dm2, dl2, nml, rfl, rfl⟩
    · rintro m σ H3 ⟨n, M0, B, la, v6, v7, eb, s3, dm, dl, nml, rfl, rfl⟩
      obtain ⟨kM, hme3, hEM⟩ := id dm
      obtain ⟨kB, hla3, hEB⟩ := id dl
      have I := bfs_ok hrc ws.length n
      rw [eb] at I
      have hBM : ∀ u ∈ B, u ∈ M0 ++ B := fun u hu => List.mem_append_right _ hu
      have hMl : (M0 ++ B).length ≤ prodN ts := hml _ I.nd I.lt
      refine ⟨_, rfl, la, kB, rfl, hla3, _, _, rfl, rfl, _, rfl, ?_⟩
      refine ite2 (fun hgt => ?_) (fun hgt => ?_)
      · have hB0 : B ≠ [] := fun e => by
          have h1 := hEB.1
          rw [e] at h1
          have h2 := of_decide_eq_true hgt
          simp at h1
          rw [h1] at h2
          exact absurd h2 (by decide)
        rcases hmo with ⟨em, eo⟩ | ⟨m0, em, eo⟩
        · refine ⟨_, rfl, rfl, _, rfl, ?_⟩
          refine ite2 (fun _ => ?_) (fun h => absurd (decide_eq_true em) h)
          refine ⟨_, rfl, _, rfl, _, rfl, _, rfl, de, tt, la, me, ws, ts, s0, M0 ++ B, B, rfl, hde.ext s3, htt.keep (.of s3) (fun a xs h => h.ext s3), htab, hs0, by rw [hR]; exact dl, by rw [hR]; exact dm, nml.symm, by rw [hR]; exact I.nd, fun u hu => I.lt u (hBM u hu), ?_, htl, fun p N H7 hp s7 edd dN => ?_⟩
          · have h1 : B.length ≤ 3600 := by rw [List.length_append] at hMl; omega
            have := Nat.mul_le_mul w6 h1
            omega
          rw [hR] at edd dN
          have s07 := s3.trans s7
          have dm7 := dm.same s7
          obtain ⟨kN, hpN, hEN⟩ := id dN
          obtain ⟨kM7, hme7, hEM7⟩ := id dm7
          have nmp : me ≠ p := ne_of_none hme3 hp
          have ebs : bfs r ws.length (n + 1) = (M0 ++ B ++ N, N) := by
            show (dd r (bfs r ws.length n).1 (exts ws.length (bfs r ws.length n).2), (dd r (bfs r ws.length n).1 (exts ws.length (bfs r ws.length n).2)).drop (bfs r ws.length n).1.length) = _
            rw [eb]
            show (dd r (M0 ++ B) (exts ws.length B), (dd r (M0 ++ B) (exts ws.length B)).drop (M0 ++ B).length) = _
            rw [edd, List.drop_left]
          have I2 := bfs_ok hrc ws.length (n + 1)
          rw [ebs] at I2
          have hMl2 : (M0 ++ B ++ N).length ≤ prodN ts := hml _ I2.nd I2.lt
          refine ⟨p, .dT kN, hpN, trivial, fun od2 => ?_⟩
          have ef8 : upd H7 p (.frz od2 (.dT kN)) p = some (.frz od2 (.dT kN)) := upd_same
          have kf8 : KeepT H7 (upd H7 p (.frz od2 (.dT kN))) := KeepT.updT hpN
          have kx8 : ∀ b o, b ≠ p → H7 b = some o → upd H7 p (.frz od2 (.dT kN)) b = some o := fun b o nb e => by rw [upd_ne nb]; exact e
          generalize upd H7 p (.frz od2 (.dT kN)) = H8 at ef8 kf8 kx8 ⊢
          have hEN8 := hEN.keep kf8
          refine ⟨_, rfl, p, od2, kN, rfl, ef8, for_it (walk_itemsT (d := p) (o := od2) (kvs := kN)) (fun j σ H' => (∀ b o, b ≠ p → b ≠ me → H8 b = some o → H' b = some o) ∧ H' p = some (.frz od2 (.dT kN)) ∧ (∃ kM', H' me = some (.dT kM') ∧ Ents r ws H' kM' (M0 ++ B ++ N.take j)) ∧ ∃ v6 v7, σ = [some (.ref de), some (.ref tt), some (.ref be), some mo, some (.ref me), some (.ref p), v6, v7]) ?_ (fun j σ H' _ q => q.2.1) ?_ ?_⟩
          · exact ⟨fun b o _ _ e => e, ef8, ⟨kM7, kx8 _ _ nmp hme7, by rw [List.take_zero, List.append_nil]; exact hEM7.keep kf8⟩, v6, v7, rfl⟩
          · rintro j yv σ H9 H10 hj ⟨kx9, hp9, ⟨kM', hme9, hEM9⟩, v6', v7', rfl⟩ ⟨T', key, v, q, hkv, hq, rfl, hT', rfl⟩
            have hjN : j < N.length := by rw [← hEN.1]; exact hj
            have eu : N[j]? = some N[j] := List.getElem?_eq_getElem hjN
            have etk : N.take (j + 1) = N.take j ++ [N[j]] := by rw [List.take_add_one, eu]; rfl
            have edr : N = N.take j ++ N[j] :: N.drop (j + 1) := by rw [← List.drop_eq_getElem_cons hjN, List.take_append_drop]
            generalize N[j] = u at eu etk edr
            obtain ⟨rfl, hev⟩ := hEN8.2 j _ _ _ hkv eu
            have s10 := same_upd (o := .tup [V.ref q, v]) hT'
            have kt89 : KeepT H8 H9 := fun c xs e => kx9 _ _ (ne_of e ef8 (by intro z; cases z)) (ne_of e (kx8 _ _ nmp hme7) (by intro z; cases z)) e
            refine ⟨T', _, rfl, SqT.of upd_same, rfl, _, _, rfl, _, _, rfl, rfl, ?_⟩
            have kx10 : ∀ b o, b ≠ p → b ≠ me → H8 b = some o → upd H9 T' (.tup [V.ref q, v]) b = some o := fun b o n1 n2 e => s10 _ _ (kx9 b o n1 n2 e)
            have hp10 := s10 _ _ hp9
            have hme10 := s10 _ _ hme9
            have hEM10 := hEM9.keep (.of s10)
            have hev10 := (hev.keep kt89).keep (.of s10)
            have hq10 := s10 _ _ hq
            generalize upd H9 T' (.tup [V.ref q, v]) = H10 at kx10 hp10 hme10 hEM10 hev10 hq10 ⊢
            have hnew : r u ∉ (M0 ++ B ++ N.take j).map r := by
              have h1 := I2.nd
              rw [edr, ← List.append_assoc, List.map_append] at h1
              intro hz
              exact (List.nodup_append.mp h1).2.2 _ hz _ (by rw [List.map_cons]; exact List.mem_cons_self ..) rfl
            have hkl : kM'.length < sizeLine := by
              rw [hEM10.1, List.length_append, List.length_take]
              rw [List.length_append] at hMl2
              rw [sizeLine_eq]; omega
            refine ⟨_, rfl, _, rfl, _, rfl, me, _, rfl, DPut.t hme10 hq10 hkl, ?_⟩
            rw [putK_new _ (hEM10.no hnew)]
            have hE11 := (hEM10.snoc hev10).keep (KeepT.updT (o := .dT (kM' ++ [(keyI (r u), v)])) hme10)
            exact ⟨fun b o n1 n2 e => by rw [upd_ne n2]; exact kx10 b o n1 n2 e, by rw [upd_ne nmp.symm]; exact hp10, ⟨_, upd_same, by rw [etk, ← List.append_assoc]; exact hE11⟩, _, _, rfl⟩
          · rintro σ H9 ⟨kx9, hp9, ⟨kM', hme9, hEM9⟩, v6', v7', rfl⟩
            rw [hEN.1, List.take_length] at hEM9
            have kf9 := KeepT.updF (o := .dT kN) hp9
            have s9 : Same H (upd H9 p (.dT kN)) := fun b o e => by
              have e7 := s07 _ _ e
              have nbm : b ≠ me := ne_of_none e hme
              by_cases hb : b = p
              · subst hb; rw [hpN] at e7; cases e7; exact upd_same
              · rw [upd_ne hb]; exact kx9 _ _ hb nbm (kx8 _ _ hb e7)
            have kt79 : KeepT H7 H9 := fun c xs e => kx9 _ _ (ne_of e hpN (by intro z; cases z)) (ne_of e hme7 (by intro z; cases z)) (kf8 _ _ e)
            refine ⟨hp9, _, ?_, n + 1, M0 ++ B, N, p, _, _, ebs, s9, ⟨kM', by rw [upd_ne nmp]; exact hme9, hEM9.keep kf9⟩, ⟨kN, upd_same, (hEN.keep kt79).keep kf9⟩, nmp, rfl, rfl⟩
            rw [if_neg hB0]
            have h1 : (M0 ++ B ++ N).length = (M0 ++ B).length + N.length := List.length_append
            by_cases hN0 : N = []
            · rw [if_pos hN0, hN0, List.append_nil]; omega
            · have h2 := List.length_pos_iff.mpr hN0
              rw [if_neg hN0]; omega
        · refine ⟨_, rfl, rfl, _, rfl, ?_⟩
          refine ite2 (fun h => absurd (of_decide_eq_true h) (by rw [em]; intro z; cases z)) (fun _ => ?_)
          refine ⟨_, rfl, me, kM, rfl, hme3, _, rfl, _, m0, rfl, em, _, rfl, ?_⟩
          refine ite2 (fun hle => ?_) (fun hle => ?_)
          · skip
            refine ⟨_, rfl, _, rfl, _, rfl, _, rfl, de, tt, la, me, ws, ts, s0, M0 ++ B, B, rfl, hde.ext s3, htt.keep (.of s3) (fun a xs h => h.ext s3), htab, hs0, by rw [hR]; exact dl, by rw [hR]; exact dm, nml.symm, by rw [hR]; exact I.nd, fun u hu => I.lt u (hBM u hu), ?_, htl, fun p N H7 hp s7 edd dN => ?_⟩
            · have h1 : B.length ≤ 3600 := by rw [List.length_append] at hMl; omega
              have := Nat.mul_le_mul w6 h1
              omega
            rw [hR] at edd dN
            have s07 := s3.trans s7
            have dm7 := dm.same s7
            obtain ⟨kN, hpN, hEN⟩ := id dN
            obtain ⟨kM7, hme7, hEM7⟩ := id dm7
            have nmp : me ≠ p := ne_of_none hme3 hp
            have ebs : bfs r ws.length (n + 1) = (M0 ++ B ++ N, N) := by
              show (dd r (bfs r ws.length n).1 (exts ws.length (bfs r ws.length n).2), (dd r (bfs r ws.length n).1 (exts ws.length (bfs r ws.length n).2)).drop (bfs r ws.length n).1.length) = _
              rw [eb]
              show (dd r (M0 ++ B) (exts ws.length B), (dd r (M0 ++ B) (exts ws.length B)).drop (M0 ++ B).length) = _
              rw [edd, List.drop_left]
            have I2 := bfs_ok hrc ws.length (n + 1)
            rw [ebs] at I2
            have hMl2 : (M0 ++ B ++ N).length ≤ prodN ts := hml _ I2.nd I2.lt
            refine ⟨p, .dT kN, hpN, trivial, fun od2 => ?_⟩
            have ef8 : upd H7 p (.frz od2 (.dT kN)) p = some (.frz od2 (.dT kN)) := upd_same
            have kf8 : KeepT H7 (upd H7 p (.frz od2 (.dT kN))) := KeepT.updT hpN
            have kx8 : ∀ b o, b ≠ p → H7 b = some o → upd H7 p (.frz od2 (.dT kN)) b = some o := fun b o nb e => by rw [upd_ne nb]; exact e
            generalize upd H7 p (.frz od2 (.dT kN)) = H8 at ef8 kf8 kx8 ⊢
            have hEN8 := hEN.keep kf8
            refine ⟨_, rfl, p, od2, kN, rfl, ef8, for_it (walk_itemsT (d := p) (o := od2) (kvs := kN)) (fun j σ H' => (∀ b o, b ≠ p → b ≠ me → H8 b = some o → H' b = some o) ∧ H' p = some (.frz od2 (.dT kN)) ∧ (∃ kM', H' me = some (.dT kM') ∧ Ents r ws H' kM' (M0 ++ B ++ N.take j)) ∧ ∃ v6 v7, σ = [some (.ref de), some (.ref tt), some (.ref be), some mo, some (.ref me), some (.ref p), v6, v7]) ?_ (fun j σ H' _ q => q.2.1) ?_ ?_⟩
            · exact ⟨fun b o _ _ e => e, ef8, ⟨kM7, kx8 _ _ nmp hme7, by rw [List.take_zero, List.append_nil]; exact hEM7.keep kf8⟩, v6, v7, rfl⟩
            · rintro j yv σ H9 H10 hj ⟨kx9, hp9, ⟨kM', hme9, hEM9⟩, v6', v7', rfl⟩ ⟨T', key, v, q, hkv, hq, rfl, hT', rfl⟩
              have hjN : j < N.length := by rw [← hEN.1]; exact hj
              have eu : N[j]? = some N[j] := List.getElem?_eq_getElem hjN
              have etk : N.take (j + 1) = N.take j ++ [N[j]] := by rw [List.take_add_one, eu]; rfl
              have edr : N = N.take j ++ N[j] :: N.drop (j + 1) := by rw [← List.drop_eq_getElem_cons hjN, List.take_append_drop]
              generalize N[j] = u at eu etk edr
              obtain ⟨rfl, hev⟩ := hEN8.2 j _ _ _ hkv eu
              have s10 := same_upd (o := .tup [V.ref q, v]) hT'
              have kt89 : KeepT H8 H9 := fun c xs e => kx9 _ _ (ne_of e ef8 (by intro z; cases z)) (ne_of e (kx8 _ _ nmp hme7) (by intro z; cases z)) e
              refine ⟨T', _, rfl, SqT.of upd_same, rfl, _, _, rfl, _, _, rfl, rfl, ?_⟩
              have kx10 : ∀ b o, b ≠ p → b ≠ me → H8 b = some o → upd H9 T' (.tup [V.ref q, v]) b = some o := fun b o n1 n2 e => s10 _ _ (kx9 b o n1 n2 e)
              have hp10 := s10 _ _ hp9
              have hme10 := s10 _ _ hme9
              have hEM10 := hEM9.keep (.of s10)
              have hev10 := (hev.keep kt89).keep (.of s10)
              have hq10 := s10 _ _ hq
              generalize upd H9 T' (.tup [V.ref q, v]) = H10 at kx10 hp10 hme10 hEM10 hev10 hq10 ⊢
              have hnew : r u ∉ (M0 ++ B ++ N.take j).map r := by
                have h1 := I2.nd
                rw [edr, ← List.append_assoc, List.map_append] at h1
                intro hz
                exact (List.nodup_append.mp h1).2.2 _ hz _ (by rw [List.map_cons]; exact List.mem_cons_self ..) rfl
              have hkl : kM'.length < sizeLine := by
                rw [hEM10.1, List.length_append, List.length_take]
                rw [List.length_append] at hMl2
                rw [sizeLine_eq]; omega
              refine ⟨_, rfl, _, rfl, _, rfl, me, _, rfl, DPut.t hme10 hq10 hkl, ?_⟩
              rw [putK_new _ (hEM10.no hnew)]
              have hE11 := (hEM10.snoc hev10).keep (KeepT.updT (o := .dT (kM' ++ [(keyI (r u), v)])) hme10)
              exact ⟨fun b o n1 n2 e => by rw [upd_ne n2]; exact kx10 b o n1 n2 e, by rw [upd_ne nmp.symm]; exact hp10, ⟨_, upd_same, by rw [etk, ← List.append_assoc]; exact hE11⟩, _, _, rfl⟩
            · rintro σ H9 ⟨kx9, hp9, ⟨kM', hme9, hEM9⟩, v6', v7', rfl⟩
              rw [hEN.1, List.take_length] at hEM9
              have kf9 := KeepT.updF (o := .dT kN) hp9
              have s9 : Same H (upd H9 p (.dT kN)) := fun b o e => by
                have e7 := s07 _ _ e
                have nbm : b ≠ me := ne_of_none e hme
                by_cases hb : b = p
                · subst hb; rw [hpN] at e7; cases e7; exact upd_same
                · rw [upd_ne hb]; exact kx9 _ _ hb nbm (kx8 _ _ hb e7)
              have kt79 : KeepT H7 H9 := fun c xs e => kx9 _ _ (ne_of e hpN (by intro z; cases z)) (ne_of e hme7 (by intro z; cases z)) (kf8 _ _ e)
              refine ⟨hp9, _, ?_, n + 1, M0 ++ B, N, p, _, _, ebs, s9, ⟨kM', by rw [upd_ne nmp]; exact hme9, hEM9.keep kf9⟩, ⟨kN, upd_same, (hEN.keep kt79).keep kf9⟩, nmp, rfl, rfl⟩
              rw [if_neg hB0]
              have h1 : (M0 ++ B ++ N).length = (M0 ++ B).length + N.length := List.length_append
              by_cases hN0 : N = []
              · rw [if_pos hN0, hN0, List.append_nil]; omega
              · have h2 := List.length_pos_iff.mpr hN0
                rw [if_neg hN0]; omega
          · refine ⟨_, rfl, k me H3 n M0 B eb (.inr ⟨m0, eo, ?_⟩) hme s3 dm⟩
            have h1 : ¬ ((kM.length : Nat) : Int) ≤ m0 := fun z => hle (decide_eq_true z)
            rw [← hEM.1]; omega
      · have hB0 : B = [] := by
          have h1 := hEB.1
          refine List.length_eq_zero_iff.mp ?_
          rw [← h1]
          have h2 : ¬ ((kB.length : Nat) : Int) > 0 := fun z => hgt (decide_eq_true z)
          omega
        exact ⟨_, rfl, k me H3 n M0 B eb (.inl hB0) hme s3 dm⟩
    · rintro σ H Q Q' hQ ⟨v, e, d, kvs, h1, h2, i, j, h3, h4, c, h5, h6⟩
      refine ⟨v, e, d, kvs, h1, h2, i, j, h3, h4, c, h5, ?_⟩
      cases c with
      | false => exact hQ _ _ h6
      | true =>
        obtain ⟨v3, e3, hn, c2, h7, h8⟩ := h6
        refine ⟨v3, e3, hn, c2, h7, ?_⟩
        cases c2 with
        | true => exact hQ _ _ h8
        | false =>
          obtain ⟨v4, e4, d4, k4, g1, g2, v5, e5, i5, j5, g3, g4, c5, g5, g6⟩ := h8
          exact ⟨v4, e4, d4, k4, g1, g2, v5, e5, i5, j5, g3, g4, c5, g5, hQ _ _ g6⟩
end
end K1
set_option Elab.async false
set_option linter.all false
set_option maxRecDepth 100000
/-! row_to of a dict that is walked; Machine.reached -/
namespace L2
open PySem
theorem DGet.tR {H : Hp} {a b : Addr} {kvs : List (List Key × V)} {k : List Key} (e : Rd H a (.dT kvs)) (eb : H b = some (.tup (k.map kV))) : DGet H a (.ref b) (valV kvs k) := .inr ⟨kvs, k, b, e, rfl, eb, rfl⟩
theorem Rd.same {H H' : Hp} {a : Addr} {u : HO} (r : Rd H a u) (s : Same H H') : Rd H' a u := r.imp (s _ _) fun ⟨o, e⟩ => ⟨o, s _ _ e⟩
end L2
namespace K1
open PySem L2 LamX
abbrev sMReach : Stmt := inClass (top 34) 8
def DRt (r : List Nat → List Int) (ws : List Str) (H : Hp) (d : Addr) (M : List (List Nat)) : Prop := ∃ kvs, Rd H d (.dT kvs) ∧ Ents r ws H kvs M
def spRTR (K : PySem.W.Frag) : Sp := fun vs H Q _ => ∃ (fo q : Addr) (r : List Nat → List Int) (ws : List Str) (M : List (List Nat)) (u : List Nat), vs = [.ref fo, .ref q] ∧ DRt r ws H fo M ∧ (M.map r).Nodup ∧ (∀ u k, u ++ [k] ∈ M → u ∈ M) ∧ u ∈ M ∧ H q = some (.tup ((r u).map V.int)) ∧ u.length ≤ 100000 ∧
  ∀ p H', H p = none → Same H H' → H' p = some (.tup (names ws u)) → Q (.ref p) H'
/-- what reached gives: states and rows, in the order in which they are met -/
def ReachAt (r : List Nat → List Int) (ws : List Str) (H : Hp) (l : Addr) (M : List (List Nat)) : Prop := ∃ ts : List Addr, H l = some (.lst (ts.map V.ref)) ∧ ts.length = M.length ∧
  ∀ (i : Nat) (t : Addr) (u : List Nat), ts[i]? = some t → M[i]? = some u → ∃ q, H t = some (.tup [.int ((r u).getD 0 0), .ref q]) ∧ H q = some (.tup (names ws u))
theorem ReachAt.same {r : List Nat → List Int} {ws : List Str} {H H' : Hp} {l : Addr} {M : List (List Nat)} (h : ReachAt r ws H l M) (s : Same H H') : ReachAt r ws H' l M := by
  obtain ⟨ts, h1, h2, h3⟩ := h
  exact ⟨ts, s _ _ h1, h2, fun i t u e1 e2 => by obtain ⟨q, g1, g2⟩ := h3 i t u e1 e2; exact ⟨q, s _ _ g1, s _ _ g2⟩⟩
/-- a word that is met is shorter than what is met -/
theorem pre_len {M : List (List Nat)} (pre : ∀ u k, u ++ [k] ∈ M → u ∈ M) {u : List Nat} (hu : u ∈ M) : u.length < M.length := by
  have hp : ∀ n, u.take (u.length - n) ∈ M := fun n => by
    induction n with
    | zero => rw [Nat.sub_zero, List.take_length]; exact hu
    | succ n ih =>
      by_cases h : u.length ≤ n
      · rw [show u.length - (n + 1) = u.length - n by omega]; exact ih
      · have hl : u.length - (n + 1) < u.length := by omega
        have e : u.take (u.length - n) = u.take (u.length - (n + 1)) ++ [u[u.length - (n + 1)]] := by
          rw [show u.length - n = u.length - (n + 1) + 1 by omega, List.take_add_one, List.getElem?_eq_getElem hl]; rfl
        rw [e] at ih
        exact pre _ _ ih
  have h1 := nodup_sub_len ((List.range (u.length + 1)).map fun n => u.take n) M ?_ ?_
  · rw [List.length_map, List.length_range] at h1; omega
  · refine List.pairwise_map.mpr (List.Pairwise.imp_of_mem (fun {x y} hx hy hne e => ?_) (List.nodup_range (n := u.length + 1)))
    have h1 := congrArg List.length e
    rw [List.length_take, List.length_take] at h1
    have h2 := List.mem_range.mp hx
    have h3 := List.mem_range.mp hy
    exact hne (by omega)
  · intro x hx
    obtain ⟨n, hn, rfl⟩ := List.mem_map.mp hx
    have := List.mem_range.mp hn
    have := hp (u.length - n)
    rwa [show u.length - (u.length - n) = n by omega] at this
def spReach (K : PySem.W.Frag) (C : Addr) : Sp := fun vs H Q _ => ∃ (x : Addr) (ws : List Str) (rs : List (List Int)) (ss : List Str) (st : Int), vs = [.ref x] ∧ MachAt K C H x ws rs ss st ∧ Parts ws rs ss st ∧
  ∀ (l : Addr) (H' : Hp) (n : Nat) (M : List (List Nat)), bfs (runT [rs] [st]) ws.length n = (M, []) → H l = none → Same H H' → ReachAt (runT [rs] [st]) ws H' l M → Q (.ref l) H'
section
variable {P : Program} {w : World} {K : PySem.W.Frag} {mg : Str → Option Value} {base : Heap}
theorem ok_rtR {f : Addr} {fd : FuncData} (D : Df K mg "row_to" sRT pRT f fd) (T : Bt2 mg) : FnOk P w K mg base CX0 1 f fd pRT (spRTR K) := by
  refine D.F.ok scRT (fun vs H Q E h => ?_) (fun cdv A outer s H vs Q E hr h => ?_)
  · obtain ⟨fo, q, r, ws, M, u, rfl, _⟩ := h
    rfl
  · obtain ⟨fo, q, r, ws, M, u, rfl, ⟨kv, hfo, hE⟩, hnd, hpre, hu', hq, hlen, k⟩ := h
    have hu := hu_of hr
    refine ⟨_, pss_cons (ps_set (i := 2) scRT.nd rfl (Or.inl rfl) (pe_lst pa_nil))
      (pss_cons (ps_set (i := 3) scRT.nd rfl (Or.inl rfl) (pe_dget hu (pv 0) (pv 1) (fun _ _ => rfl)))
      (pss_cons (ps_while PassesOwn.never (pt_cmpR op_notN (pv 3) pe_non (nomark _))
        (pss_cons (ps_expr (pe_bm PySem.F.plainAttrs_list PySem.F.slot_list_append PySem.F.type_list_append mt_append (pv 2) (pa_cons (pe_ix (r := rIxT K) ix_tup (pv 3) pe_int (fun _ _ => rfl)) pa_nil)))
        (pss_one (ps_set (i := 3) scRT.nd rfl (Or.inl rfl) (pe_dget hu (pv 0) (pe_ix (r := rIxT K) ix_tup (pv 3) pe_int (fun _ _ => rfl)) (fun _ _ => rfl))))))
      (pss_one (ps_ret (pe_callTy (r := rTu K) call_tuple_of (by rfl) T.tuple PyProof.Rows.boot_tuple (pa_cons (pe_revL (pv 2)) pa_nil)))))), ?_⟩
    refine ⟨Nat.zero_le _, fun l hl => ?_⟩
    have s1 := same_upd (o := .lst []) hl
    have el1 : upd H l (.lst []) l = some (.lst []) := upd_same
    generalize upd H l (.lst []) = H1 at s1 el1 ⊢
    obtain ⟨v0, ev0, hv0⟩ := hE.at hnd hu'
    refine ⟨_, rfl, _, rfl, fo, v0, rfl, by rw [← ev0]; exact DGet.tR (hfo.same s1) (by rw [keyI_kV]; exact s1 _ _ hq), ?_⟩
    refine while_ix (fun m σ H' => ∃ (u1 u2 : List Nat) (v : V), u1.length = m ∧ u = u1 ++ u2 ∧ u1 ∈ M ∧ EVal r ws H v u1 ∧ Same H H' ∧ H' l = some (.lst (names ws u2.reverse)) ∧ σ = [some (.ref fo), some (.ref q), some (.ref l), some v]) u.length ?_ ?_ ?_
    · exact ⟨u, [], v0, rfl, (List.append_nil u).symm, hu', hv0, s1, el1, rfl⟩
    · rintro m σ H2 ⟨u1, u2, v, rfl, eu, hm1, hv, s2, el2, rfl⟩
      refine ⟨_, rfl, rfl, _, rfl, ?_⟩
      rcases hv with ⟨rfl, rfl⟩ | ⟨u', j, t, q', rfl, rfl, ht, hq'⟩
      · refine iteF ?_
        refine ⟨_, rfl, l, _, rfl, SqL.of el2, fun p1 hp1 => ?_⟩
        have e3 : upd H2 p1 (.lst (names ws u2.reverse).reverse) p1 = some (.lst (names ws u2.reverse).reverse) := upd_same
        have s3 := s2.trans (same_upd (o := .lst (names ws u2.reverse).reverse) hp1)
        generalize upd H2 p1 (.lst (names ws u2.reverse).reverse) = H3 at e3 s3 ⊢
        refine ⟨p1, _, rfl, .inl ⟨SqL.of e3, fun p2 hp2 => ?_⟩⟩
        refine k p2 _ (s3.free hp2) (s3.trans (same_upd hp2)) ?_
        rw [upd_same, eu, names, names, List.map_reverse, List.reverse_reverse]; rfl
      · refine iteT ?_
        have hll : (names ws u2.reverse).length < sizeLine := by
          have h1 := congrArg List.length eu
          rw [List.length_append, List.length_append] at h1
          rw [names, List.length_map, List.length_reverse, sizeLine_eq]; omega
        refine ⟨_, rfl, .inl ⟨rfl, _, SqL.of el2⟩, _, rfl, t, _, _, _, rfl, rfl, SqT.of (s2 _ _ ht), atI_nat (j := 1) rfl, l, _, _, rfl, rfl, el2, hll, ?_⟩
        have s3 : Same H (upd H2 l (.lst (names ws u2.reverse ++ [V.str (ws.getD j "")]))) := fun b o e => by rw [upd_ne (ne_of_none e hl)]; exact s2 _ _ e
        have el3 : upd H2 l (.lst (names ws u2.reverse ++ [V.str (ws.getD j "")])) l = some (.lst (names ws (j :: u2).reverse)) := by
          rw [upd_same, names, names, List.reverse_cons, List.map_append]; rfl
        generalize upd H2 l (.lst (names ws u2.reverse ++ [V.str (ws.getD j "")])) = H3 at s3 el3 ⊢
        have hm' := hpre u' j hm1
        obtain ⟨v', ev', hv'⟩ := hE.at hnd hm'
        refine ⟨_, rfl, _, rfl, t, _, _, _, rfl, rfl, SqT.of (s3 _ _ ht), atI_nat (j := 0) rfl, fo, v', rfl, by rw [← ev']; exact DGet.tR (hfo.same s3) (by rw [keyI_kV]; exact s3 _ _ hq'), ?_⟩
        exact ⟨u'.length, by rw [List.length_append]; exact Nat.lt_succ_self _, u', j :: u2, v', rfl, by rw [eu, List.append_assoc]; rfl, hm', hv', s3, el3, rfl⟩
    · rintro σ H Q Q' hQ ⟨v, e, h1, c, h2, h3⟩
      exact ⟨v, e, h1, c, h2, hQ _ _ h3⟩
abbrev nRe : List Str := ["self", "found", "states"]
theorem scRe : FnScope nRe ["self"] (defScope sMReach) := ⟨rfl, rfl, rfl, by decide +kernel, rfl, by decide +kernel, by decide +kernel⟩
theorem ok_reach {C f fS fN fR : Addr} {fd fdS fdN fdR : FuncData} {ds : List Value} (F : Fun K "reached" "Machine.reached" sMReach f fd) (M : Tm K mg C) (T : Bt2 mg) (hz : mg "zip" = none) (FS : FunD K "first_steps" "first_steps" (defArgs sFS) (defBody sFS) (defScope sFS) [.non] [] fS fdS) (gS : mg "first_steps" = some (.ref fS)) (bS : Binds K fdS pFS ds) (vS : Vals [.non] ds)
    (DN : Df K mg "next_layer" sNL pNL fN fdN) (DR : Df K mg "row_to" sRT pRT fR fdR) : FnOk P w K mg base CX0 3 f fd ["self"] (spReach K C) := by
  have GS : FnOk P w K mg base CX0 2 fS fdS pFS (spFS K) := ok_fs FS DN T hz
  have GR : FnOk P w K mg base CX0 1 fR fdR pRT (spRTR K) := ok_rtR DR T
  refine F.ok scRe (fun vs H Q E h => ?_) (fun cdv A outer s H vs Q E hr h => ?_)
  · obtain ⟨x, ws, rs, ss, st, rfl, _⟩ := h
    rfl
  · obtain ⟨x, ws, rs, ss, st, rfl, mx, px, k⟩ := h
    have hr1 : Room 1 _ := hr.mono (by decide)
    refine ⟨_, pss_cons (ps_set (i := 1) scRe.nd rfl (Or.inr rfl) (pe_call GS hr rfl gS FS.kp bS vS pass0 (pa_cons (pe_fld (pv 0) rfl) (pa_cons (pe_tup (pa_cons (pe_fld (pv 0) rfl) pa_nil)) (pa_cons (pe_tup (pa_cons (pe_fld (pv 0) rfl) pa_nil)) pa_nil)))))
      (pss_one (ps_ret (pe_lock (pe_lc (own := [("states", 2)]) (g := gName 2) (by rfl) scRe.nd (pi_keys (pv 1))
          (blkOk_by (own := [("states", 2)]) (N := nRe) (sc := defScope sMReach) (by decide +kernel)) (fun _ _ _ _ _ => pg_name (i := 2) scRe.nd rfl (Or.inl rfl)) (fun _ _ _ _ _ => pts_nil)
          (fun _ _ _ _ _ => pe_tup (pa_cons (pe_ix (r := rIxT K) ix_tup (pv 2) pe_int (fun _ _ => rfl)) (pa_cons (pe_call GR hr1 rfl DR.g DR.F.kp DR.b .nil pass0 (pa_cons (pv 1) (pa_cons (pv 2) pa_nil))) pa_nil))))))), ?_⟩
    obtain ⟨dx, tx, rx, lx, asx, gx1, gx2, gx3, gx4, gx5⟩ := id mx
    have w6 := px.gd.len.2
    have h60 := px.many.2
    have hs0 : StOk [rs] [st] := ⟨rfl, fun i t v e1 e2 => by
      match i, e1, e2 with
      | 0, e1, e2 => cases e1; cases e2; exact px.st
      | _ + 1, e1, _ => simp at e1⟩
    have htab : ∀ t ∈ [rs], TabOk ws.length t := fun t ht => by rw [List.mem_singleton.mp ht]; exact px.tab
    have hpn : prodN [rs] ≤ 3600 := by
      show rs.length * 1 ≤ 3600
      omega
    refine ⟨_, rfl, x, C, dx, _, _, rfl, gx1, M.cl, M.nD, mf_deeds _ _ _ _, _, rfl, x, C, dx, _, _, rfl, gx1, M.cl, M.nR, mf_rows _ _ _ _, Nat.le_of_ble_eq_true rfl, fun t1 ht1 => ?_⟩
    have s1 := same_upd (o := .tup [V.ref rx]) ht1
    have e1 : upd H t1 (.tup [V.ref rx]) t1 = some (.tup ([rx].map V.ref)) := upd_same
    generalize upd H t1 (.tup [V.ref rx]) = H1 at s1 e1 ⊢
    refine ⟨_, rfl, x, C, dx, _, _, rfl, s1 _ _ gx1, M.cl, M.nS, mf_start _ _ _ _, Nat.le_of_ble_eq_true rfl, fun t2 ht2 => ?_⟩
    have s2 := same_upd (o := .tup [V.int st]) ht2
    have e2 : upd H1 t2 (.tup [V.int st]) t2 = some (.tup ([st].map V.int)) := upd_same
    generalize upd H1 t2 (.tup [V.int st]) = H2 at s2 e2 ⊢
    have s12 := s1.trans s2
    refine ⟨tx, t1, t2, .non, none, ws, [rs], [st], rfl, .inl ⟨rfl, rfl⟩, (gx2.same s12).sq, ⟨[rx], SqT.of (s2 _ _ e1), rfl, fun i a' t' f1 f2 => ?_⟩, e2, htab, hs0, w6, hpn, by simp, fun fo H3 n M0 B eb hB hfo s3 dfo => ?_⟩
    · match i, f1, f2 with
      | 0, f1, f2 => cases f1; cases f2; exact ⟨asx, s12 _ _ gx3, gx4.1, fun j b' q' g1 g2 => s12 _ _ (gx4.2 j b' q' g1 g2)⟩
      | _ + 1, f1, _ => simp at f1
    have hB0 : B = [] := by
      rcases hB with h | ⟨m, h, _⟩
      · exact h
      · cases h
    subst hB0
    rw [List.append_nil] at eb dfo
    have I : BfsI (runT [rs] [st]) ws.length n M0 [] := by
      have := bfs_ok (runT_c [rs] [st]) ws.length n
      rw [eb] at this
      exact this
    have hml : M0.length ≤ prodN [rs] := met_len hs0 htab I.nd I.lt
    have hrun : ∀ u, (∀ k ∈ u, k < ws.length) → StOk [rs] (runT [rs] [st] u) := fun u => hs0.run htab u
    generalize hR : runT [rs] [st] = r at *
    obtain ⟨kv, hfo3, hE⟩ := id dfo
    have s03 := s12.trans s3
    refine ⟨fo, .dT kv, hfo3, trivial, fun od => ?_⟩
    have ef : upd H3 fo (.frz od (.dT kv)) fo = some (.frz od (.dT kv)) := upd_same
    have kf : KeepT H3 (upd H3 fo (.frz od (.dT kv))) := KeepT.updT hfo3
    have kx : ∀ b o, b ≠ fo → H3 b = some o → upd H3 fo (.frz od (.dT kv)) b = some o := fun b o nb e => by rw [upd_ne nb]; exact e
    generalize upd H3 fo (.frz od (.dT kv)) = Hf at ef kf kx ⊢
    have hEf := hE.keep kf
    refine ⟨_, rfl, fo, od, rfl, .inr ⟨kv, ef, fun D hD => ?_⟩⟩
    refine lc_it (walk_keysT (d := fo) (o := od) (kvs := kv)) (fun i H' => Same Hf H' ∧ ∃ ts : List Addr, H' D = some (.lst (ts.map V.ref)) ∧ ts.length = i ∧ ∀ (j : Nat) (t : Addr) (u : List Nat), ts[j]? = some t → M0[j]? = some u → t ≠ D ∧ ∃ q, q ≠ D ∧ H' t = some (.tup [.int ((r u).getD 0 0), .ref q]) ∧ H' q = some (.tup (names ws u))) ?_ ?_ ?_ ?_
    · exact ⟨same_upd hD, [], upd_same, rfl, fun j t u e => by simp at e⟩
    · exact fun i H' _ p => p.1 _ _ ef
    · rintro i y H4 H5 hi ⟨sm, ts, hD4, hts, hj⟩ ⟨rfl, key, v, q, hkv, rfl, hq⟩
      have hiM : i < M0.length := by rw [← hE.1]; exact hi
      have eu : M0[i]? = some M0[i] := List.getElem?_eq_getElem hiM
      have hmem := List.getElem_mem hiM
      generalize M0[i] = u at eu hmem
      obtain ⟨rfl, hev⟩ := hEf.2 i _ _ _ hkv eu
      rw [keyI_kV] at hq
      obtain ⟨cc, ece⟩ : ∃ cc, r u = [cc] := by
        have := (hrun u (I.lt u hmem)).1
        match hru : r u, this with
        | [cc], _ => exact ⟨cc, rfl⟩
      have hlu := pre_len I.pre hmem
      refine ⟨rfl, _, rfl, q, _, 0, _, rfl, rfl, SqT.of hq, atI_nat (j := 0) (v := V.int ((r u).getD 0 0)) (by rw [ece]; rfl), _, rfl, _, rfl, fo, q, r, ws, M0, u, rfl, ⟨kv, .inr ⟨od, sm _ _ ef⟩, hEf.keep (.of sm)⟩, I.nd, I.pre, hmem, hq, by omega, fun p H6 hp s6 e6 => ?_⟩
      refine ⟨Nat.le_of_ble_eq_true rfl, fun t ht => ?_⟩
      have s7 := s6.trans (same_upd (o := .tup [V.int ((r u).getD 0 0), V.ref p]) ht)
      have et : upd H6 t (.tup [V.int ((r u).getD 0 0), V.ref p]) t = some (.tup [V.int ((r u).getD 0 0), V.ref p]) := upd_same
      have ep := (same_upd (o := .tup [V.int ((r u).getD 0 0), V.ref p]) ht) _ _ e6
      have nDp : p ≠ D := (ne_of_none hD4 hp).symm
      have nDt : t ≠ D := (ne_of_none (s6 _ _ hD4) ht).symm
      generalize upd H6 t (.tup [V.int ((r u).getD 0 0), V.ref p]) = H7 at s7 et ep ⊢
      refine ⟨_, s7 _ _ hD4, ?_, fun b o e => by rw [upd_ne (ne_of_none e hD)]; exact s7 _ _ (sm _ _ e), ts ++ [t], by rw [upd_same]; simp, by simp [hts], fun j t' u' f1 f2 => ?_⟩
      · rw [List.length_map, hts, sizeLine_eq]; omega
      · by_cases hjl : j < ts.length
        · rw [List.getElem?_append_left hjl] at f1
          obtain ⟨n1, q', n2, g1, g2⟩ := hj j t' u' f1 f2
          exact ⟨n1, q', n2, by rw [upd_ne n1]; exact s7 _ _ g1, by rw [upd_ne n2]; exact s7 _ _ g2⟩
        · rw [List.getElem?_append_right (by omega)] at f1
          cases hjz : j - ts.length with
          | zero =>
            rw [hjz] at f1
            simp at f1
            subst f1
            have ej : j = i := by omega
            rw [ej, eu] at f2
            cases f2
            exact ⟨nDt, p, nDp, by rw [upd_ne nDt]; exact et, by rw [upd_ne nDp]; exact ep⟩
          | succ z => rw [hjz] at f1; simp at f1
    · rintro H4 ⟨sm, ts, hD4, hts, hj⟩
      have ef4 := sm _ _ ef
      have nDf : D ≠ fo := (ne_of_none ef hD).symm
      refine ⟨ef4, k D _ n M0 eb ?_ (fun b o e => ?_) ⟨ts, by rw [upd_ne nDf]; exact hD4, by rw [hts, hE.1], fun j t u f1 f2 => ?_⟩⟩
      · refine s12.free (s3.free ?_)
        cases hz : H3 D with
        | none => rfl
        | some z => rw [kx D z nDf hz] at hD; cases hD
      · have nb : b ≠ fo := ne_of_none (s12 _ _ e) hfo
        rw [upd_ne nb]
        exact sm _ _ (kx _ _ nb (s03 _ _ e))
      · obtain ⟨n1, q, n2, g1, g2⟩ := hj j t u f1 f2
        exact ⟨q, by rw [upd_ne (ne_of g1 ef4 (by intro z; cases z))]; exact g1, by rw [upd_ne (ne_of g2 ef4 (by intro z; cases z))]; exact g2⟩
end
end K1
set_option Elab.async false
set_option linter.all false
set_option maxRecDepth 100000
/-! dicts whose keys are nested tuples: new, in, [], [] =, len -/
namespace L2
open PySem PySem.Spec PyProof.Rows
mutual
/-- the value v is the key, as the tracked tuples stand -/
inductive NkV (H : Hp) : NestedKey → V → Prop
  | int (i : Int) : NkV H (.num i) (.int i)
  | str (z : Str) : NkV H (.text z) (.str z)
  | tup {b : Addr} {xs : List V} {ks : List NestedKey} : H b = some (.tup xs) → NkAll H ks xs → NkV H (.tup ks) (.ref b)
inductive NkAll (H : Hp) : List NestedKey → List V → Prop
  | nil : NkAll H [] []
  | cons {k : NestedKey} {v : V} {ks : List NestedKey} {vs : List V} : NkV H k v → NkAll H ks vs → NkAll H (k :: ks) (v :: vs)
end
mutual
theorem NkV.is {P : Program} {w : World} {H : Hp} {h : Heap} (ok : HOk P w H h) : ∀ (k : NestedKey) (v : V) (u : Value), NkV H k v → RelV v u → NestedIs h k u
  | .none, _, _, hk, _ => by cases hk
  | .num i, _, _, hk, r => by
    cases hk
    obtain ⟨t, rfl⟩ := r
    exact .int i t
  | .text z, _, _, hk, r => by
    cases hk
    obtain ⟨t, rfl⟩ := r
    exact .text z t
  | .tup ks, _, u, hk, r => by
    cases hk with
    | @tup b xs _ e a =>
      cases (show u = Value.ref b from r)
      obtain ⟨_, its, rv, o, h1, h2, n, h3⟩ := (show ObjOk P w H h b (.tup xs) from ok b _ e)
      exact .tup h1 h2 h3 (by simpa using NkAll.is ok ks xs its a rv)
theorem NkAll.is {P : Program} {w : World} {H : Hp} {h : Heap} (ok : HOk P w H h) : ∀ (ks : List NestedKey) (vs : List V) (us : List Value), NkAll H ks vs → Vals vs us → NestedAll h ks us
  | [], _, _, hk, r => by cases hk; cases r; exact .nil
  | k :: ks, _, _, hk, r => by
    cases hk with
    | cons x y =>
      cases r with
      | cons a b => exact .cons (NkV.is ok k _ _ x a) (NkAll.is ok ks _ _ y b)
end
mutual
theorem NkV.keep {H H' : Hp} (k0 : ∀ a xs, H a = some (.tup xs) → H' a = some (.tup xs)) : ∀ (k : NestedKey) (v : V), NkV H k v → NkV H' k v
  | .none, _, hk => by cases hk
  | .num i, _, hk => by cases hk; exact .int i
  | .text z, _, hk => by cases hk; exact .str z
  | .tup ks, _, hk => by
    cases hk with
    | tup e a => exact .tup (k0 _ _ e) (NkAll.keep k0 ks _ a)
theorem NkAll.keep {H H' : Hp} (k0 : ∀ a xs, H a = some (.tup xs) → H' a = some (.tup xs)) : ∀ (ks : List NestedKey) (vs : List V), NkAll H ks vs → NkAll H' ks vs
  | [], _, hk => by cases hk; exact .nil
  | k :: ks, _, hk => by
    cases hk with
    | cons x y => exact .cons (NkV.keep k0 k _ x) (NkAll.keep k0 ks _ y)
end
abbrev NdL := List (NestedKey × Addr × V)
def NdR (p : NestedKey × Addr × V) (q : NestedKey × Addr × Value) : Prop := p.1 = q.1 ∧ p.2.1 = q.2.1 ∧ RelV p.2.2 q.2.2
/-- the dict's own object -/
def ndO (P : Program) (w : World) (a : Addr) (ys : NdL) : HO := .ext fun h => (a == sysModules) = false ∧ ∃ (o : Obj) (es : Array DictEntry) (ep : Nat) (xs : List (NestedKey × Addr × Value)), h.get? a = some o ∧ o.ExactDict ∧ o.data = .dict es ep ∧ es.toList = xs.map (entryOfKey (nestedKind P w)) ∧ Paired NdR ys xs
structure ND (P : Program) (w : World) (H : Hp) (a : Addr) (ys : NdL) : Prop where
  at_ : H a = some (ndO P w a ys)
  ks : ∀ y ∈ ys, NkV H y.1 (.ref y.2.1) ∧ y.1.depth ≤ 8
  nd : (ys.map (·.1)).Nodup
  sz : ys.length ≤ sizeLine
theorem ND.same {P : Program} {w : World} {H H' : Hp} {a : Addr} {ys : NdL} (n : ND P w H a ys) (s : Same H H') : ND P w H' a ys := ⟨s _ _ n.at_, fun y hy => ⟨NkV.keep (fun b xs e => s _ _ e) _ _ (n.ks y hy).1, (n.ks y hy).2⟩, n.nd, n.sz⟩
/-- what stands at a key -/
def valN (ys : NdL) (k : NestedKey) : Option V := (ys.find? fun y => decide (y.1 = k)).map (·.2.2)
theorem paired_snoc {ys : NdL} {xs : List (NestedKey × Addr × Value)} {y : NestedKey × Addr × V} {x : NestedKey × Addr × Value} (r : Paired NdR ys xs) (h : NdR y x) : Paired NdR (ys ++ [y]) (xs ++ [x]) := by
  induction r with
  | nil => exact .cons h .nil
  | cons a _ ih => exact .cons a ih
theorem paired_keys {ys : NdL} {xs : List (NestedKey × Addr × Value)} (r : Paired NdR ys xs) : ys.map (·.1) = xs.map (·.1) := by
  induction r with
  | nil => rfl
  | cons x _ ih => rw [List.map_cons, List.map_cons, x.1, ih]
theorem paired_val {ys : NdL} {xs : List (NestedKey × Addr × Value)} (r : Paired NdR ys xs) (k : NestedKey) : (valN ys k = none ∧ atKey xs k = none) ∨ ∃ v p, valN ys k = some v ∧ atKey xs k = some p ∧ RelV v p.2 := by
  induction r with
  | nil => exact .inl ⟨rfl, rfl⟩
  | @cons y x _ _ h _ ih =>
    by_cases e : y.1 = k
    · refine .inr ⟨y.2.2, x.2, ?_, ?_, h.2.2⟩
      · unfold valN; rw [List.find?_cons, decide_eq_true e]; rfl
      · unfold atKey; rw [List.find?_cons, decide_eq_true (h.1 ▸ e)]; rfl
    · have e1 : ∀ l, valN (y :: l) k = valN l k := fun l => by unfold valN; rw [List.find?_cons, decide_eq_false e]
      have e2 : ∀ l, atKey (x :: l) k = atKey l k := fun l => by unfold atKey; rw [List.find?_cons, decide_eq_false (fun z => e (h.1.trans z))]
      rw [e1, e2]
      exact ih
theorem keys_is {P : Program} {w : World} {H : Hp} {h : Heap} (ok : HOk P w H h) {ys : NdL} {xs : List (NestedKey × Addr × Value)} (r : Paired NdR ys xs) (ks : ∀ y ∈ ys, NkV H y.1 (.ref y.2.1) ∧ y.1.depth ≤ 8) : ∀ x ∈ xs, (nestedKind P w).is h x.1 x.2.1 := by
  induction r with
  | nil => exact fun x hx => nomatch hx
  | @cons y x _ _ hr _ ih =>
    intro x' hx'
    rcases List.mem_cons.mp hx' with e | hx'
    · subst e
      obtain ⟨k1, k2⟩ := ks y (List.mem_cons_self ..)
      exact ⟨by rw [← hr.1, ← hr.2.1]; exact NkV.is ok _ _ _ k1 rfl, by rw [← hr.1]; exact k2⟩
    · exact ih (fun y' hy' => ks y' (List.mem_cons_of_mem _ hy')) x' hx'
theorem ND.of {P : Program} {w : World} {H : Hp} {h : Heap} {a : Addr} {ys : NdL} (ok : HOk P w H h) (n : ND P w H a ys) : (a == sysModules) = false ∧ ∃ xs, Paired NdR ys xs ∧ h.DictOfH (nestedKind P w) a xs := by
  obtain ⟨⟨hs, o, es, ep, xs, h1, h2, h3, h4, h5⟩, _, _⟩ := (show ObjOk P w H h a (ndO P w a ys) from ok a _ n.at_)
  exact ⟨hs, xs, h5, o, es, ep, h1, h2, h3, h4, keys_is ok h5 n.ks, by rw [← paired_keys h5]; exact n.nd⟩
theorem ndO_ok {P : Program} {w : World} {H : Hp} {h : Heap} {a : Addr} {ys : NdL} {o : Obj} {es : Array DictEntry} {ep : Nat} {xs : List (NestedKey × Addr × Value)} (hs : (a == sysModules) = false) (h1 : h.get? a = some o) (h2 : o.ExactDict) (h3 : o.data = .dict es ep) (h4 : es.toList = xs.map (entryOfKey (nestedKind P w))) (h5 : Paired NdR ys xs) :
    ObjOk P w H h a (ndO P w a ys) := ⟨⟨hs, o, es, ep, xs, h1, h2, h3, h4, h5⟩, ⟨o, h1⟩, fun g1 g2 ⟨q, o', es', ep', xs', q1, q2⟩ k => ⟨q, o', es', ep', xs', k _ q1, q2⟩⟩
theorem nested_room {P : Program} {w : World} {A : Around} (hu : A.units + 9 < cLine) : (nestedKind P w).room A.in1 := hu
theorem ND.put {P : Program} {w : World} {H : Hp} {a b : Addr} {ys : NdL} {k : NestedKey} {v : V} (n : ND P w H a ys) (kv : NkV H k (.ref b)) (hd : k.depth ≤ 8) (hn : valN ys k = none) (hl : ys.length < sizeLine) : ND P w (upd H a (ndO P w a (ys ++ [(k, b, v)]))) a (ys ++ [(k, b, v)]) := by
  have kt : ∀ c xs, H c = some (.tup xs) → upd H a (ndO P w a (ys ++ [(k, b, v)])) c = some (.tup xs) := fun c xs e => by rw [upd_ne (ne_of e n.at_ (by intro z; cases z))]; exact e
  refine ⟨upd_same, fun y hy => ?_, ?_, by rw [List.length_append]; exact hl⟩
  · rcases List.mem_append.mp hy with h | h
    · exact ⟨NkV.keep kt _ _ (n.ks y h).1, (n.ks y h).2⟩
    · rw [List.mem_singleton.mp h]; exact ⟨NkV.keep kt _ _ kv, hd⟩
  · rw [List.map_append]
    refine List.nodup_append.mpr ⟨n.nd, by simp, fun x hx y hy e => ?_⟩
    rw [List.map_singleton, List.mem_singleton] at hy
    obtain ⟨z, hz, rfl⟩ := List.mem_map.mp hx
    have h1 : (ys.find? fun y => decide (y.1 = k)) = none := by
      unfold valN at hn
      cases hf : ys.find? fun y => decide (y.1 = k) with
      | none => rfl
      | some q => rw [hf] at hn; cases hn
    have := List.find?_eq_none.mp h1 z hz
    exact this (decide_eq_true (e.trans hy))
section
variable {X : Cx} {pins : List (Addr × Obj)} {σ : St} {H : Hp} {s : Shared} {a b : Addr} {ys : NdL} {k : NestedKey} {v : V} {r : Value} {A : Around} {E : Value → Shared → Prop}
theorem d_getN {Q : Value → Shared → Prop} (hu : A.units + 9 < cLine) (I : Inv X pins σ H s) (n : ND X.prog X.w H a ys) (kv : NkV H k (.ref b)) (hd : k.depth ≤ 8) (hv : valN ys k = some v) (h : ∀ w' s', Inv X pins σ H s' → RelV v w' → Q w' s') :
    wpAny (model X.prog X.w) A (getItem (.ref a) (.ref b)) Q E s := by
  obtain ⟨hs, xs, rel, dd⟩ := n.of I.hok
  rcases paired_val rel k with ⟨h1, _⟩ | ⟨v', p, h1, h2, h3⟩
  · rw [hv] at h1; cases h1
  · rw [hv] at h1; cases h1
    exact wpAny_getItem_heap (nested_room hu) ⟨NkV.is I.hok _ _ _ kv rfl, hd⟩ dd h2 (h _ _ (I.tok _) h3)
theorem d_notInN {Q : Value → Shared → Prop} (hu : A.units + 9 < cLine) (I : Inv X pins σ H s) (n : ND X.prog X.w H a ys) (kv : NkV H k (.ref b)) (hd : k.depth ≤ 8) (h : ∀ s', Inv X pins σ H s' → Q (.bool (!(valN ys k).isSome)) s') :
    wpAny (model X.prog X.w) A (compareOp .NotIn (.ref b) (.ref a)) Q E s := by
  obtain ⟨hs, xs, rel, dd⟩ := n.of I.hok
  refine wpAny_notIn_heap (nested_room hu) ⟨NkV.is I.hok _ _ _ kv rfl, hd⟩ hs dd ?_
  rcases paired_val rel k with ⟨h1, h2⟩ | ⟨v', p, h1, h2, h3⟩
  · rw [h2]; rw [h1] at h; exact h _ (I.tok _)
  · rw [h2]; rw [h1] at h; exact h _ (I.tok _)
theorem d_setN {Q : Unit → Shared → Prop} (hu : A.units + 9 < cLine) (I : Inv X pins σ H s) (n : ND X.prog X.w H a ys) (kv : NkV H k (.ref b)) (hd : k.depth ≤ 8) (hn : valN ys k = none) (hl : ys.length < sizeLine) (rv : RelV v r)
    (h : ∀ s', Inv X pins σ (upd H a (ndO X.prog X.w a (ys ++ [(k, b, v)]))) s' → Q () s') : wpAny (model X.prog X.w) A (setItem (.ref a) (.ref b) r) Q E s := by
  obtain ⟨hs, xs, rel, dd⟩ := n.of I.hok
  have hxl : xs.length = ys.length := (Paired.length rel).symm
  have hno : atKey xs k = none := by
    rcases paired_val rel k with ⟨_, h2⟩ | ⟨v', p, h1, _, _⟩
    · exact h2
    · rw [hn] at h1; cases h1
  refine wpAny_setItem_heap (hsz := by rw [hxl]; exact Nat.le_of_lt hl) (nested_room hu) ⟨NkV.is I.hok _ _ _ kv rfl, hd⟩ dd fun h' dd' hsb => h _ ?_
  rw [storedH_new hno] at dd'
  obtain ⟨o, es, ep, g1, g2, g3, g4, _⟩ := dd'
  refine d_write I (by rw [n.at_]; exact True.intro) hsb ⟨o, g1⟩ (ndO_ok hs g1 g2 g3 g4 ?_)
  exact paired_snoc rel ⟨rfl, rfl, rv⟩
end
/-! the readings -/
def tDGetN (P : Program) (w : World) (td ty : TE) : TE := fun σ H Q => td σ H fun x H1 => ty σ H1 fun y H2 => ∃ a b ys k v, x = .ref a ∧ y = .ref b ∧ ND P w H2 a ys ∧ NkV H2 k (.ref b) ∧ k.depth ≤ 8 ∧ valN ys k = some v ∧ Q v H2
def tDNotInN (P : Program) (w : World) (ty td : TE) : TE := fun σ H Q => ty σ H fun y H1 => td σ H1 fun x H2 => ∃ a b ys k, x = .ref a ∧ y = .ref b ∧ ND P w H2 a ys ∧ NkV H2 k (.ref b) ∧ k.depth ≤ 8 ∧ Q (.bl (!(valN ys k).isSome)) H2
def sDPutN (P : Program) (w : World) (td ty tv : TE) : TS := fun D σ H => tv σ H fun v H1 => td σ H1 fun x H2 => ty σ H2 fun y H3 => ∃ a b ys k, x = .ref a ∧ y = .ref b ∧ ND P w H3 a ys ∧ NkV H3 k (.ref b) ∧ k.depth ≤ 8 ∧ valN ys k = none ∧ ys.length < sizeLine ∧ D.nx σ (upd H3 a (ndO P w a (ys ++ [(k, b, v)])))
def tDNewN (P : Program) (w : World) : TE := fun _ H Q => ∀ p, H p = none → ND P w (upd H p (ndO P w p [])) p [] → Q (.ref p) (upd H p (ndO P w p []))
def rLenN (P : Program) (w : World) : List V → Hp → VK → Prop := fun xs H Q => ∃ (p : Addr) (ys : NdL), xs = [.ref p] ∧ ND P w H p ys ∧ Q (.int ((ys.length : Nat) : Int)) H
section
variable {X : Cx} {o i e value : Expr} {pos pos' tpos : Pos} {td ty tv : TE}
theorem pe_dgetN (hu : X.A.units + 9 < cLine) (ho : PE X o td) (hi : PE X i ty) (hs : NoSl i) : PE X (.Subscript o i pos) (tDGetN X.prog X.w td ty) := by
  refine ⟨fun pins s σ H Q I h => ?_⟩
  refine subD_of PySem.F.slot_dict_getitem.lookup hs (thn (ho.run pins s σ H _ I h) fun u s1 ⟨x, H1, I1, rx, q1⟩ => thn (hi.run pins s1 σ H1 _ I1 q1) fun iv s2 ⟨y, H2, I2, ry, a, b, ys, k, v, ex, ey, n, kv, hd, hv, q2⟩ => ?_)
  subst ex ey
  obtain rfl : u = Value.ref a := rx
  obtain rfl : iv = Value.ref b := ry
  obtain ⟨_, xs, _, dd⟩ := n.of I2.hok
  exact ⟨dd.typeIs, d_getN hu I2 n kv hd hv fun w' s3 I3 rw' => ⟨v, H2, I3, rw', q2⟩⟩
theorem pc_dnotinN (hu : X.A.units + 9 < cLine) (hi : PE X i ty) (ho : PE X o td) : PC X .NotIn i o (tDNotInN X.prog X.w ty td) := by
  refine ⟨fun pins s σ H Q I h => ?_⟩
  refine thn (hi.run pins s σ H _ I h) fun iv s1 ⟨y, H1, I1, ry, q1⟩ => thn (ho.run pins s1 σ H1 _ I1 q1) fun u s2 ⟨x, H2, I2, rx, a, b, ys, k, ex, ey, n, kv, hd, q2⟩ => ?_
  subst ex ey
  obtain rfl : u = Value.ref a := rx
  obtain rfl : iv = Value.ref b := ry
  exact d_notInN hu I2 n kv hd fun s3 I3 => ⟨.bl _, H2, I3, rfl, q2⟩
theorem ps_dputN (hu : X.A.units + 9 < cLine) (ho : PE X o td) (hi : PE X i ty) (hv : PE X value tv) (hs : swapsWith value (some (.Subscript o i pos')) pos.line X.env = pure false) :
    PS X (.Assign [.Subscript o i pos'] value pos) (sDPutN X.prog X.w td ty tv) := by
  refine ⟨fun pins s σ H D I h => ?_⟩
  refine wpAny_Assign_Subscript (thn (hv.run pins s σ H _ I h) fun r s1 ⟨v, H1, I1, rv, q1⟩ => thn (ho.run pins s1 σ H1 _ I1 q1) fun u s2 ⟨x, H2, I2, rx, q2⟩ => thn (hi.run pins s2 σ H2 _ I2 q2) fun iv s3 ⟨y, H3, I3, ry, a, b, ys, k, ex, ey, n, kv, hd, hn, hl, q3⟩ => ?_) hs
  subst ex ey
  obtain rfl : u = Value.ref a := rx
  obtain rfl : iv = Value.ref b := ry
  exact d_setN hu I3 n kv hd hn hl rv fun s4 I4 => ⟨σ, _, I4, q3⟩
theorem pe_dnewN : PE X (.Dict [] [] pos) (tDNewN X.prog X.w) := ⟨fun pins s σ H Q I h => by
  have hs : (s.heap.objs.size == sysModules) = false := beq_eq_false_iff_ne.mpr (Ne.symm (Nat.ne_of_lt I.big))
  refine wpAny_Dict_empty ⟨.ref s.heap.objs.size, _, I.laid (a := s.heap.objs.size) (o := ndO X.prog X.w s.heap.objs.size []) (t' := s.toks) (fun _ _ q => Heap.get?_push_of_some _ q) (Nat.le_refl _) ?_, rfl, h _ (I.hok.fresh (Nat.le_refl _)) ⟨upd_same, fun y hy => (nomatch hy), List.nodup_nil, Nat.zero_le _⟩⟩
  exact ndO_ok (xs := []) hs (Heap.get?_push_size _ rfl) ⟨rfl, rfl, rfl⟩ rfl rfl .nil⟩
theorem call_len_dN : CallR X (.builtin "len") (rLenN X.prog X.w) := by
  intro pins s σ H xs us Q I r h
  obtain ⟨p, ys, rfl, n, q⟩ := h
  obtain ⟨u, rfl, rx⟩ := vals1 r
  obtain rfl : u = .ref p := rx
  obtain ⟨hs, xs, rel, dd⟩ := n.of I.hok
  have hl : ys.length = xs.length := Paired.length rel
  have z := n.sz
  refine call_len_dictH hs dd (by rw [← hl]; rw [sizeLine_eq] at z; omega) ?_
  rw [← hl]
  exact ⟨.int ((ys.length : Nat) : Int), H, I.tok _, ⟨_, rfl⟩, q⟩
end
end L2
set_option Elab.async false
set_option linter.all false
set_option maxRecDepth 100000
/-! numbering by first occurrence: the mathematics -/
namespace K1
open PySem L2
section
variable {α β : Type} [DecidableEq α] [DecidableEq β]
def uq (acc l : List α) : List α := l.foldl (fun acc x => if x ∈ acc then acc else acc ++ [x]) acc
def num (l : List α) : List Nat := l.map fun x => (uq [] l).idxOf x
theorem uq_nil (acc : List α) : uq acc [] = acc := rfl
theorem uq_cons (acc : List α) (x : α) (l : List α) : uq acc (x :: l) = uq (if x ∈ acc then acc else acc ++ [x]) l := rfl
theorem uq_snoc (l : List α) (x : α) : uq [] (l ++ [x]) = if x ∈ uq [] l then uq [] l else uq [] l ++ [x] := by
  unfold uq; rw [List.foldl_append]; rfl
theorem uq_mem : ∀ (l acc : List α) (x : α), x ∈ uq acc l ↔ x ∈ acc ∨ x ∈ l
  | [], acc, x => by rw [uq_nil]; simp
  | a :: l, acc, x => by
    rw [uq_cons, uq_mem l]
    by_cases h : a ∈ acc
    · rw [if_pos h]
      constructor
      · rintro (h1 | h1)
        · exact .inl h1
        · exact .inr (List.mem_cons_of_mem _ h1)
      · rintro (h1 | h1)
        · exact .inl h1
        · rcases List.mem_cons.mp h1 with rfl | h1
          · exact .inl h
          · exact .inr h1
    · rw [if_neg h]
      simp only [List.mem_append, List.mem_cons, List.not_mem_nil, or_false]
      constructor
      · rintro ((h1 | h1) | h1)
        · exact .inl h1
        · exact .inr (.inl h1)
        · exact .inr (.inr h1)
      · rintro (h1 | h1 | h1)
        · exact .inl (.inl h1)
        · exact .inl (.inr h1)
        · exact .inr h1
theorem uq_nodup : ∀ (l acc : List α), acc.Nodup → (uq acc l).Nodup
  | [], _, h => h
  | a :: l, acc, h => by
    rw [uq_cons]
    refine uq_nodup l _ ?_
    by_cases e : a ∈ acc
    · rw [if_pos e]; exact h
    · rw [if_neg e]
      refine List.nodup_append.mpr ⟨h, by simp, fun x hx y hy => ?_⟩
      rw [List.mem_singleton.mp hy]
      exact fun z => e (z ▸ hx)
theorem uq_pre : ∀ (l acc : List α), ∃ N, uq acc l = acc ++ N
  | [], acc => ⟨[], by rw [uq_nil, List.append_nil]⟩
  | a :: l, acc => by
    rw [uq_cons]
    by_cases h : a ∈ acc
    · rw [if_pos h]; exact uq_pre l acc
    · rw [if_neg h]
      obtain ⟨N, e⟩ := uq_pre l (acc ++ [a])
      exact ⟨a :: N, by rw [e, List.append_assoc]; rfl⟩
theorem uq_app (l m acc : List α) : uq acc (l ++ m) = uq (uq acc l) m := List.foldl_append
theorem uq_len (l : List α) : (uq [] l).length ≤ l.length := by
  have : ∀ (l acc : List α), (uq acc l).length ≤ acc.length + l.length := by
    intro l
    induction l with
    | nil => intro acc; simp [uq_nil]
    | cons a l ih =>
      intro acc
      rw [uq_cons]
      refine Nat.le_trans (ih _) ?_
      by_cases h : a ∈ acc
      · rw [if_pos h, List.length_cons]; omega
      · rw [if_neg h, List.length_append, List.length_cons, List.length_cons, List.length_nil]; omega
  have := this l []
  simpa using this
theorem idx_pre {l m : List α} {x : α} (h : x ∈ l) : (l ++ m).idxOf x = l.idxOf x := by rw [List.idxOf_append, if_pos h]
theorem idx_not {l m : List α} {x : α} (h : x ∉ l) : (l ++ m).idxOf x = m.idxOf x + l.length := by rw [List.idxOf_append, if_neg h]
theorem num_len (l : List α) : (num l).length = l.length := List.length_map _
theorem idx_inj {l : List α} {x y : α} (hx : x ∈ l) (hy : y ∈ l) (e : l.idxOf x = l.idxOf y) : x = y := by
  have h1 := List.idxOf_lt_length_of_mem hx
  have h2 := List.idxOf_lt_length_of_mem hy
  have e1 : l[l.idxOf x] = x := List.getElem_idxOf h1
  have e2 : l[l.idxOf y] = y := List.getElem_idxOf h2
  rw [← e1, ← e2]
  congr 1
theorem uq_map {f : α → β} : ∀ (l acc : List α), (∀ x ∈ acc ++ l, ∀ y ∈ acc ++ l, f x = f y → x = y) → uq (acc.map f) (l.map f) = (uq acc l).map f
  | [], acc, _ => rfl
  | a :: l, acc, h => by
    rw [List.map_cons, uq_cons, uq_cons]
    have ha : a ∈ acc ++ a :: l := List.mem_append_right _ (List.mem_cons_self ..)
    have hm : f a ∈ acc.map f ↔ a ∈ acc := by
      constructor
      · intro z
        obtain ⟨b, hb, e⟩ := List.mem_map.mp z
        rw [← h b (List.mem_append_left _ hb) a ha e]; exact hb
      · exact fun z => List.mem_map_of_mem z
    by_cases e : a ∈ acc
    · rw [if_pos e, if_pos (hm.mpr e)]
      refine uq_map l acc fun x hx y hy => h x ?_ y ?_
      · rcases List.mem_append.mp hx with z | z
        · exact List.mem_append_left _ z
        · exact List.mem_append_right _ (List.mem_cons_of_mem _ z)
      · rcases List.mem_append.mp hy with z | z
        · exact List.mem_append_left _ z
        · exact List.mem_append_right _ (List.mem_cons_of_mem _ z)
    · rw [if_neg e, if_neg (fun z => e (hm.mp z))]
      have := uq_map l (acc ++ [a]) fun x hx y hy => h x (by simpa using hx) y (by simpa using hy)
      rw [List.map_append] at this
      exact this
/-- numbers are as equal as what is numbered -/
theorem num_eq {l : List α} {i j : Nat} {a b : Nat} (hi : (num l)[i]? = some a) (hj : (num l)[j]? = some b) : a = b ↔ l[i]? = l[j]? := by
  unfold num at hi hj
  rw [List.getElem?_map] at hi hj
  obtain ⟨x, hx, rfl⟩ := Option.map_eq_some_iff.mp hi
  obtain ⟨y, hy, rfl⟩ := Option.map_eq_some_iff.mp hj
  rw [hx, hy]
  have mx : x ∈ uq [] l := (uq_mem l [] x).mpr (.inr (List.mem_of_getElem? hx))
  have my : y ∈ uq [] l := (uq_mem l [] y).mpr (.inr (List.mem_of_getElem? hy))
  constructor
  · intro e; rw [idx_inj mx my e]
  · intro e; cases e; rfl
theorem idx_map {f : α → β} {l : List α} {x : α} (hx : x ∈ l) (h : ∀ a ∈ l, ∀ b ∈ l, f a = f b → a = b) : (l.map f).idxOf (f x) = l.idxOf x := by
  induction l with
  | nil => exact nomatch hx
  | cons a l ih =>
    rw [List.map_cons, List.idxOf_cons, List.idxOf_cons]
    by_cases e : a = x
    · subst e; simp
    · have e2 : ¬ f a = f x := fun z => e (h a (List.mem_cons_self ..) x hx z)
      have hx' : x ∈ l := by
        rcases List.mem_cons.mp hx with z | z
        · exact absurd z.symm e
        · exact z
      have e3 : (f a == f x) = false := beq_eq_false_iff_ne.mpr e2
      have e4 : (a == x) = false := beq_eq_false_iff_ne.mpr e
      rw [e3, e4, ih hx' fun p hp q hq => h p (List.mem_cons_of_mem _ hp) q (List.mem_cons_of_mem _ hq)]
/-- the numbers under a map that keeps apart -/
theorem num_map {f : α → β} {l : List α} (h : ∀ x ∈ l, ∀ y ∈ l, f x = f y → x = y) : num (l.map f) = num l := by
  unfold num
  have e := uq_map (f := f) l [] (by simpa using h)
  rw [List.map_nil] at e
  rw [e, List.map_map]
  refine List.map_congr_left fun x hx => ?_
  have hm : ∀ z ∈ uq [] l, z ∈ l := fun z hz => by simpa using (uq_mem l [] z).mp hz
  exact idx_map ((uq_mem l [] x).mpr (.inr hx)) fun a ha b hb => h a (hm a ha) b (hm b hb)
theorem num_num (l : List α) : num (num l) = num l := by
  have : num l = l.map fun x => (uq [] l).idxOf x := rfl
  rw [this]
  refine num_map fun x hx y hy e => ?_
  exact idx_inj ((uq_mem l [] x).mpr (.inr hx)) ((uq_mem l [] y).mpr (.inr hy)) e
/-- a map may only lessen numbers -/
theorem uq_map_idx {f : α → β} : ∀ (n : Nat) (U : List α), U.length = n → U.Nodup → ∀ x ∈ U, (uq [] (U.map f)).idxOf (f x) ≤ U.idxOf x
  | 0, U, hl, _, x, hx => by rw [List.length_eq_zero_iff.mp hl] at hx; exact nomatch hx
  | n + 1, U, hl, hn, x, hx => by
    obtain ⟨V, a, rfl⟩ : ∃ V a, U = V ++ [a] := by
      have hne : U ≠ [] := fun e => by rw [e] at hl; cases hl
      exact ⟨U.dropLast, U.getLast hne, (List.dropLast_concat_getLast hne).symm⟩
    have hV : V.length = n := by rw [List.length_append] at hl; simpa using hl
    obtain ⟨hn1, _, hn3⟩ := List.nodup_append.mp hn
    rw [List.map_append, List.map_singleton, uq_snoc]
    by_cases hxV : x ∈ V
    · rw [idx_pre hxV]
      have h1 := uq_map_idx (f := f) n V hV hn1 x hxV
      split
      · exact h1
      · rw [idx_pre ((uq_mem _ [] _).mpr (.inr (List.mem_map_of_mem hxV)))]; exact h1
    · have ex : x = a := by
        rcases List.mem_append.mp hx with z | z
        · exact absurd z hxV
        · exact List.mem_singleton.mp z
      subst ex
      have e1 : (V ++ [x]).idxOf x = V.length := by
        rw [idx_not hxV]; simp
      rw [e1]
      have hle : (uq [] (V.map f)).length ≤ V.length := by have := uq_len (V.map f); rwa [List.length_map] at this
      split
      · rename_i hm
        exact Nat.le_trans (Nat.le_of_lt (List.idxOf_lt_length_of_mem hm)) hle
      · rename_i hm
        rw [idx_not hm]; simpa using hle
theorem uq_uq {f : α → β} : ∀ (n : Nat) (l : List α), l.length = n → uq [] (l.map f) = uq [] ((uq [] l).map f)
  | 0, l, hl => by rw [List.length_eq_zero_iff.mp hl]; rfl
  | n + 1, l, hl => by
    obtain ⟨V, a, rfl⟩ : ∃ V a, l = V ++ [a] := by
      have hne : l ≠ [] := fun e => by rw [e] at hl; cases hl
      exact ⟨l.dropLast, l.getLast hne, (List.dropLast_concat_getLast hne).symm⟩
    have hV : V.length = n := by rw [List.length_append] at hl; simpa using hl
    have ih := uq_uq (f := f) n V hV
    rw [List.map_append, List.map_singleton, uq_snoc, uq_snoc]
    by_cases h : a ∈ uq [] V
    · rw [if_pos h, ← ih, if_pos]
      have hv : a ∈ V := by simpa using (uq_mem V [] a).mp h
      exact (uq_mem _ [] _).mpr (.inr (List.mem_map_of_mem hv))
    · rw [if_neg h, List.map_append, List.map_singleton, uq_snoc, ← ih]
/-- numbers of parts are at most those of the whole -/
theorem num_le {f : α → β} {l : List α} {i : Nat} {a b : Nat} (hi : (num (l.map f))[i]? = some a) (hj : (num l)[i]? = some b) : a ≤ b := by
  unfold num at hi hj
  rw [List.getElem?_map, List.getElem?_map] at hi
  rw [List.getElem?_map] at hj
  obtain ⟨x, hx, rfl⟩ := Option.map_eq_some_iff.mp hj
  rw [hx] at hi
  cases hi
  rw [uq_uq (f := f) _ l rfl]
  exact uq_map_idx _ (uq [] l) rfl (uq_nodup _ _ List.nodup_nil) x ((uq_mem l [] x).mpr (.inr (List.mem_of_getElem? hx)))
theorem num_lt {l : List α} {a : Nat} (h : a ∈ num l) : a < l.length := by
  obtain ⟨x, hx, rfl⟩ := List.mem_map.mp h
  exact Nat.lt_of_lt_of_le (List.idxOf_lt_length_of_mem ((uq_mem l [] x).mpr (.inr hx))) (uq_len l)
/-- as equal as another list: the same numbers -/
theorem num_same {l : List α} {m : List β} (hl : l.length = m.length) (h : ∀ i j, i < l.length → j < l.length → (l[i]? = l[j]? ↔ m[i]? = m[j]?)) : num l = num m := by
  let z := l.zip m
  have e1 : z.map (·.1) = l := List.map_fst_zip (Nat.le_of_eq hl)
  have e2 : z.map (·.2) = m := List.map_snd_zip (Nat.le_of_eq hl.symm)
  have get : ∀ p ∈ z, ∃ i, i < l.length ∧ l[i]? = some p.1 ∧ m[i]? = some p.2 := fun p hp => by
    obtain ⟨i, hi⟩ := List.getElem?_of_mem hp
    obtain ⟨h1, h2⟩ := List.getElem?_zip_eq_some.mp hi
    exact ⟨i, (List.getElem?_eq_some_iff.mp h1).1, h1, h2⟩
  have a1 : num (z.map (·.1)) = num z := num_map fun p hp q hq e => by
    obtain ⟨i, hi, p1, p2⟩ := get p hp
    obtain ⟨j, hj, q1, q2⟩ := get q hq
    have := (h i j hi hj).mp (by rw [p1, q1, e])
    rw [p2, q2] at this
    exact Prod.ext e (Option.some.inj this)
  have a2 : num (z.map (·.2)) = num z := num_map fun p hp q hq e => by
    obtain ⟨i, hi, p1, p2⟩ := get p hp
    obtain ⟨j, hj, q1, q2⟩ := get q hq
    have := (h i j hi hj).mpr (by rw [p2, q2, e])
    rw [p1, q1] at this
    exact Prod.ext (Option.some.inj this) e
  rw [← e1, ← e2, a1, a2]
end
/-- lists in which none is larger than its fellow: the sums tell them apart -/
theorem sum_le : ∀ {l m : List Nat}, l.length = m.length → (∀ (i a b : Nat), l[i]? = some a → m[i]? = some b → a ≤ b) → l.sum ≤ m.sum ∧ (l.sum = m.sum → l = m)
  | [], [], _, _ => ⟨Nat.le_refl _, fun _ => rfl⟩
  | [], _ :: _, h, _ => by simp at h
  | _ :: _, [], h, _ => by simp at h
  | a :: l, b :: m, h, k => by
    obtain ⟨h1, h2⟩ := sum_le (l := l) (m := m) (by simpa using h) fun i x y e1 e2 => k (i + 1) x y e1 e2
    have h0 := k 0 a b rfl rfl
    rw [List.sum_cons, List.sum_cons]
    refine ⟨by omega, fun e => ?_⟩
    rw [h2 (by omega), show a = b by omega]
theorem sum_bound : ∀ {l : List Nat} {n : Nat}, (∀ a ∈ l, a ≤ n) → l.sum ≤ l.length * n
  | [], n, _ => by simp
  | a :: l, n, h => by
    have h1 := sum_bound (l := l) fun x hx => h x (List.mem_cons_of_mem _ hx)
    have h2 := h a (List.mem_cons_self ..)
    rw [List.sum_cons, List.length_cons, Nat.succ_mul]; omega
end K1
set_option Elab.async false
set_option linter.all false
set_option maxRecDepth 100000
/-! tables.numbered: of texts; of nested tuples -/
namespace K1
open PySem L2 LamX
abbrev sNum : Stmt := top 15
/-- the dict's entries: what is met, in its order, numbered -/
def entS (zs : List Str) : List (Key × V) := (List.range zs.length).map fun i => (Sum.inr (zs.getD i ""), V.int (i : Int))
def numV (l : List Nat) : List V := l.map fun (n : Nat) => V.int (n : Int)
def spNumS (K : PySem.W.Frag) : Sp := fun vs H Q _ => ∃ (l : Addr) (zs : List Str), vs = [.ref l] ∧ SqL K H l (zs.map V.str) ∧ zs.length ≤ 900 ∧ ∀ p H', H p = none → Same H H' → H' p = some (.lst (numV (num zs))) → Q (.ref p) H'
def spNumN (K : PySem.W.Frag) : Sp := fun vs H Q _ => ∃ (l : Addr) (bs : List Addr) (ks : List NestedKey), vs = [.ref l] ∧ SqL K H l (bs.map V.ref) ∧ bs.length = ks.length ∧ (∀ (i : Nat) (b : Addr) (k : NestedKey), bs[i]? = some b → ks[i]? = some k → NkV H k (.ref b) ∧ k.depth ≤ 8) ∧ ks.length ≤ 900 ∧ ∀ p H', H p = none → Same H H' → H' p = some (.lst (numV (num ks))) → Q (.ref p) H'
theorem range_get {n i : Nat} (h : i < n) : (List.range n)[i]? = some i := List.getElem?_range h
theorem valV_entS {zs : List Str} (hn : zs.Nodup) {z : Str} : valV (entS zs) (Sum.inr z) = if z ∈ zs then some (V.int (zs.idxOf z : Nat)) else none := by
  by_cases h : z ∈ zs
  · rw [if_pos h]
    have hlt := List.idxOf_lt_length_of_mem h
    refine valV_mem ?_ ?_
    · unfold entS
      rw [List.map_map]
      refine List.pairwise_map.mpr (List.Pairwise.imp_of_mem (fun {x y} hx hy hne e => ?_) (List.nodup_range (n := zs.length)))
      have hx' := List.mem_range.mp hx
      have hy' := List.mem_range.mp hy
      have e' : zs.getD x "" = zs.getD y "" := Sum.inr.inj e
      rw [List.getD_eq_getElem?_getD, List.getElem?_eq_getElem hx', List.getD_eq_getElem?_getD, List.getElem?_eq_getElem hy'] at e'
      exact hne ((List.getElem_inj hn).mp e')
    · refine List.mem_map.mpr ⟨zs.idxOf z, List.mem_range.mpr hlt, ?_⟩
      rw [List.getD_eq_getElem?_getD, List.getElem?_eq_getElem hlt]
      show (Sum.inr zs[zs.idxOf z], _) = _
      rw [List.getElem_idxOf hlt]
  · rw [if_neg h]
    refine valV_no fun hm => h ?_
    unfold entS at hm
    rw [List.map_map] at hm
    obtain ⟨i, hi, e⟩ := List.mem_map.mp hm
    have hi' := List.mem_range.mp hi
    have e' : zs.getD i "" = z := Sum.inr.inj e
    rw [← e', List.getD_eq_getElem?_getD, List.getElem?_eq_getElem hi']
    exact List.getElem_mem hi'
theorem entS_snoc (zs : List Str) (z : Str) : entS (zs ++ [z]) = entS zs ++ [(Sum.inr z, V.int (zs.length : Nat))] := by
  unfold entS
  rw [List.length_append, List.length_singleton, List.range_succ, List.map_append]
  congr 1
  · refine List.map_congr_left fun i hi => ?_
    have := List.mem_range.mp hi
    rw [List.getD_eq_getElem?_getD, List.getElem?_append_left this, ← List.getD_eq_getElem?_getD]
  · rw [List.map_singleton, List.getD_eq_getElem?_getD, List.getElem?_append_right (Nat.le_refl _), Nat.sub_self]; rfl
section
variable {P : Program} {w : World} {K : PySem.W.Frag} {mg : Str → Option Value} {base : Heap}
abbrev nNum : List Str := ["labels", "numbers", "label"]
theorem scNum : FnScope nNum ["labels"] (defScope sNum) := ⟨rfl, rfl, rfl, by decide +kernel, rfl, by decide +kernel, by decide +kernel⟩
theorem ok_numS {f : Addr} {fd : FuncData} (D : Df K mg "numbered" sNum ["labels"] f fd) (T : Bt2 mg) : FnOk P w K mg base CX0 1 f fd ["labels"] (spNumS K) := by
  refine D.F.ok scNum (fun vs H Q E h => ?_) (fun cdv A outer s H vs Q E hr h => ?_)
  · obtain ⟨l, zs, rfl, _⟩ := h
    rfl
  · obtain ⟨l, zs, rfl, hl, hle, k⟩ := h
    have hu := hu_of hr
    refine ⟨_, pss_cons (ps_set (i := 1) scNum.nd rfl (Or.inr rfl) pe_dnewK)
      (pss_cons (ps_for PassesOwn.never rfl (pi_list (pv 0)) (pg_name (i := 2) scNum.nd rfl (Or.inl rfl))
        (pss_one (ps_if (pt_cmp (pc_dnotin hu (pv 2) (pv 1))) (pss_one (ps_dput hu (pv 1) (pv 2) (pe_callB call_lenD (by rfl) T.len PySem.boot_len (pa_cons (pv 1) pa_nil)) rfl)) pss_nil)))
      (pss_one (ps_ret (pe_lc (own := [("label", 2)]) (g := gName 2) (by rfl) scNum.nd (pi_list (pv 0))
          (blkOk_by (own := [("label", 2)]) (N := nNum) (sc := defScope sNum) (by decide +kernel)) (fun _ _ _ _ _ => pg_name (i := 2) scNum.nd rfl (Or.inl rfl)) (fun _ _ _ _ _ => pts_nil)
          (fun _ _ _ _ _ => pe_dget hu (pv 1) (pv 2) (fun _ _ => rfl)))))), ?_⟩
    intro p hp
    have s1 := same_upd (o := .dK []) hp
    have ep1 : upd H p (.dK []) p = some (.dK (entS [])) := upd_same
    generalize upd H p (.dK []) = H1 at s1 ep1 ⊢
    have lenE : ∀ U : List Str, (entS U).length = U.length := fun U => by unfold entS; rw [List.length_map, List.length_range]
    refine ⟨_, rfl, l, rfl, ⟨_, s1.seq hl⟩, for_list (K := K) (a := l) (xs := zs.map V.str) (fun i σ H' => Same H H' ∧ H' p = some (.dK (entS (uq [] (zs.take i)))) ∧ ∃ v2, σ = [some (.ref l), some (.ref p), v2]) ⟨s1, ep1, none, rfl⟩ (fun i σ H' _ q => q.1.seq hl) ?_ ?_⟩
    · rintro i y σ H2 hi ⟨s2, hp2, v2, rfl⟩
      rw [List.getElem?_map] at hi
      obtain ⟨z, ez, rfl⟩ := Option.map_eq_some_iff.mp hi
      have hil : i < zs.length := (List.getElem?_eq_some_iff.mp ez).1
      have etk : zs.take (i + 1) = zs.take i ++ [z] := by rw [List.take_add_one, ez]; rfl
      have hnd : (uq [] (zs.take i)).Nodup := uq_nodup _ _ List.nodup_nil
      have hul : (uq [] (zs.take i)).length ≤ 900 := by have := uq_len (zs.take i); rw [List.length_take] at this; omega
      have ev := valV_entS hnd (z := z)
      refine ⟨_, rfl, _, rfl, p, _, rfl, DGet.k (k := Sum.inr z) hp2, ?_⟩
      rw [ev, etk]
      rw [uq_snoc]
      generalize uq [] (zs.take i) = U at hp2 hnd hul ev ⊢
      by_cases hz : z ∈ U
      · rw [if_pos hz]
        refine ⟨false, rfl, iteF ?_⟩
        rw [if_pos hz]
        exact ⟨s2, hp2, _, rfl⟩
      · rw [if_neg hz]
        rw [if_neg hz] at ev
        refine ⟨true, rfl, iteT ?_⟩
        refine ⟨_, rfl, p, _, rfl, hp2, _, rfl, _, rfl, p, _, rfl, DPut.k (k := Sum.inr z) hp2 (by rw [lenE, sizeLine_eq]; omega), ?_⟩
        rw [if_neg hz, entS_snoc, ← lenE U]
        refine ⟨fun b o e => ?_, ?_, _, rfl⟩
        · rw [upd_ne (ne_of_none e hp)]; exact s2 b o e
        · rw [upd_same, putK_new _ ev, lenE]
    · rintro σ H2 ⟨s2, hp2, v2, rfl⟩
      rw [List.length_map, List.take_length] at hp2
      have hnd : (uq [] zs).Nodup := uq_nodup _ _ List.nodup_nil
      refine ⟨_, rfl, l, rfl, ⟨_, s2.seq hl⟩, fun D hD => ?_⟩
      refine lc_list (K := K) (a := l) (xs := zs.map V.str) (fun i H' => Same H2 H' ∧ H' D = some (.lst (numV ((num zs).take i)))) ?_ ?_ ?_ ?_
      · exact ⟨same_upd hD, upd_same⟩
      · exact fun i H' _ q => (s2.trans q.1).seq hl
      · rintro i y H3 hi ⟨s3, hD3⟩
        rw [List.getElem?_map] at hi
        obtain ⟨z, ez, rfl⟩ := Option.map_eq_some_iff.mp hi
        have hil : i < zs.length := (List.getElem?_eq_some_iff.mp ez).1
        have hz : z ∈ uq [] zs := (uq_mem zs [] z).mpr (.inr (List.mem_of_getElem? ez))
        have ev := valV_entS hnd (z := z)
        rw [if_pos hz] at ev
        refine ⟨rfl, _, rfl, _, rfl, p, V.int ((uq [] zs).idxOf z : Nat), rfl, by rw [← ev]; exact DGet.k (k := Sum.inr z) (s3 _ _ hp2), ?_⟩
        refine ⟨_, hD3, ?_, ?_, ?_⟩
        · unfold numV; rw [List.length_map, List.length_take, num_len, sizeLine_eq]; omega
        · exact fun b o e => by rw [upd_ne (ne_of_none e hD)]; exact s3 b o e
        · have en : (num zs)[i]? = some ((uq [] zs).idxOf z) := by unfold num; rw [List.getElem?_map, ez]; rfl
          rw [upd_same, List.take_add_one, en]
          unfold numV
          rw [List.map_append]; rfl
      · rintro H3 ⟨s3, hD3⟩
        rw [List.length_map, ← num_len zs, List.take_length] at hD3
        exact k D H3 (s2.free hD) (s2.trans s3) hD3
end
end K1
set_option Elab.async false
set_option linter.all false
set_option maxRecDepth 100000
/-! tables.numbered of nested tuples -/
namespace L2
open PySem
theorem pe_dgetN2 {X : Cx} {P : Program} {w : World} {o i : Expr} {pos : Pos} {td ty : TE} (hP : X.prog = P) (hw : X.w = w) (hu : X.A.units + 9 < cLine) (ho : PE X o td) (hi : PE X i ty) (hs : NoSl i) : PE X (.Subscript o i pos) (tDGetN P w td ty) := by
  subst hP hw
  exact pe_dgetN hu ho hi hs
theorem pe_dnewN2 {X : Cx} {P : Program} {w : World} {pos : Pos} (hP : X.prog = P) (hw : X.w = w) : PE X (.Dict [] [] pos) (tDNewN P w) := by
  subst hP hw
  exact pe_dnewN
theorem NkV.same {H H' : Hp} {k : NestedKey} {v : V} (h : NkV H k v) (s : Same H H') : NkV H' k v := NkV.keep (fun c xs e => s _ _ e) _ _ h
end L2
namespace K1
open PySem L2 LamX
theorem valN_no {ys : NdL} {k : NestedKey} (h : k ∉ ys.map (·.1)) : valN ys k = none := by
  unfold valN
  rw [List.find?_eq_none.mpr]
  · rfl
  · intro y hy e
    exact h (List.mem_map.mpr ⟨y, hy, of_decide_eq_true e⟩)
theorem valN_at : ∀ {ys : NdL} {k : NestedKey}, (ys.map (·.1)).Nodup → k ∈ ys.map (·.1) → ∀ n : Nat, (∀ (j : Nat) (y : NestedKey × Addr × V), ys[j]? = some y → y.2.2 = .int ((n + j : Nat) : Int)) → valN ys k = some (.int ((n + (ys.map (·.1)).idxOf k : Nat) : Int))
  | [], _, _, h, _, _ => nomatch h
  | y :: ys, k, hn, h, n, hv => by
    rw [List.map_cons, List.nodup_cons] at hn
    unfold valN
    rw [List.map_cons, List.idxOf_cons, List.find?_cons]
    by_cases e : y.1 = k
    · rw [decide_eq_true e]
      have e2 : (y.1 == k) = true := beq_iff_eq.mpr e
      rw [e2]
      show some y.2.2 = _
      rw [hv 0 y rfl]
      rfl
    · rw [decide_eq_false e]
      have e2 : (y.1 == k) = false := beq_eq_false_iff_ne.mpr e
      rw [e2]
      have h' : k ∈ ys.map (·.1) := by
        rcases List.mem_cons.mp h with z | z
        · exact absurd z.symm e
        · exact z
      have := valN_at (ys := ys) hn.2 h' (n + 1) fun j y' ej => by rw [hv (j + 1) y' ej]; congr 1; omega
      unfold valN at this
      show Option.map _ (ys.find? _) = _
      rw [this]
      simp only [cond_false]
      congr 2; omega
section
variable {P : Program} {w : World} {K : PySem.W.Frag} {mg : Str → Option Value} {base : Heap}
theorem ok_numN {f : Addr} {fd : FuncData} (D : Df K mg "numbered" sNum ["labels"] f fd) (T : Bt2 mg) : FnOk P w K mg base CX0 1 f fd ["labels"] (spNumN K) := by
  refine D.F.ok scNum (fun vs H Q E h => ?_) (fun cdv A outer s H vs Q E hr h => ?_)
  · obtain ⟨l, bs, ks, rfl, _⟩ := h
    rfl
  · obtain ⟨l, bs, ks, rfl, hl, hbk, hk, hle, k⟩ := h
    have hu : (A.deeper (PyProof.Rows.envOfC "numbered" (defScope sNum) s.heap.objs.size f cdv)).units + 9 < cLine := by have := room65 hr; omega
    refine ⟨_, pss_cons (ps_set (i := 1) scNum.nd rfl (Or.inr rfl) (pe_dnewN2 (P := P) (w := w) rfl rfl))
      (pss_cons (ps_for PassesOwn.never rfl (pi_list (pv 0)) (pg_name (i := 2) scNum.nd rfl (Or.inl rfl))
        (pss_one (ps_if (pt_cmp (pc_dnotinN hu (pv 2) (pv 1))) (pss_one (ps_dputN hu (pv 1) (pv 2) (pe_callB call_len_dN (by rfl) T.len PySem.boot_len (pa_cons (pv 1) pa_nil)) rfl)) pss_nil)))
      (pss_one (ps_ret (pe_lc (own := [("label", 2)]) (g := gName 2) (by rfl) scNum.nd (pi_list (pv 0))
          (blkOk_by (own := [("label", 2)]) (N := nNum) (sc := defScope sNum) (by decide +kernel)) (fun _ _ _ _ _ => pg_name (i := 2) scNum.nd rfl (Or.inl rfl)) (fun _ _ _ _ _ => pts_nil)
          (fun _ _ _ _ _ => pe_dgetN2 (P := P) (w := w) rfl rfl hu (pv 1) (pv 2) (fun _ _ => rfl)))))), ?_⟩
    intro p hp nd1
    have s1 := same_upd (o := ndO P w p []) hp
    generalize upd H p (ndO P w p []) = H1 at s1 nd1 ⊢
    refine ⟨_, rfl, l, rfl, ⟨_, s1.seq hl⟩, for_list (K := K) (a := l) (xs := bs.map V.ref) (fun i σ H' => Same H H' ∧ (∃ ys, ND P w H' p ys ∧ ys.map (·.1) = uq [] (ks.take i) ∧ ∀ (j : Nat) (y : NestedKey × Addr × V), ys[j]? = some y → y.2.2 = .int ((0 + j : Nat) : Int)) ∧ ∃ v2, σ = [some (.ref l), some (.ref p), v2]) ⟨s1, ⟨[], nd1, rfl, fun j y e => by simp at e⟩, none, rfl⟩ (fun i σ H' _ q => q.1.seq hl) ?_ ?_⟩
    · rintro i y σ H2 hi ⟨s2, ⟨ys, n2, hkeys, hvals⟩, v2, rfl⟩
      rw [List.getElem?_map] at hi
      obtain ⟨b, eb, rfl⟩ := Option.map_eq_some_iff.mp hi
      have hil : i < ks.length := by rw [← hbk]; exact (List.getElem?_eq_some_iff.mp eb).1
      have ek : ks[i]? = some ks[i] := List.getElem?_eq_getElem hil
      generalize ks[i] = kk at ek
      have etk : ks.take (i + 1) = ks.take i ++ [kk] := by rw [List.take_add_one, ek]; rfl
      obtain ⟨kv, kd⟩ := hk i b kk eb ek
      have kv2 := kv.same s2
      have hul : ys.length ≤ 900 := by
        have h1 := uq_len (ks.take i)
        rw [← hkeys, List.length_map, List.length_take] at h1
        omega
      refine ⟨_, rfl, _, rfl, p, b, ys, kk, rfl, rfl, n2, kv2, kd, ?_⟩
      rw [etk, uq_snoc, ← hkeys]
      by_cases hz : kk ∈ ys.map (·.1)
      · have ev := valN_at n2.nd hz 0 hvals
        rw [ev, if_pos hz]
        refine ⟨false, rfl, iteF ?_⟩
        exact ⟨s2, ⟨ys, n2, rfl, hvals⟩, _, rfl⟩
      · have ev := valN_no hz
        rw [ev, if_neg hz]
        refine ⟨true, rfl, iteT ?_⟩
        refine ⟨_, rfl, p, ys, rfl, n2, _, rfl, _, rfl, p, b, ys, kk, rfl, rfl, n2, kv2, kd, ev, by rw [sizeLine_eq]; omega, ?_⟩
        refine ⟨fun c o e => ?_, ⟨_, n2.put kv2 kd ev (by rw [sizeLine_eq]; omega), by rw [List.map_append]; rfl, fun j y e => ?_⟩, _, rfl⟩
        · rw [upd_ne (ne_of_none e hp)]; exact s2 c o e
        · by_cases hj : j < ys.length
          · rw [List.getElem?_append_left hj] at e
            exact hvals j y e
          · rw [List.getElem?_append_right (by omega)] at e
            cases hz2 : j - ys.length with
            | zero =>
              rw [hz2] at e
              cases e
              show V.int ((ys.length : Nat) : Int) = _
              rw [show 0 + j = ys.length by omega]
            | succ q => rw [hz2] at e; simp at e
    · rintro σ H2 ⟨s2, ⟨ys, n2, hkeys, hvals⟩, v2, rfl⟩
      rw [List.length_map, hbk, List.take_length] at hkeys
      refine ⟨_, rfl, l, rfl, ⟨_, s2.seq hl⟩, fun D hD => ?_⟩
      refine lc_list (K := K) (a := l) (xs := bs.map V.ref) (fun i H' => Same H2 H' ∧ H' D = some (.lst (numV ((num ks).take i)))) ?_ ?_ ?_ ?_
      · exact ⟨same_upd hD, upd_same⟩
      · exact fun i H' _ q => (s2.trans q.1).seq hl
      · rintro i y H3 hi ⟨s3, hD3⟩
        rw [List.getElem?_map] at hi
        obtain ⟨b, eb, rfl⟩ := Option.map_eq_some_iff.mp hi
        have hil : i < ks.length := by rw [← hbk]; exact (List.getElem?_eq_some_iff.mp eb).1
        have ek : ks[i]? = some ks[i] := List.getElem?_eq_getElem hil
        generalize ks[i] = kk at ek
        obtain ⟨kv, kd⟩ := hk i b kk eb ek
        have hz : kk ∈ ys.map (·.1) := by rw [hkeys]; exact (uq_mem ks [] kk).mpr (.inr (List.mem_of_getElem? ek))
        have ev := valN_at n2.nd hz 0 hvals
        refine ⟨rfl, _, rfl, _, rfl, p, b, ys, kk, _, rfl, rfl, n2.same s3, kv.same (s2.trans s3), kd, ev, ?_⟩
        refine ⟨_, hD3, ?_, ?_, ?_⟩
        · unfold numV; rw [List.length_map, List.length_take, num_len, sizeLine_eq]; omega
        · exact fun b o e => by rw [upd_ne (ne_of_none e hD)]; exact s3 b o e
        · have en : (num ks)[i]? = some ((uq [] ks).idxOf kk) := by unfold num; rw [List.getElem?_map, ek]; rfl
          rw [upd_same, List.take_add_one, en, hkeys, Nat.zero_add]
          unfold numV
          rw [List.map_append]; rfl
      · rintro H3 ⟨s3, hD3⟩
        rw [List.length_map, hbk, ← num_len ks, List.take_length] at hD3
        exact k D H3 (s2.free hD) (s2.trans s3) hD3
end
end K1
set_option Elab.async false
set_option linter.all false
set_option maxRecDepth 100000
/-! len(set(..)) of numbers; the partition, made finer: the mathematics -/
namespace RZ
open PySem PySem.Spec PyProof.Rows L2
/-- how many different ones: at most as many -/
def tLenSetG (K : PySem.W.Frag) (ta : TE) : TE := fun σ H Q => ta σ H fun x H1 => ∃ (l : Addr) (ns : List Int), x = .ref l ∧ SqL K H1 l (ns.map V.int) ∧ ns.length ≤ 4000 ∧ ∀ m : Nat, m ≤ ns.length → Q (.int m) H1
theorem pe_lenSetG {X : Cx} {a : Expr} {ta : TE} {p p2 q pos : Pos} (hg : Gl X "len") (hm : X.mg "len" = none) (hg2 : Gl X "set") (hm2 : X.mg "set" = none) (ha : PE X a ta) (hc : X.calm = true := by rfl)
    (na : starEach [a] X.env = (false, eval a X.env) :: starEach [] X.env := by rfl) : PE X (.Call (.Name "len" p) [.Call (.Name "set" p2) [a] [] q] [] pos) (tLenSetG X.K ta) := by
  refine ⟨fun pins s σ H Q I h => ?_⟩
  refine Call_ (ld_blt I hg hm boot_len ?_)
  refine PyProof.Rows.callWith_builtin1 (PyProof.Rows.args_cons ?_ rfl) rfl rfl
  refine Call_ (ld_blt I hg2 hm2 boot_set ?_)
  refine PyProof.Rows.callWith_type1 (PyProof.Rows.args_cons (thn (ha.run pins s σ H _ I h) fun v s1 ⟨x, H1, I1, r1, q1⟩ => PyProof.Rows.args_nil ?_) na) na rfl
  obtain ⟨l, ns, rfl, hq, hl, q1⟩ := q1
  cases r1
  obtain ⟨its, r, pl, hz⟩ := I1.list hq
  have hlen : its.toArray.size = ns.length := by rw [List.size_toArray, ← r.length, List.length_map]
  refine call_set_list (I1.ok.hd hc) pl.isList (by simpa using intsAre_vals r) (by rw [hlen]; unfold scanBound; omega) fun h' tk hS hk => ?_
  refine PyProof.Rows.args_nil ?_
  have hle := PyProof.Rows.firstMet_length_le (fun i => ns.getD i 0) its.toArray.size
  rw [hlen] at hle
  obtain ⟨o, es, ep, t, ho, hex, hd, _, _, _, hf, hn⟩ := hS
  have I2 : Inv X pins σ H1 { s1 with heap := h', toks := tk } := I1.kept fun b o e => hk b o (Heap.lt_size e) e
  rw [hlen] at hn
  exact call_len_set ho hex hd hf (by rw [hn]; omega) ⟨.int _, H1, I2.tok _, ⟨_, by rw [hn]⟩, q1 _ hle⟩
end RZ
namespace K1
open PySem L2 LamX
/-- a partition made finer by one step -/
def pairL (rs : List (List Nat)) (g : List Nat) : List (Nat × List Nat) := (List.range rs.length).map fun s => (g.getD s 0, (rs.getD s []).map fun k => g.getD k 0)
def stepG (rs : List (List Nat)) (g : List Nat) : List Nat := num (pairL rs g)
def gT (rs : List (List Nat)) (zs : List Str) : Nat → List Nat
  | 0 => num zs
  | t + 1 => stepG rs (gT rs zs t)
theorem pairL_fst {rs : List (List Nat)} {g : List Nat} (h : g.length = rs.length) : (pairL rs g).map (·.1) = g := by
  unfold pairL
  rw [List.map_map, ← h]
  refine List.ext_getElem (by simp) fun i h1 h2 => ?_
  rw [List.getElem_map, List.getElem_range]
  show g.getD i 0 = g[i]
  rw [List.getD_eq_getElem?_getD, List.getElem?_eq_getElem h2]; rfl
theorem stepG_len (rs : List (List Nat)) (g : List Nat) : (stepG rs g).length = rs.length := by unfold stepG pairL; rw [num_len]; simp
theorem stepG_num (rs : List (List Nat)) (g : List Nat) : num (stepG rs g) = stepG rs g := num_num _
theorem stepG_sum {rs : List (List Nat)} {g : List Nat} (h : g.length = rs.length) (hn : num g = g) : g.sum ≤ (stepG rs g).sum ∧ (g.sum = (stepG rs g).sum → g = stepG rs g) := by
  refine sum_le (by rw [stepG_len, h]) fun i a b ha hb => ?_
  refine num_le (f := Prod.fst) (l := pairL rs g) (i := i) ?_ hb
  rw [pairL_fst h, hn]; exact ha
theorem gT_len {rs : List (List Nat)} {zs : List Str} (h : zs.length = rs.length) : ∀ t, (gT rs zs t).length = rs.length
  | 0 => by rw [gT, num_len, h]
  | t + 1 => stepG_len _ _
theorem gT_num (rs : List (List Nat)) (zs : List Str) : ∀ t, num (gT rs zs t) = gT rs zs t
  | 0 => num_num _
  | t + 1 => stepG_num _ _
theorem gT_lt {rs : List (List Nat)} {zs : List Str} (h : zs.length = rs.length) (t : Nat) : ∀ a ∈ gT rs zs t, a < rs.length := fun a ha => by
  rw [← gT_num] at ha
  have := num_lt ha
  rwa [gT_len h] at this
theorem gT_sum {rs : List (List Nat)} {zs : List Str} (h : zs.length = rs.length) (t : Nat) : (gT rs zs t).sum ≤ rs.length * rs.length := by
  have := sum_bound (l := gT rs zs t) (n := rs.length) fun a ha => Nat.le_of_lt (gT_lt h t a ha)
  rwa [gT_len h] at this
/-- a state's row of groups as a key -/
def keyG (p : Nat × List Nat) : NestedKey := .tup [.num (p.1 : Int), .tup (p.2.map fun (k : Nat) => .num (k : Int))]
theorem keyG_inj {p q : Nat × List Nat} (e : keyG p = keyG q) : p = q := by
  unfold keyG at e
  injection e with e
  injection e with e1 e2
  injection e1 with e1
  injection e2 with e2 _
  injection e2 with e2
  refine Prod.ext (by omega) ?_
  have : ∀ l m : List Nat, (l.map fun (k : Nat) => NestedKey.num (k : Int)) = (m.map fun (k : Nat) => NestedKey.num (k : Int)) → l = m := by
    intro l
    induction l with
    | nil => intro m h; cases m with
      | nil => rfl
      | cons a b => simp at h
    | cons a l ih => intro m h; cases m with
      | nil => simp at h
      | cons b m =>
        rw [List.map_cons, List.map_cons] at h
        injection h with h1 h2
        injection h1 with h1
        rw [ih m h2, show a = b by omega]
  exact this _ _ e2
theorem num_keyG (L : List (Nat × List Nat)) : num (L.map keyG) = num L := num_map fun x _ y _ e => keyG_inj e
theorem keyG_depth (p : Nat × List Nat) : (keyG p).depth ≤ 8 := by
  have h : ∀ l : List Nat, NestedKey.depthAll (l.map fun (k : Nat) => NestedKey.num (k : Int)) = 0 := by
    intro l
    induction l with
    | nil => rfl
    | cons a l ih => rw [List.map_cons, NestedKey.depthAll, ih]; rfl
  unfold keyG
  simp only [NestedKey.depth, NestedKey.depthAll, h]
  decide
theorem nkAll_ints {H : Hp} : ∀ l : List Nat, NkAll H (l.map fun (k : Nat) => NestedKey.num (k : Int)) (numV l)
  | [] => .nil
  | a :: l => .cons (.int _) (nkAll_ints l)
theorem keyG_at {H : Hp} {b c : Addr} {p : Nat × List Nat} (hb : H b = some (.tup [.int (p.1 : Int), .ref c])) (hc : H c = some (.tup (numV p.2))) : NkV H (keyG p) (.ref b) :=
  .tup hb (.cons (.int _) (.cons (.tup hc (nkAll_ints _)) .nil))
end K1
set_option Elab.async false
set_option linter.all false
set_option maxRecDepth 100000
/-! tables.alike -/
namespace K1
open PySem L2 LamX
abbrev sAlike : Stmt := top 14
def whBody : Stmt → List Stmt
  | .While _ b _ _ => b
  | _ => []
def argOf : Expr → Expr
  | .Call _ (a :: _) _ _ => a
  | e => e
abbrev eAl : Expr := argOf (valOf ((whBody (stOf sAlike 1)).getD 1 (.Pass ⟨0, 0, 0, 0⟩)))
abbrev scAl0 : Scope := compScope eAl
def intL (r : List Nat) : List Int := r.map fun (k : Nat) => (k : Int)
theorem numV_int (l : List Nat) : numV l = (intL l).map V.int := by unfold numV intL; rw [List.map_map]; rfl
def spAlike (K : PySem.W.Frag) : Sp := fun vs H Q _ => ∃ (rw' tl : Addr) (as : List Addr) (rs : List (List Nat)) (zs : List Str), vs = [.ref rw', .ref tl] ∧ SqL K H rw' (as.map V.ref) ∧ RowsAt H as (rs.map intL) ∧ SqL K H tl (zs.map V.str) ∧ zs.length = rs.length ∧ rs.length ≤ 60 ∧ (∀ r ∈ rs, r.length ≤ 900 ∧ ∀ k ∈ r, k < rs.length) ∧
  ∀ (p : Addr) (H' : Hp) (t : Nat), H p = none → Same H H' → stepG rs (gT rs zs t) = gT rs zs t → H' p = some (.lst (numV (gT rs zs t))) → Q (.ref p) H'
section
variable {P : Program} {w : World} {K : PySem.W.Frag} {mg : Str → Option Value} {base : Heap}
abbrev pAl : List Str := ["rows", "tells"]
abbrev nAl : List Str := ["rows", "tells", "groups", "finer", "state", "row", "led"]
theorem scAl : FnScope nAl pAl (defScope sAlike) := ⟨rfl, rfl, rfl, by decide +kernel, rfl, by decide +kernel, by decide +kernel⟩
theorem atG {g : List Nat} {k : Nat} (h : k < g.length) : atI (numV g) (k : Int) = some (.int (g.getD k 0 : Nat)) := by
  refine atI_nat ?_
  unfold numV
  rw [List.getElem?_map, List.getElem?_eq_getElem h, List.getD_eq_getElem?_getD, List.getElem?_eq_getElem h]; rfl
theorem ok_alike {f fN : Addr} {fd fdN : FuncData} (D : Df K mg "alike" sAlike pAl f fd) (DN : Df K mg "numbered" sNum ["labels"] fN fdN) (T : Bt2 mg) (hset : mg "set" = none) : FnOk P w K mg base CX0 2 f fd pAl (spAlike K) := by
  have GS : FnOk P w K mg base CX0 1 fN fdN ["labels"] (spNumS K) := ok_numS DN T
  have GN : FnOk P w K mg base CX0 1 fN fdN ["labels"] (spNumN K) := ok_numN DN T
  refine D.F.ok scAl (fun vs H Q E h => ?_) (fun cdv A outer s H vs Q E hr h => ?_)
  · obtain ⟨rw', tl, as, rs, zs, rfl, _⟩ := h
    rfl
  · obtain ⟨rw', tl, as, rs, zs, rfl, hrw, hR, htl, hzl, h60, hlt, k⟩ := h
    obtain ⟨tM, gM⟩ := T.MOST_STATES
    have hin : ∀ (s' : Shared) (H' : Hp) (C' : Addr) (cl' : List (Str × Addr)) (fp' : List Addr), PE (Cx.blk (cxOf CX0 P w K mg base nAl "alike" (defScope sAlike) f cdv A outer s H E).nox s' H' scAl0 (compEnvC scAl0 cl' C' (cxOf CX0 P w K mg base nAl "alike" (defScope sAlike) f cdv A outer s H E).nox.env) fp')
        (eltOf eAl) (tTup (tCons (tOp (rIxL K) (tVar 2) (tVar 4)) (tCons (tCB (rTu K) (tCons (tLc (iList K (tVar 5)) (gName 6) tYes (tOp (rIxL K) (tVar 2) (tVar 6)) [6]) tNil)) tNil))) := fun s' H' C' cl' fp' =>
      pe_tup (pa_cons (pe_ix (r := rIxL K) ix_list (pv 2) (pv 4) (fun _ _ => rfl)) (pa_cons (pe_callTy (r := rTu K) call_tuple_of (by rfl) T.tuple PyProof.Rows.boot_tuple (pa_cons (pe_lc (own := [("led", 6)]) (g := gName 6) (by rfl) scAl.nd (pi_list (pv 5))
          (blkOk_by (own := [("led", 6)]) (N := nAl) (sc := relS scAl0 (defScope sAlike)) (by decide +kernel)) (fun _ _ _ _ _ => pg_name (i := 6) scAl.nd rfl (Or.inl rfl)) (fun _ _ _ _ _ => pts_nil)
          (fun _ _ _ _ _ => pe_ix (r := rIxL K) ix_list (pv 2) (pv 6) (fun _ _ => rfl))) pa_nil)) pa_nil))
    refine ⟨_, pss_cons (ps_set (i := 2) scAl.nd rfl (Or.inr rfl) (pe_call GS hr rfl DN.g DN.F.kp DN.b .nil pass0 (pa_cons (pv 1) pa_nil)))
      (pss_one (ps_while PassesOwn.never (pt_val pe_bl)
        (pss_cons (ps_if (pt_cmpR op_gt (RZ.pe_lenSetG (by rfl) T.len (by rfl) hset (pv 2)) (pe_glob (v := .int 60) rfl gM ⟨_, rfl⟩) (nomark _)) pss_never pss_nil)
        (pss_cons (ps_set (i := 3) scAl.nd rfl (Or.inl rfl) (pe_call GN hr rfl DN.g DN.F.kp DN.b .nil pass0 (pa_cons (pe_lc (own := [("state", 4), ("row", 5)]) (g := gTup K 2 (gCons (gName 4) (gCons (gName 5) gNil))) (by rfl) scAl.nd (pi_enum (by rfl) T.enumerate (pa_cons (pv 0) pa_nil))
            (blkOk_by (own := [("state", 4), ("row", 5)]) (N := nAl) (sc := defScope sAlike) (by decide +kernel)) (fun _ _ _ _ _ => pg_tup (by rfl) (pgs_cons (pg_name (i := 4) scAl.nd rfl (Or.inl rfl)) (pgs_cons (pg_name (i := 5) scAl.nd rfl (Or.inl rfl)) pgs_nil))) (fun _ _ _ _ _ => pts_nil)
            hin) pa_nil)))
        (pss_cons (ps_if (pt_cmpR (op_eqD hr.units) (pv 3) (pv 2) (nomark _)) (pss_one (ps_ret (pv 2))) pss_nil)
        (pss_one (ps_set (i := 2) scAl.nd rfl (Or.inr rfl) (pv 3)))))))), ?_⟩
    refine ⟨_, rfl, tl, zs, rfl, htl, by omega, fun g0 H1 hg0 s1 eg0 => ?_⟩
    refine while_ix (fun m σ H' => ∃ (t : Nat) (ga : Addr) (v3 v4 v5 v6 : Option V), Same H H' ∧ H ga = none ∧ H' ga = some (.lst (numV (gT rs zs t))) ∧ m = rs.length * rs.length - (gT rs zs t).sum ∧ σ = [some (.ref rw'), some (.ref tl), some (.ref ga), v3, v4, v5, v6]) (rs.length * rs.length - (gT rs zs 0).sum) ?_ ?_ ?_
    · exact ⟨0, g0, none, none, none, none, s1, hg0, eg0, rfl, rfl⟩
    · rintro m σ H2 ⟨t, ga, v3, v4, v5, v6, s2, hga, eg, rfl, rfl⟩
      have gl := gT_len hzl t
      have gn := gT_num rs zs t
      have gsum := gT_sum hzl t
      have gsum1 := gT_sum hzl (t + 1)
      have estep : gT rs zs (t + 1) = stepG rs (gT rs zs t) := rfl
      generalize hg : gT rs zs t = g at eg gl gn gsum estep
      refine ⟨true, rfl, ?_⟩
      refine iteT ?_
      refine ⟨_, rfl, ga, intL g, rfl, by rw [← numV_int]; exact SqL.of eg, by unfold intL; rw [List.length_map]; omega, fun m hm => ⟨_, _, rfl, rfl, _, rfl, ?_⟩⟩
      refine ite2 (fun h => absurd (of_decide_eq_true h) (by unfold intL at hm; rw [List.length_map] at hm; omega)) (fun _ => ?_)
      refine ⟨_, rfl, rw', _, rfl, s2.seq hrw, fun D hD => ?_⟩
      refine lc_it (walk_enum (K := K) (a := rw') (xs := as.map V.ref)) (fun i H' => Same H2 H' ∧ ∃ bs : List Addr, bs.length = i ∧ H' D = some (.lst (bs.map V.ref)) ∧ ∀ (j : Nat) (b : Addr) (pk : Nat × List Nat), bs[j]? = some b → (pairL rs g)[j]? = some pk → NkV H' (keyG pk) (.ref b)) ?_ ?_ ?_ ?_
      · exact ⟨same_upd hD, [], rfl, upd_same, fun j b pk e => by simp at e⟩
      · exact fun i H' _ q => (s2.trans q.1).seq hrw
      · rintro i y H3 H4 hi ⟨sm, bs, hbs, hD3, hj⟩ ⟨T', x1, x2, rfl, hT, rfl, e1, e2⟩
        cases e1
        replace e2 : (as.map V.ref)[i]? = some x2 := e2
        rw [List.getElem?_map] at e2
        obtain ⟨a, ea, rfl⟩ := Option.map_eq_some_iff.mp e2
        have hir : i < rs.length := by
          have := (List.getElem?_eq_some_iff.mp ea).1
          rw [hR.1, List.length_map] at this; exact this
        have er : rs[i]? = some rs[i] := List.getElem?_eq_getElem hir
        have hrl := hlt _ (List.getElem_mem hir)
        generalize rs[i] = r at er hrl
        have eri : (rs.map intL)[i]? = some (intL r) := by rw [List.getElem?_map, er]; rfl
        have epk : (pairL rs g)[i]? = some (g.getD i 0, r.map fun k => g.getD k 0) := by
          unfold pairL
          rw [List.getElem?_map, List.getElem?_range hir]
          show some (g.getD i 0, (rs.getD i []).map fun k => g.getD k 0) = _
          rw [List.getD_eq_getElem?_getD (l := rs), er]; rfl
        have sT := same_upd (o := .tup [V.int (i : Nat), V.ref a]) hT
        have sm2 := sm.trans sT
        have ha4 : upd H3 T' (.tup [V.int (i : Nat), V.ref a]) a = some (.lst (numV r)) := by rw [numV_int]; exact sm2 _ _ (s2 _ _ (hR.2 i a _ ea eri))
        have eg4 := sm2 _ _ eg
        have hD4 := sT _ _ hD3
        refine ⟨T', _, rfl, SqT.of upd_same, rfl, _, _, rfl, _, _, rfl, rfl, rfl, ?_⟩
        generalize upd H3 T' (.tup [V.int (i : Nat), V.ref a]) = H4 at sT sm2 ha4 eg4 hD4 ⊢
        refine ⟨_, rfl, _, rfl, ga, _, (i : Int), _, rfl, rfl, SqL.of eg4, atG (by omega), _, rfl, a, rfl, ⟨_, SqL.of ha4⟩, fun D2 hD2 => ?_⟩
        refine lc_list (K := K) (a := a) (xs := numV r) (fun j H' => Same H4 H' ∧ H' D2 = some (.lst (numV ((r.map fun k => g.getD k 0).take j)))) ?_ ?_ ?_ ?_
        · exact ⟨same_upd hD2, upd_same⟩
        · exact fun j H' _ q => SqL.of (q.1 _ _ ha4)
        · rintro j y H5 hj' ⟨s5, hD5⟩
          unfold numV at hj'
          rw [List.getElem?_map] at hj'
          obtain ⟨kk, ekk, rfl⟩ := Option.map_eq_some_iff.mp hj'
          have hkl := hrl.2 kk (List.mem_of_getElem? ekk)
          have hjl := (List.getElem?_eq_some_iff.mp ekk).1
          refine ⟨rfl, _, rfl, _, rfl, ga, _, (kk : Int), _, rfl, rfl, SqL.of (s5 _ _ eg4), atG (by omega), ?_⟩
          refine ⟨_, hD5, ?_, fun b o e => by rw [upd_ne (ne_of_none e hD2)]; exact s5 b o e, ?_⟩
          · unfold numV; rw [List.length_map, List.length_take, List.length_map, sizeLine_eq]; omega
          · have en : (r.map fun k => g.getD k 0)[j]? = some (g.getD kk 0) := by rw [List.getElem?_map, ekk]; rfl
            rw [upd_same, List.take_add_one, en]
            unfold numV
            rw [List.map_append]; rfl
        · rintro H5 ⟨s5, hD5⟩
          have elen : (numV r).length = (r.map fun k => g.getD k 0).length := by unfold numV; rw [List.length_map, List.length_map]
          rw [elen, List.take_length] at hD5
          refine ⟨D2, _, rfl, .inl ⟨SqL.of hD5, fun q hq => ?_⟩⟩
          have s6 := same_upd (o := .tup (numV (r.map fun k => g.getD k 0))) hq
          have eq6 : upd H5 q (.tup (numV (r.map fun k => g.getD k 0))) q = some (.tup (numV (r.map fun k => g.getD k 0))) := upd_same
          refine ⟨Nat.le_of_ble_eq_true rfl, fun b hb => ?_⟩
          have s7 := (s5.trans s6).trans (same_upd (o := .tup [V.int (g.getD i 0 : Nat), V.ref q]) hb)
          have eb : upd (upd H5 q (.tup (numV (r.map fun k => g.getD k 0)))) b (.tup [V.int (g.getD i 0 : Nat), V.ref q]) b = some (.tup [V.int (g.getD i 0 : Nat), V.ref q]) := upd_same
          have eq7 := (same_upd (o := .tup [V.int (g.getD i 0 : Nat), V.ref q]) hb) _ _ eq6
          generalize upd (upd H5 q (.tup (numV (r.map fun k => g.getD k 0)))) b (.tup [V.int (g.getD i 0 : Nat), V.ref q]) = H7 at s7 eb eq7 ⊢
          have hnew : NkV H7 (keyG (g.getD i 0, r.map fun k => g.getD k 0)) (.ref b) := keyG_at eb eq7
          have kp : ∀ c xs, H7 c = some (.tup xs) → upd H7 D (.lst (bs.map V.ref ++ [V.ref b])) c = some (.tup xs) := fun c xs e => by rw [upd_ne (ne_of e (s7 _ _ hD4) (by intro z; cases z))]; exact e
          refine ⟨_, s7 _ _ hD4, ?_, fun c o e => by rw [upd_ne (ne_of_none e hD)]; exact s7 _ _ (sm2 _ _ e), bs ++ [b], by simp [hbs], by rw [upd_same]; simp, fun j b' pk f1 f2 => ?_⟩
          · rw [List.length_map, hbs, sizeLine_eq]; omega
          · by_cases hjl : j < bs.length
            · rw [List.getElem?_append_left hjl] at f1
              exact NkV.keep kp _ _ (((hj j b' pk f1 f2).same sT).same s7)
            · rw [List.getElem?_append_right (by omega)] at f1
              cases hjz : j - bs.length with
              | zero =>
                rw [hjz] at f1
                simp at f1
                subst f1
                have ej : j = i := by omega
                rw [ej, epk] at f2
                cases f2
                exact NkV.keep kp _ _ hnew
              | succ z => rw [hjz] at f1; simp at f1
      · rintro H3 ⟨sm, bs, hbs, hD3, hj⟩
        have hbl : bs.length = ((pairL rs g).map keyG).length := by
          rw [hbs, List.length_map, hR.1]; unfold pairL; simp
        refine ⟨D, bs, (pairL rs g).map keyG, rfl, SqL.of hD3, hbl, fun i b kk f1 f2 => ?_, by unfold pairL; simp; omega, fun p H4 hp s4 ep => ?_⟩
        · rw [List.getElem?_map] at f2
          obtain ⟨pk, epk, rfl⟩ := Option.map_eq_some_iff.mp f2
          exact ⟨hj i b pk f1 epk, keyG_depth pk⟩
        rw [num_keyG] at ep
        replace ep : H4 p = some (.lst (numV (stepG rs g))) := ep
        have s24 := sm.trans s4
        have s04 := s2.trans s24
        have egl := s24 _ _ eg
        have dpN : ∀ {G : Hp} {q : Addr} {l : List Nat}, G q = some (.lst (numV l)) → Dp K G (.ref q) (.list ((intL l).map PyData.int)) := fun h => .lst (SqL.of (by rw [← numV_int]; exact h)) (dp_ints _)
        refine ⟨_, rfl, _, rfl, _, _, dpN ep, dpN egl, shaped_ints _, shaped_ints _, _, rfl, ?_⟩
        rw [PyData.eqv, eqv_ints]
        have hinj : ∀ l m : List Nat, intL l = intL m → l = m := fun l m e => by
          have h1 := congrArg (List.map Int.toNat) e
          unfold intL at h1
          have e0 : (Int.toNat ∘ fun (k : Nat) => (k : Int)) = id := by funext k; exact Int.toNat_natCast k
          rw [List.map_map, List.map_map, e0, List.map_id, List.map_id] at h1
          exact h1
        have hs := stepG_sum gl gn
        refine ite2 (fun h => ?_) (fun h => ?_)
        · have e : stepG rs g = g := hinj _ _ (of_decide_eq_true h)
          refine ⟨_, rfl, k ga H4 t hga s04 (by rw [hg]; exact e) (by rw [hg]; exact egl)⟩
        · have ne : stepG rs g ≠ g := fun e => h (decide_eq_true (by rw [e]))
          have hfree : H p = none := s2.free (sm.free hp)
          refine ⟨_, rfl, _, ?_, t + 1, p, _, _, _, _, s04, hfree, by rw [estep]; exact ep, rfl, rfl⟩
          rw [estep] at gsum1 ⊢
          have hlt2 : g.sum < (stepG rs g).sum := by
            rcases Nat.lt_or_eq_of_le hs.1 with z | z
            · exact z
            · exact absurd (hs.2 z).symm ne
          omega
    · rintro σ H Q Q' hQ ⟨c, e, h⟩
      exact ⟨c, e, hQ _ _ h⟩
end
end K1
set_option Elab.async false
set_option linter.all false
set_option maxRecDepth 100000
/-! tables.shrunk -/
namespace K1
open PySem L2 LamX
abbrev sShrunk : Stmt := top 13
def tup0 : Expr → Expr
  | .Tuple (a :: _) _ _ => a
  | e => e
abbrev eSh : Expr := tup0 (valOf (stOf sShrunk 3))
abbrev scSh0 : Scope := compScope eSh
/-- the first of each group, in their order -/
def keptT (g : List Nat) (i : Nat) : List Nat := (List.range i).foldl (fun acc s => if g.getD s 0 = acc.length then acc ++ [s] else acc) []
theorem keptT_succ (g : List Nat) (i : Nat) : keptT g (i + 1) = if g.getD i 0 = (keptT g i).length then keptT g i ++ [i] else keptT g i := by
  unfold keptT
  rw [List.range_succ, List.foldl_append]; rfl
theorem keptT_lt (g : List Nat) : ∀ i, (∀ s ∈ keptT g i, s < i) ∧ (keptT g i).length ≤ i
  | 0 => ⟨fun s h => by simp [keptT] at h, by simp [keptT]⟩
  | i + 1 => by
    obtain ⟨h1, h2⟩ := keptT_lt g i
    rw [keptT_succ]
    split
    · refine ⟨fun s hs => ?_, by rw [List.length_append, List.length_singleton]; omega⟩
      rcases List.mem_append.mp hs with z | z
      · have := h1 s z; omega
      · rw [List.mem_singleton.mp z]; omega
    · exact ⟨fun s hs => by have := h1 s hs; omega, by omega⟩
def shR (rs : List (List Nat)) (g : List Nat) : List (List Nat) := (keptT g g.length).map fun s => (rs.getD s []).map fun k => g.getD k 0
def shT (zs : List Str) (g : List Nat) : List Str := (keptT g g.length).map fun s => zs.getD s ""
def spShrunk (K : PySem.W.Frag) : Sp := fun vs H Q _ => ∃ (rw' tl : Addr) (as : List Addr) (rs : List (List Nat)) (zs : List Str), vs = [.ref rw', .ref tl] ∧ SqL K H rw' (as.map V.ref) ∧ RowsAt H as (rs.map intL) ∧ SqL K H tl (zs.map V.str) ∧ zs.length = rs.length ∧ rs.length ≤ 60 ∧ (∀ r ∈ rs, r.length ≤ 900 ∧ ∀ k ∈ r, k < rs.length) ∧
  ∀ (p r' t' : Addr) (bs : List Addr) (H' : Hp) (t : Nat), Same H H' → stepG rs (gT rs zs t) = gT rs zs t → H' p = some (.tup [.ref r', .ref t']) → H r' = none → H t' = none → H' r' = some (.lst (bs.map V.ref)) → RowsAt H' bs ((shR rs (gT rs zs t)).map intL) → H' t' = some (.lst ((shT zs (gT rs zs t)).map V.str)) → Q (.ref p) H'
section
variable {P : Program} {w : World} {K : PySem.W.Frag} {mg : Str → Option Value} {base : Heap}
abbrev nSh : List Str := ["rows", "tells", "groups", "kept", "state", "group", "led"]
theorem scSh : FnScope nSh pAl (defScope sShrunk) := ⟨rfl, rfl, rfl, by decide +kernel, rfl, by decide +kernel, by decide +kernel⟩
theorem ok_shrunk {f fA fN : Addr} {fd fdA fdN : FuncData} (D : Df K mg "shrunk" sShrunk pAl f fd) (DA : Df K mg "alike" sAlike pAl fA fdA) (DN : Df K mg "numbered" sNum ["labels"] fN fdN) (T : Bt2 mg) (hset : mg "set" = none) : FnOk P w K mg base CX0 3 f fd pAl (spShrunk K) := by
  have GA : FnOk P w K mg base CX0 2 fA fdA pAl (spAlike K) := ok_alike DA DN T hset
  refine D.F.ok scSh (fun vs H Q E h => ?_) (fun cdv A outer s H vs Q E hr h => ?_)
  · obtain ⟨rw', tl, as, rs, zs, rfl, _⟩ := h
    rfl
  · obtain ⟨rw', tl, as, rs, zs, rfl, hrw, hR, htl, hzl, h60, hlt, k⟩ := h
    have hin : ∀ (s' : Shared) (H' : Hp) (C' : Addr) (cl' : List (Str × Addr)) (fp' : List Addr), PE (Cx.blk (cxOf CX0 P w K mg base nSh "shrunk" (defScope sShrunk) f cdv A outer s H E).nox s' H' scSh0 (compEnvC scSh0 cl' C' (cxOf CX0 P w K mg base nSh "shrunk" (defScope sShrunk) f cdv A outer s H E).nox.env) fp')
        (eltOf eSh) (tLc (iList K (tOp (rIxL K) (tVar 0) (tVar 4))) (gName 6) tYes (tOp (rIxL K) (tVar 2) (tVar 6)) [6]) := fun s' H' C' cl' fp' =>
      pe_lc (own := [("led", 6)]) (g := gName 6) (by rfl) scSh.nd (pi_list (pe_ix (r := rIxL K) ix_list (pv 0) (pv 4) (fun _ _ => rfl)))
          (blkOk_by (own := [("led", 6)]) (N := nSh) (sc := relS scSh0 (defScope sShrunk)) (by decide +kernel)) (fun _ _ _ _ _ => pg_name (i := 6) scSh.nd rfl (Or.inl rfl)) (fun _ _ _ _ _ => pts_nil)
          (fun _ _ _ _ _ => pe_ix (r := rIxL K) ix_list (pv 2) (pv 6) (fun _ _ => rfl))
    refine ⟨_, pss_cons (ps_set (i := 2) scSh.nd rfl (Or.inr rfl) (pe_call GA hr rfl DA.g DA.F.kp DA.b .nil pass0 (pa_cons (pv 0) (pa_cons (pv 1) pa_nil))))
      (pss_cons (ps_set (i := 3) scSh.nd rfl (Or.inl rfl) (pe_lst pa_nil))
      (pss_cons (ps_for PassesOwn.never rfl (pi_enum (by rfl) T.enumerate (pa_cons (pv 2) pa_nil)) (pg_tup (by rfl) (pgs_cons (pg_name (i := 4) scSh.nd rfl (Or.inl rfl)) (pgs_cons (pg_name (i := 5) scSh.nd rfl (Or.inl rfl)) pgs_nil)))
        (pss_one (ps_if (pt_cmpR op_eq (pv 5) (pe_callB call_len (by rfl) T.len PySem.boot_len (pa_cons (pv 3) pa_nil)) (nomark _)) (pss_one (ps_expr (pe_bm PySem.F.plainAttrs_list PySem.F.slot_list_append PySem.F.type_list_append mt_append (pv 3) (pa_cons (pv 4) pa_nil)))) pss_nil)))
      (pss_one (ps_ret (pe_tup (pa_cons (pe_lc (own := [("state", 4)]) (g := gName 4) (by rfl) scSh.nd (pi_list (pv 3))
            (blkOk_by (own := [("state", 4)]) (N := nSh) (sc := defScope sShrunk) (by decide +kernel)) (fun _ _ _ _ _ => pg_name (i := 4) scSh.nd rfl (Or.inl rfl)) (fun _ _ _ _ _ => pts_nil)
            hin)
          (pa_cons (pe_lc (own := [("state", 4)]) (g := gName 4) (by rfl) scSh.nd (pi_list (pv 3))
            (blkOk_by (own := [("state", 4)]) (N := nSh) (sc := defScope sShrunk) (by decide +kernel)) (fun _ _ _ _ _ => pg_name (i := 4) scSh.nd rfl (Or.inl rfl)) (fun _ _ _ _ _ => pts_nil)
            (fun _ _ _ _ _ => pe_ix (r := rIxL K) ix_list (pv 1) (pv 4) (fun _ _ => rfl))) pa_nil))))))), ?_⟩
    refine ⟨_, rfl, _, rfl, rw', tl, as, rs, zs, rfl, hrw, hR, htl, hzl, h60, hlt, fun ga H1 t hga s1 hfin eg => ?_⟩
    have gl := gT_len hzl t
    have glt := gT_lt hzl t
    refine ⟨Nat.zero_le _, fun kp hkp => ?_⟩
    have s2 := s1.trans (same_upd (o := .lst []) hkp)
    have eg2 := (same_upd (o := .lst []) hkp) _ _ eg
    have ek2 : upd H1 kp (.lst []) kp = some (.lst (numV (keptT (gT rs zs t) 0))) := upd_same
    have hkp0 : H kp = none := s1.free hkp
    have nkg : ga ≠ kp := ne_of_none eg hkp
    generalize upd H1 kp (.lst []) = H2 at s2 eg2 ek2 ⊢
    have k' := fun (p r' t' : Addr) (bs : List Addr) (H' : Hp) => k p r' t' bs H' t
    clear k eg
    generalize gT rs zs t = g at gl glt eg2 ek2 k' hfin
    have nvl : ∀ l : List Nat, (numV l).length = l.length := fun l => by unfold numV; rw [List.length_map]
    have g60 : g.length ≤ 60 := by omega
    refine ⟨_, rfl, ga, _, rfl, SqL.of eg2, for_it (walk_enum (K := K) (a := ga) (xs := numV g)) (fun i σ H' => Same H H' ∧ H' ga = some (.lst (numV g)) ∧ H' kp = some (.lst (numV (keptT g i))) ∧ ∃ v4 v5, σ = [some (.ref rw'), some (.ref tl), some (.ref ga), some (.ref kp), v4, v5, none]) ⟨s2, eg2, ek2, none, none, rfl⟩ (fun i σ H' _ q => SqL.of q.2.1) ?_ ?_⟩
    · rintro i y σ H3 H4 hi ⟨s3, eg3, ek3, v4, v5, rfl⟩ ⟨T', x1, x2, rfl, hT, rfl, e1, e2⟩
      cases e1
      replace e2 : (numV g)[i]? = some x2 := e2
      unfold numV at e2
      rw [List.getElem?_map] at e2
      obtain ⟨gi, egi, rfl⟩ := Option.map_eq_some_iff.mp e2
      have hil := (List.getElem?_eq_some_iff.mp egi).1
      have egd : g.getD i 0 = gi := by rw [List.getD_eq_getElem?_getD, egi]; rfl
      obtain ⟨kl1, kl2⟩ := keptT_lt g i
      have sT := same_upd (o := .tup [V.int (i : Nat), V.int (gi : Nat)]) hT
      have s4 := s3.trans sT
      have eg4 := sT _ _ eg3
      have ek4 := sT _ _ ek3
      refine ⟨T', _, rfl, SqT.of upd_same, rfl, _, _, rfl, _, _, rfl, rfl, ?_⟩
      generalize upd H3 T' (.tup [V.int (i : Nat), V.int (gi : Nat)]) = H4 at s4 eg4 ek4 ⊢
      refine ⟨_, rfl, _, rfl, _, (keptT g i).length, rfl, .inl ⟨_, SqL.of ek4, (nvl _).symm⟩, rfl, _, rfl, ?_⟩
      rw [keptT_succ, egd]
      refine ite2 (fun h => ?_) (fun h => ?_)
      · have e : gi = (keptT g i).length := by
          have := of_decide_eq_true h
          injection this with this
          omega
        rw [if_pos e]
        refine ⟨_, rfl, .inl ⟨rfl, _, SqL.of ek4⟩, _, rfl, kp, _, _, rfl, rfl, ek4, by rw [nvl, sizeLine_eq]; omega, ?_⟩
        refine ⟨fun b o e => by rw [upd_ne (ne_of_none e hkp0)]; exact s4 b o e, by rw [upd_ne nkg]; exact eg4, ?_, _, _, rfl⟩
        rw [upd_same]
        unfold numV
        rw [List.map_append]; rfl
      · have e : ¬ gi = (keptT g i).length := fun z => h (decide_eq_true (by rw [z]))
        rw [if_neg e]
        exact ⟨s4, eg4, ek4, _, _, rfl⟩
    · rintro σ H3 ⟨s3, eg3, ek3, v4, v5, rfl⟩
      rw [nvl] at ek3
      obtain ⟨kl1, kl2⟩ := keptT_lt g g.length
      have hrows : ∀ {G : Hp}, Same H3 G → ∀ {s : Nat}, s < rs.length → ∃ a r, atI (as.map V.ref) (s : Int) = some (.ref a) ∧ rs[s]? = some r ∧ G a = some (.lst (numV r)) := fun {G} sG {s} hs => by
        have hsa : s < as.length := by rw [hR.1, List.length_map]; exact hs
        refine ⟨as[s], rs[s], atI_nat (by rw [List.getElem?_map, List.getElem?_eq_getElem hsa]; rfl), List.getElem?_eq_getElem hs, ?_⟩
        rw [numV_int]
        exact sG _ _ (s3 _ _ (hR.2 s _ _ (List.getElem?_eq_getElem hsa) (by rw [List.getElem?_map, List.getElem?_eq_getElem hs]; rfl)))
      generalize hkl : keptT g g.length = kl at ek3 kl1 kl2
      have hshR : shR rs g = kl.map fun s => (rs.getD s []).map fun k => g.getD k 0 := by unfold shR; rw [hkl]
      have hshT : shT zs g = kl.map fun s => zs.getD s "" := by unfold shT; rw [hkl]
      refine ⟨_, rfl, kp, rfl, ⟨_, SqL.of ek3⟩, fun D hD => ?_⟩
      refine lc_list (K := K) (a := kp) (xs := numV kl) (fun i H' => Same H3 H' ∧ ∃ bs : List Addr, bs.length = i ∧ H' D = some (.lst (bs.map V.ref)) ∧ (∀ b ∈ bs, b ≠ D) ∧ RowsAt H' bs (((shR rs g).take i).map intL)) ?_ ?_ ?_ ?_
      · exact ⟨same_upd hD, [], rfl, upd_same, (fun b h => nomatch h), by simp, fun j b r e => by simp at e⟩
      · exact fun i H' _ q => SqL.of (q.1 _ _ ek3)
      · rintro i y H4 hi ⟨s4, bs, hbs, hD4, hbD, hRb⟩
        unfold numV at hi
        rw [List.getElem?_map] at hi
        obtain ⟨s', es', rfl⟩ := Option.map_eq_some_iff.mp hi
        have hs1 := kl1 s' (List.mem_of_getElem? es')
        have hikl := (List.getElem?_eq_some_iff.mp es').1
        obtain ⟨a, r, hat, er, ea⟩ := hrows s4 (s := s') (by omega)
        have hrl := hlt r (List.mem_of_getElem? er)
        have esh : (shR rs g)[i]? = some (r.map fun k => g.getD k 0) := by
          rw [hshR, List.getElem?_map, es']
          show some ((rs.getD s' []).map fun k => g.getD k 0) = _
          rw [List.getD_eq_getElem?_getD, er]; rfl
        have s04 := s3.trans s4
        refine ⟨rfl, _, rfl, _, rfl, rw', _, (s' : Int), _, rfl, rfl, s04.seq hrw, hat, a, rfl, ⟨_, SqL.of ea⟩, fun D2 hD2 => ?_⟩
        refine lc_list (K := K) (a := a) (xs := numV r) (fun j H' => Same H4 H' ∧ H' D2 = some (.lst (numV ((r.map fun k => g.getD k 0).take j)))) ?_ ?_ ?_ ?_
        · exact ⟨same_upd hD2, upd_same⟩
        · exact fun j H' _ q => SqL.of (q.1 _ _ ea)
        · rintro j y H5 hj' ⟨s5, hD5⟩
          unfold numV at hj'
          rw [List.getElem?_map] at hj'
          obtain ⟨kk, ekk, rfl⟩ := Option.map_eq_some_iff.mp hj'
          have hkl' := hrl.2 kk (List.mem_of_getElem? ekk)
          have hjl := (List.getElem?_eq_some_iff.mp ekk).1
          refine ⟨rfl, _, rfl, _, rfl, ga, _, (kk : Int), _, rfl, rfl, SqL.of (s5 _ _ (s4 _ _ eg3)), atG (by omega), ?_⟩
          refine ⟨_, hD5, ?_, fun b o e => by rw [upd_ne (ne_of_none e hD2)]; exact s5 b o e, ?_⟩
          · unfold numV; rw [List.length_map, List.length_take, List.length_map, sizeLine_eq]; omega
          · have en : (r.map fun k => g.getD k 0)[j]? = some (g.getD kk 0) := by rw [List.getElem?_map, ekk]; rfl
            rw [upd_same, List.take_add_one, en]
            unfold numV
            rw [List.map_append]; rfl
        · rintro H5 ⟨s5, hD5⟩
          have elen : (numV r).length = (r.map fun k => g.getD k 0).length := by rw [nvl, List.length_map]
          rw [elen, List.take_length] at hD5
          have nDD : D2 ≠ D := (ne_of_none hD4 hD2).symm
          refine ⟨_, s5 _ _ hD4, ?_, fun c o e => by rw [upd_ne (ne_of_none e hD)]; exact s5 _ _ (s4 _ _ e), bs ++ [D2], by simp [hbs], by rw [upd_same]; simp, fun b hb => ?_, ?_⟩
          · rw [List.length_map, hbs, sizeLine_eq]; omega
          · rcases List.mem_append.mp hb with z | z
            · exact hbD b z
            · rw [List.mem_singleton.mp z]; exact nDD
          · rw [List.take_add_one, esh]
            have e7 : RowsAt H5 (bs ++ [D2]) ((((shR rs g).take i).map intL) ++ [intL (r.map fun k => g.getD k 0)]) := (hRb.same s5).snoc (by rw [← numV_int]; exact hD5)
            have e8 : ((shR rs g).take i ++ (some (r.map fun k => g.getD k 0)).toList).map intL = ((shR rs g).take i).map intL ++ [intL (r.map fun k => g.getD k 0)] := by rw [List.map_append]; rfl
            rw [e8]
            refine ⟨e7.1, fun j c q f1 f2 => ?_⟩
            have hm := List.mem_of_getElem? f1
            have hc : c ≠ D := by
              rcases List.mem_append.mp hm with z | z
              · exact hbD c z
              · rw [List.mem_singleton.mp z]; exact nDD
            rw [upd_ne hc]
            exact e7.2 j c q f1 f2
      · rintro H4 ⟨s4, bs, hbs, hD4, hbD, hRb⟩
        have eal : (shR rs g).take (numV kl).length = shR rs g := by rw [nvl, hshR, ← List.length_map (f := fun s => (rs.getD s []).map fun k => g.getD k 0), List.take_length]
        rw [eal] at hRb
        have s04 := s3.trans s4
        refine ⟨_, rfl, kp, rfl, ⟨_, SqL.of (s4 _ _ ek3)⟩, fun D' hD' => ?_⟩
        refine lc_list (K := K) (a := kp) (xs := numV kl) (fun i H' => Same H4 H' ∧ H' D' = some (.lst (((shT zs g).take i).map V.str))) ?_ ?_ ?_ ?_
        · exact ⟨same_upd hD', upd_same⟩
        · exact fun i H' _ q => SqL.of (q.1 _ _ (s4 _ _ ek3))
        · rintro i y H5 hi ⟨s5, hD5⟩
          unfold numV at hi
          rw [List.getElem?_map] at hi
          obtain ⟨s', es', rfl⟩ := Option.map_eq_some_iff.mp hi
          have hs1 := kl1 s' (List.mem_of_getElem? es')
          have hikl := (List.getElem?_eq_some_iff.mp es').1
          have hsz : s' < zs.length := by omega
          have hat : atI (zs.map V.str) (s' : Int) = some (.str (zs.getD s' "")) := atI_nat (by rw [List.getElem?_map, List.getElem?_eq_getElem hsz, List.getD_eq_getElem?_getD, List.getElem?_eq_getElem hsz]; rfl)
          refine ⟨rfl, _, rfl, _, rfl, tl, _, (s' : Int), _, rfl, rfl, (s04.trans s5).seq htl, hat, ?_⟩
          refine ⟨_, hD5, ?_, fun b o e => by rw [upd_ne (ne_of_none e hD')]; exact s5 b o e, ?_⟩
          · rw [List.length_map, List.length_take, sizeLine_eq]; omega
          · have en : (shT zs g)[i]? = some (zs.getD s' "") := by rw [hshT, List.getElem?_map, es']; rfl
            rw [upd_same, List.take_add_one, en, List.map_append]; rfl
        · rintro H5 ⟨s5, hD5⟩
          have eal2 : (shT zs g).take (numV kl).length = shT zs g := by rw [nvl, hshT, ← List.length_map (f := fun s => zs.getD s ""), List.take_length]
          rw [eal2] at hD5
          refine ⟨Nat.le_of_ble_eq_true rfl, fun p hp => ?_⟩
          have s6 := same_upd (o := .tup [V.ref D, V.ref D']) hp
          have s46 := s5.trans s6
          refine k' p D D' bs _ (s04.trans s46) hfin upd_same ?_ ?_ (s46 _ _ hD4) (hRb.same s46) (s6 _ _ hD5)
          · exact s3.free hD
          · exact s04.free hD'
end
end K1
set_option Elab.async false
set_option linter.all false
set_option maxRecDepth 100000
/-! canonical numbers: which are kept; what is reached, numbered: the mathematics -/
namespace K1
open PySem L2 LamX
theorem canon_idx {g : List Nat} (h : num g = g) {a : Nat} (ha : a ∈ g) : (uq [] g).idxOf a = a := by
  obtain ⟨i, hi⟩ := List.getElem?_of_mem ha
  have h1 : (num g)[i]? = some ((uq [] g).idxOf a) := by unfold num; rw [List.getElem?_map, hi]; rfl
  rw [h, hi] at h1
  exact (Option.some.inj h1).symm
theorem canon_range {g : List Nat} (h : num g = g) : uq [] g = List.range (uq [] g).length := by
  refine List.ext_getElem (by simp) fun i h1 h2 => ?_
  rw [List.getElem_range]
  have hm : (uq [] g)[i] ∈ g := by
    have := (uq_mem g [] ((uq [] g)[i])).mp (List.getElem_mem h1)
    simpa using this
  have h3 := canon_idx h hm
  have h4 : (uq [] g).idxOf (uq [] g)[i] = i := by
    have hlt := List.idxOf_lt_length_of_mem (List.getElem_mem h1)
    have e := List.getElem_idxOf hlt
    exact (List.getElem_inj (uq_nodup g [] List.nodup_nil)).mp e
  omega
theorem canon_pre {g : List Nat} (h : num g = g) (i : Nat) : uq [] (g.take i) = List.range (uq [] (g.take i)).length := by
  obtain ⟨N, e⟩ := uq_pre (g.drop i) (uq [] (g.take i))
  rw [← uq_app, List.take_append_drop] at e
  have h1 := canon_range h
  rw [e] at h1
  have h2 := congrArg (List.take (uq [] (g.take i)).length) h1
  rw [List.take_left, List.take_range] at h2
  rw [List.length_append] at h2
  rwa [Nat.min_eq_left (by omega)] at h2
theorem kept_len {g : List Nat} (h : num g = g) : ∀ i, i ≤ g.length → (keptT g i).length = (uq [] (g.take i)).length ∧ (i < g.length → (g.getD i 0 = (keptT g i).length ↔ g.getD i 0 ∉ g.take i))
  | 0, _ => ⟨rfl, fun hi => by
      rw [List.take_zero]
      refine ⟨fun _ => (fun z => nomatch z), fun _ => ?_⟩
      have e0 : g[0]? = some (g.getD 0 0) := by rw [List.getD_eq_getElem?_getD, List.getElem?_eq_getElem hi]; rfl
      have hm := List.mem_of_getElem? e0
      have h1 := canon_idx h hm
      cases g with
      | nil => simp at hi
      | cons a r =>
        obtain ⟨N, e⟩ := uq_pre r [a]
        have e1 : uq [] (a :: r) = a :: N := by rw [uq_cons, if_neg (fun z => nomatch z), List.nil_append, e]; rfl
        rw [e1] at h1
        have h2 : (a :: r).getD 0 0 = a := rfl
        rw [h2] at h1 ⊢
        rw [List.idxOf_cons_self] at h1
        exact h1.symm⟩
  | i + 1, hi => by
    obtain ⟨l1, l2⟩ := kept_len h i (by omega)
    have hlt : i < g.length := by omega
    have l2 := l2 hlt
    have eg : g[i]? = some (g.getD i 0) := by rw [List.getD_eq_getElem?_getD, List.getElem?_eq_getElem hlt]; rfl
    have etk : g.take (i + 1) = g.take i ++ [g.getD i 0] := by rw [List.take_add_one, eg]; rfl
    have key : (keptT g (i + 1)).length = (uq [] (g.take (i + 1))).length := by
      rw [keptT_succ, etk, uq_snoc]
      by_cases hn : g.getD i 0 ∈ g.take i
      · have h1 : ¬ g.getD i 0 = (keptT g i).length := fun z => (l2.mp z) hn
        rw [if_neg h1, if_pos ((uq_mem _ [] _).mpr (.inr hn)), l1]
      · have h1 : ¬ g.getD i 0 ∈ uq [] (g.take i) := fun z => hn (by simpa using (uq_mem _ [] _).mp z)
        rw [if_pos (l2.mpr hn), if_neg h1, List.length_append, List.length_append, l1]; rfl
    refine ⟨key, fun hj => ?_⟩
    rw [key]
    generalize hv : g.getD (i + 1) 0 = v
    have egv : g[i + 1]? = some v := by rw [← hv, List.getD_eq_getElem?_getD, List.getElem?_eq_getElem hj]; rfl
    have hr := canon_pre h (i + 1)
    have hmem : v ∈ g.take (i + 1) ↔ v < (uq [] (g.take (i + 1))).length := by
      have h1 : v ∈ uq [] (g.take (i + 1)) ↔ v ∈ g.take (i + 1) := by rw [uq_mem]; simp
      rw [← h1]
      constructor
      · intro z; rw [hr] at z; exact List.mem_range.mp z
      · intro z; rw [hr]; exact List.mem_range.mpr z
    rw [hmem]
    constructor
    · intro z; omega
    · intro z
      have hr2 := canon_pre h (i + 2)
      have etk2 : g.take (i + 2) = g.take (i + 1) ++ [v] := by rw [List.take_add_one, egv]; rfl
      have hnot : v ∉ uq [] (g.take (i + 1)) := fun q => z (hmem.mp (by simpa using (uq_mem _ [] _).mp q))
      rw [etk2, uq_snoc, if_neg hnot, List.length_append, List.length_singleton, List.range_succ, ← hr] at hr2
      have := List.append_cancel_left hr2
      simpa using this
theorem kept_full {g : List Nat} (h : num g = g) : (keptT g g.length).length = (uq [] g).length := by
  have := (kept_len h g.length (Nat.le_refl _)).1
  rwa [List.take_length] at this
theorem canon_lt {g : List Nat} (h : num g = g) {a : Nat} (ha : a ∈ g) : a < (keptT g g.length).length := by
  rw [kept_full h]
  have h1 : a ∈ uq [] g := (uq_mem g [] a).mpr (.inr ha)
  have h2 := List.idxOf_lt_length_of_mem h1
  rwa [canon_idx h ha] at h2
/-! the reached states, numbered in the order in which they are met -/
def stsL (r : List Nat → List Int) (M : List (List Nat)) : List Int := M.map fun u => (r u).getD 0 0
def renR (rs : List (List Int)) (sts : List Int) : List (List Nat) := sts.map fun s => (rs.getD s.toNat []).map fun x => sts.idxOf x
def renT (ss : List Str) (sts : List Int) : List Str := sts.map fun s => ss.getD s.toNat ""
/-- what holds of the states that are reached -/
structure Rch (w : Nat) (rs : List (List Int)) (st : Int) (sts : List Int) : Prop where
  nd : sts.Nodup
  rg : ∀ s ∈ sts, 0 ≤ s ∧ s < (rs.length : Int)
  cl : ∀ s ∈ sts, ∀ x ∈ rs.getD s.toNat [], x ∈ sts
  hd : ∃ T, sts = st :: T
  len : sts.length ≤ rs.length
theorem rch_of {ws : List Str} {rs : List (List Int)} {ss : List Str} {st : Int} (pt : Parts ws rs ss st) {n : Nat} {M : List (List Nat)} (eb : bfs (runT [rs] [st]) ws.length n = (M, [])) : Rch ws.length rs st (stsL (runT [rs] [st]) M) := by
  have hs0 : StOk [rs] [st] := ⟨rfl, fun i t v e1 e2 => by
    match i, e1, e2 with
    | 0, e1, e2 => cases e1; cases e2; exact pt.st
    | _ + 1, e1, _ => simp at e1⟩
  have htab : ∀ t ∈ [rs], TabOk ws.length t := fun t ht => by rw [List.mem_singleton.mp ht]; exact pt.tab
  have I : BfsI (runT [rs] [st]) ws.length n M [] := by
    have := bfs_ok (runT_c [rs] [st]) ws.length n
    rw [eb] at this
    exact this
  have hml : M.length ≤ prodN [rs] := met_len hs0 htab I.nd I.lt
  have hrun : ∀ u, (∀ k ∈ u, k < ws.length) → ∃ c, runT [rs] [st] u = [c] ∧ 0 ≤ c ∧ c < (rs.length : Int) := fun u hu => by
    have h1 := hs0.run htab u hu
    match hru : runT [rs] [st] u, h1 with
    | [c], h1 => exact ⟨c, rfl, h1.2 0 rs c rfl rfl⟩
  obtain ⟨⟨M0, e0, _, hcl⟩, _, hnd, _, hlt, _, hT⟩ := I
  rw [List.append_nil] at e0
  subst e0
  have emap : M.map (runT [rs] [st]) = (stsL (runT [rs] [st]) M).map fun s => [s] := by
    unfold stsL
    rw [List.map_map]
    refine List.map_congr_left fun u hu => ?_
    obtain ⟨c, ec, _⟩ := hrun u (hlt u hu)
    show _ = [(runT [rs] [st] u).getD 0 0]
    rw [ec]; rfl
  have hin : ∀ s, [s] ∈ M.map (runT [rs] [st]) ↔ s ∈ stsL (runT [rs] [st]) M := fun s => by
    rw [emap, List.mem_map]
    constructor
    · rintro ⟨x, hx, e⟩; cases e; exact hx
    · intro hx; exact ⟨s, hx, rfl⟩
  refine ⟨?_, fun s hs => ?_, fun s hs x hx => ?_, ?_, ?_⟩
  · rw [emap] at hnd
    exact (List.pairwise_map.mp hnd).imp fun h e => h (by rw [e])
  · unfold stsL at hs
    obtain ⟨u, hu, rfl⟩ := List.mem_map.mp hs
    obtain ⟨c, ec, c0, c1⟩ := hrun u (hlt u hu)
    rw [ec]; exact ⟨c0, c1⟩
  · unfold stsL at hs
    obtain ⟨u, hu, rfl⟩ := List.mem_map.mp hs
    obtain ⟨c, ec, c0, c1⟩ := hrun u (hlt u hu)
    rw [ec] at hx
    replace hx : x ∈ rs.getD c.toNat [] := hx
    have hrow := getD_get ([] : List Int) (xs := rs) (n := c.toNat) (by omega)
    obtain ⟨hl, _⟩ := pt.row _ (List.mem_of_getElem? hrow)
    obtain ⟨k, hk⟩ := List.getElem?_of_mem hx
    have hkl := (List.getElem?_eq_some_iff.mp hk).1
    have h1 := hcl u hu k (by rw [← hl]; exact hkl)
    rw [runT_snoc, ec] at h1
    have h2 : stepT [rs] k [c] = [x] := by
      show [(rs.getD c.toNat []).getD k 0] = [x]
      rw [List.getD_eq_getElem?_getD, hk]; rfl
    rw [h2] at h1
    exact (hin x).mp h1
  · obtain ⟨T, eT⟩ := hT
    exact ⟨stsL (runT [rs] [st]) T, by rw [eT]; rfl⟩
  · unfold stsL
    rw [List.length_map]
    have : prodN [rs] = rs.length := Nat.mul_one _
    omega
end K1
set_option Elab.async false
set_option linter.all false
set_option maxRecDepth 100000
/-! Machine.least -/
namespace L2
open PySem
theorem DGet.kR {H : Hp} {a : Addr} {kvs : List (Key × V)} {k : Key} (e : Rd H a (.dK kvs)) : DGet H a (kV k) (valV kvs k) := .inl ⟨kvs, k, e, rfl, rfl⟩
end L2
namespace K1
open PySem L2 LamX
abbrev sMLeast : Stmt := inClass (top 34) 11
abbrev eLe : Expr := valOf (stOf sMLeast 2)
abbrev scLe0 : Scope := compScope eLe
def arg1 : Expr → Expr
  | .Call _ (_ :: b :: _) _ _ => b
  | e => e
abbrev eLe1 : Expr := arg1 (valOf (stOf sMLeast 3))
abbrev scLe1 : Scope := compScope eLe1
def entI (sts : List Int) : List (Key × V) := (List.range sts.length).map fun i => (Sum.inl (sts.getD i 0), V.int (i : Int))
theorem valV_entI {sts : List Int} (hn : sts.Nodup) {z : Int} : valV (entI sts) (Sum.inl z) = if z ∈ sts then some (V.int (sts.idxOf z : Nat)) else none := by
  by_cases h : z ∈ sts
  · rw [if_pos h]
    have hlt := List.idxOf_lt_length_of_mem h
    refine valV_mem ?_ ?_
    · unfold entI
      rw [List.map_map]
      refine List.pairwise_map.mpr (List.Pairwise.imp_of_mem (fun {x y} hx hy hne e => ?_) (List.nodup_range (n := sts.length)))
      have hx' := List.mem_range.mp hx
      have hy' := List.mem_range.mp hy
      have e' : sts.getD x 0 = sts.getD y 0 := Sum.inl.inj e
      rw [List.getD_eq_getElem?_getD, List.getElem?_eq_getElem hx', List.getD_eq_getElem?_getD, List.getElem?_eq_getElem hy'] at e'
      exact hne ((List.getElem_inj hn).mp e')
    · refine List.mem_map.mpr ⟨sts.idxOf z, List.mem_range.mpr hlt, ?_⟩
      rw [List.getD_eq_getElem?_getD, List.getElem?_eq_getElem hlt]
      show (Sum.inl sts[sts.idxOf z], _) = _
      rw [List.getElem_idxOf hlt]
  · rw [if_neg h]
    refine valV_no fun hm => h ?_
    unfold entI at hm
    rw [List.map_map] at hm
    obtain ⟨i, hi, e⟩ := List.mem_map.mp hm
    have hi' := List.mem_range.mp hi
    have e' : sts.getD i 0 = z := Sum.inl.inj e
    rw [← e', List.getD_eq_getElem?_getD, List.getElem?_eq_getElem hi']
    exact List.getElem_mem hi'
theorem entI_snoc (sts : List Int) (z : Int) : entI (sts ++ [z]) = entI sts ++ [(Sum.inl z, V.int (sts.length : Nat))] := by
  unfold entI
  rw [List.length_append, List.length_singleton, List.range_succ, List.map_append]
  congr 1
  · refine List.map_congr_left fun i hi => ?_
    have := List.mem_range.mp hi
    rw [List.getD_eq_getElem?_getD, List.getElem?_append_left this, ← List.getD_eq_getElem?_getD]
  · rw [List.map_singleton, List.getD_eq_getElem?_getD, List.getElem?_append_right (Nat.le_refl _), Nat.sub_self]; rfl
theorem entI_len (sts : List Int) : (entI sts).length = sts.length := by unfold entI; rw [List.length_map, List.length_range]
/-- the least machine's parts are a machine's parts -/
theorem parts_least {ws : List Str} {rs : List (List Int)} {ss : List Str} {st : Int} (pt : Parts ws rs ss st) {sts : List Int} (R : Rch ws.length rs st sts) (t : Nat) :
    Parts ws ((shR (renR rs sts) (gT (renR rs sts) (renT ss sts) t)).map intL) (shT (renT ss sts) (gT (renR rs sts) (renT ss sts) t)) 0 := by
  have hrl : (renR rs sts).length = sts.length := List.length_map _
  have hzl : (renT ss sts).length = (renR rs sts).length := by unfold renT renR; rw [List.length_map, List.length_map]
  have gl := gT_len hzl t
  have gn := gT_num (renR rs sts) (renT ss sts) t
  have glt := gT_lt hzl t
  have h60 := pt.many.2
  have hlen := R.len
  obtain ⟨T, eT⟩ := R.hd
  have h1 : 1 ≤ sts.length := by rw [eT]; simp
  generalize gT (renR rs sts) (renT ss sts) t = g at gl gn glt
  have kl := keptT_lt g g.length
  have hsl : (shR (renR rs sts) g).length = (keptT g g.length).length := List.length_map _
  have htl : (shT (renT ss sts) g).length = (keptT g g.length).length := List.length_map _
  have hpos : 1 ≤ (keptT g g.length).length := by
    have hg0 : g[0]? = some (g.getD 0 0) := by rw [List.getD_eq_getElem?_getD, List.getElem?_eq_getElem (by omega)]; rfl
    have := canon_lt gn (List.mem_of_getElem? hg0)
    omega
  refine ⟨pt.gd, ⟨by rw [List.length_map, hsl]; exact hpos, by rw [List.length_map, hsl]; omega⟩, fun r hr => ?_, ⟨by rw [List.length_map, hsl, htl], fun z hz => ?_⟩, ⟨by decide, by rw [List.length_map, hsl]; omega⟩⟩
  · obtain ⟨r', hr', rfl⟩ := List.mem_map.mp hr
    unfold shR at hr'
    obtain ⟨s, hs, rfl⟩ := List.mem_map.mp hr'
    have hs1 := kl.1 s hs
    have er : (renR rs sts).getD s [] ∈ renR rs sts := List.mem_of_getElem? (getD_get ([] : List Nat) (by omega))
    generalize (renR rs sts).getD s [] = q at er
    unfold renR at er
    obtain ⟨s', hs', rfl⟩ := List.mem_map.mp er
    obtain ⟨s0, s1⟩ := R.rg s' hs'
    have hrow := List.mem_of_getElem? (getD_get ([] : List Int) (xs := rs) (n := s'.toNat) (by omega))
    refine ⟨by unfold intL; rw [List.length_map, List.length_map, List.length_map]; exact (pt.row _ hrow).1, fun x hx => ?_⟩
    unfold intL at hx
    obtain ⟨k, hk, rfl⟩ := List.mem_map.mp hx
    obtain ⟨j, hj, rfl⟩ := List.mem_map.mp hk
    obtain ⟨y, hy, rfl⟩ := List.mem_map.mp hj
    have hjl := List.idxOf_lt_length_of_mem (R.cl s' hs' y hy)
    have hgm : g.getD (sts.idxOf y) 0 ∈ g := List.mem_of_getElem? (getD_get (0 : Nat) (by omega))
    have := canon_lt gn hgm
    rw [List.length_map, hsl]
    exact ⟨Int.natCast_nonneg _, by omega⟩
  · unfold shT at hz
    obtain ⟨s, hs, rfl⟩ := List.mem_map.mp hz
    have hs1 := kl.1 s hs
    have er : (renT ss sts).getD s "" ∈ renT ss sts := List.mem_of_getElem? (getD_get ("" : Str) (by omega))
    generalize (renT ss sts).getD s "" = q at er
    unfold renT at er
    obtain ⟨s', hs', rfl⟩ := List.mem_map.mp er
    obtain ⟨s0, s1⟩ := R.rg s' hs'
    exact pt.tl.2 _ (List.mem_of_getElem? (getD_get ("" : Str) (by rw [pt.tl.1]; omega)))
def spLeast (K : PySem.W.Frag) (C : Addr) : Sp := fun vs H Q _ => ∃ (x : Addr) (ws : List Str) (rs : List (List Int)) (ss : List Str) (st : Int), vs = [.ref x] ∧ MachAt K C H x ws rs ss st ∧ Parts ws rs ss st ∧
  ∀ (y : Addr) (H' : Hp) (n t : Nat) (M : List (List Nat)), bfs (runT [rs] [st]) ws.length n = (M, []) → stepG (renR rs (stsL (runT [rs] [st]) M)) (gT (renR rs (stsL (runT [rs] [st]) M)) (renT ss (stsL (runT [rs] [st]) M)) t) = gT (renR rs (stsL (runT [rs] [st]) M)) (renT ss (stsL (runT [rs] [st]) M)) t → H y = none → Same H H' →
    MachAt K C H' y ws ((shR (renR rs (stsL (runT [rs] [st]) M)) (gT (renR rs (stsL (runT [rs] [st]) M)) (renT ss (stsL (runT [rs] [st]) M)) t)).map intL) (shT (renT ss (stsL (runT [rs] [st]) M)) (gT (renR rs (stsL (runT [rs] [st]) M)) (renT ss (stsL (runT [rs] [st]) M)) t)) 0 → Q (.ref y) H'
section
variable {P : Program} {w : World} {K : PySem.W.Frag} {mg : Str → Option Value} {base : Heap}
abbrev nLe : List Str := ["self", "numbers", "state", "_", "rows", "led", "tells"]
theorem scLe : FnScope nLe ["self"] (defScope sMLeast) := ⟨rfl, rfl, rfl, by decide +kernel, rfl, by decide +kernel, by decide +kernel⟩
theorem ok_least {C f fR fS fA fN fI : Addr} {fd fdR fdS fdA fdN fdI : FuncData} {ds : List Value} (F : Fun K "least" "Machine.least" sMLeast f fd) (M : Tm K mg C) (T : Bt2 mg) (hset : mg "set" = none) (MR : Meth K C "reached" fR) (bR : Binds K fdR ["self"] []) (GR : FnOk P w K mg base CX0 3 fR fdR ["self"] (spReach K C))
    (DS : Df K mg "shrunk" sShrunk pAl fS fdS) (DA : Df K mg "alike" sAlike pAl fA fdA) (DN : Df K mg "numbered" sNum ["labels"] fN fdN) (MkI : Mk K C fI) (bI : Binds K fdI pInit ds) (vI : Vals [.int 0] ds) (GI : FnOk P w K mg base CX0 5 fI fdI pInit (spMInit K C)) : FnOk P w K mg base CX0 7 f fd ["self"] (spLeast K C) := by
  have GS : FnOk P w K mg base CX0 3 fS fdS pAl (spShrunk K) := ok_shrunk DS DA DN T hset
  refine F.ok scLe (fun vs H Q E h => ?_) (fun cdv A outer s H vs Q E hr h => ?_)
  · obtain ⟨x, ws, rs, ss, st, rfl, _⟩ := h
    rfl
  · obtain ⟨x, ws, rs, ss, st, rfl, mx, pt, k⟩ := h
    have hu := hu_of hr
    have hr3 : Room 3 _ := hr.mono (by decide)
    have hin : ∀ (s' : Shared) (H' : Hp) (C' : Addr) (cl' : List (Str × Addr)) (fp' : List Addr), PE (Cx.blk (cxOf CX0 P w K mg base nLe "Machine.least" (defScope sMLeast) f cdv A outer s H E).nox s' H' scLe0 (compEnvC scLe0 cl' C' (cxOf CX0 P w K mg base nLe "Machine.least" (defScope sMLeast) f cdv A outer s H E).nox.env) fp')
        (eltOf eLe) (tLc (iTup K (tOp (rIxT K) (tFld K (tVar 0) "rows") (tVar 2))) (gName 5) tYes (tDGet (tVar 1) (tVar 5)) [5]) := fun s' H' C' cl' fp' =>
      pe_lc (own := [("led", 5)]) (g := gName 5) (by rfl) scLe.nd (pi_tup (pe_ix (r := rIxT K) ix_tup (pe_fld (pv 0) rfl) (pv 2) (fun _ _ => rfl)))
          (blkOk_by (own := [("led", 5)]) (N := nLe) (sc := relS scLe0 (defScope sMLeast)) (by decide +kernel)) (fun _ _ _ _ _ => pg_name (i := 5) scLe.nd rfl (Or.inl rfl)) (fun _ _ _ _ _ => pts_nil)
          (fun _ _ _ _ _ => pe_dget hu (pv 1) (pv 5) (fun _ _ => rfl))
    have hin2 : ∀ (s' : Shared) (H' : Hp) (C' : Addr) (cl' : List (Str × Addr)) (fp' : List Addr), PE (Cx.blk (cxOf CX0 P w K mg base nLe "Machine.least" (defScope sMLeast) f cdv A outer s H E).nox s' H' scLe1 (compEnvC scLe1 cl' C' (cxOf CX0 P w K mg base nLe "Machine.least" (defScope sMLeast) f cdv A outer s H E).nox.env) fp')
        (eltOf eLe1) (tOp (rIxT K) (tFld K (tVar 0) "tells") (tVar 2)) := fun s' H' C' cl' fp' => pe_ix (r := rIxT K) ix_tup (pe_fld (pv 0) rfl) (pv 2) (fun _ _ => rfl)
    refine ⟨_, pss_cons (ps_set (i := 1) scLe.nd rfl (Or.inr rfl) pe_dnewK)
      (pss_cons (ps_for PassesOwn.never rfl (pi_list (pe_meth0 (pv 0) M.cl MR GR hr3 bR .nil pass0)) (pg_tup (by rfl) (pgs_cons (pg_name (i := 2) scLe.nd rfl (Or.inl rfl)) (pgs_cons (pg_name (i := 3) scLe.nd rfl (Or.inl rfl)) pgs_nil)))
        (pss_one (ps_dput hu (pv 1) (pv 2) (pe_callB call_lenD (by rfl) T.len PySem.boot_len (pa_cons (pv 1) pa_nil)) rfl)))
      (pss_cons (ps_lock (ps_setLc (i := 4) (own := [("state", 2)]) (g := gName 2) (by rfl) scLe.nd rfl rfl (sw_true rfl rfl rfl (by decide +kernel)) (pi_keys (pv 1))
          (blkOk_by (own := [("state", 2)]) (N := nLe) (sc := defScope sMLeast) (by decide +kernel)) (fun _ _ _ _ _ => pg_name (i := 2) scLe.nd rfl (Or.inl rfl)) (fun _ _ _ _ _ => pts_nil)
          hin))
      (pss_cons (ps_asg (pe_call GS hr3 rfl DS.g DS.F.kp DS.b .nil pass0 (pa_cons (pv 4) (pa_cons (pe_lock (pe_lc (own := [("state", 2)]) (g := gName 2) (by rfl) scLe.nd (pi_keys (pv 1))
            (blkOk_by (own := [("state", 2)]) (N := nLe) (sc := defScope sMLeast) (by decide +kernel)) (fun _ _ _ _ _ => pg_name (i := 2) scLe.nd rfl (Or.inl rfl)) (fun _ _ _ _ _ => pts_nil)
            hin2)) pa_nil)))
          (pg_tup (by rfl) (pgs_cons (pg_name (i := 4) scLe.nd rfl (Or.inl rfl)) (pgs_cons (pg_name (i := 6) scLe.nd rfl (Or.inl rfl)) pgs_nil))))
      (pss_one (ps_ret (pe_make MkI GI hr rfl M.mgC bI vI pass0 (pa_cons (pe_fld (pv 0) rfl) (pa_cons (pv 4) (pa_cons (pv 6) pa_nil))))))))), ?_⟩
    intro p hp
    have s1 := same_upd (o := .dK []) hp
    have ep1 : upd H p (.dK []) p = some (.dK (entI [])) := upd_same
    generalize upd H p (.dK []) = H1 at s1 ep1 ⊢
    obtain ⟨dx, tx, rx, lx, asx, gx1, gx2, gx3, gx4, gx5⟩ := id mx
    have h60 := pt.many.2
    refine ⟨_, rfl, x, dx, _, rfl, s1 _ _ gx1, mf_no _ _ _ _ (by decide +kernel) (by decide +kernel) (by decide +kernel) (by decide +kernel), x, ws, rs, ss, st, rfl, mx.same s1, pt, fun l H2 n ML eb hl s2 hre => ?_⟩
    have R := rch_of pt eb
    have k' := k
    clear k
    obtain ⟨ts, el, htl, hti⟩ := hre
    have ep2 := s2 _ _ ep1
    have s02 := s1.trans s2
    have kk : ∀ (y : Addr) (H' : Hp) (t : Nat) (sts : List Int), sts = stsL (runT [rs] [st]) ML → stepG (renR rs sts) (gT (renR rs sts) (renT ss sts) t) = gT (renR rs sts) (renT ss sts) t → H y = none → Same H H' →
        MachAt K C H' y ws ((shR (renR rs sts) (gT (renR rs sts) (renT ss sts) t)).map intL) (shT (renT ss sts) (gT (renR rs sts) (renT ss sts) t)) 0 → Q (.ref y) H' := fun y H' t sts e => by
      subst e
      exact k' y H' n t ML eb
    have hti2 : ∀ (i : Nat) (a : Addr), ts[i]? = some a → ∃ s q, (stsL (runT [rs] [st]) ML)[i]? = some s ∧ H2 a = some (.tup [.int s, .ref q]) := fun i a ea => by
      have hil : i < ML.length := by rw [← htl]; exact (List.getElem?_eq_some_iff.mp ea).1
      obtain ⟨q, g1, _⟩ := hti i a _ ea (List.getElem?_eq_getElem hil)
      exact ⟨_, q, by unfold stsL; rw [List.getElem?_map, List.getElem?_eq_getElem hil]; rfl, g1⟩
    have hstl : (stsL (runT [rs] [st]) ML).length = ts.length := by unfold stsL; rw [List.length_map, htl]
    generalize hsts : stsL (runT [rs] [st]) ML = sts at R kk hti2 hstl
    have npl : l ≠ p := ne_of el ep2 (by intro z; cases z)
    have slen := R.len
    refine ⟨l, rfl, ⟨_, SqL.of el⟩, for_list (K := K) (a := l) (xs := ts.map V.ref) (fun i σ H' => (∀ b o, b ≠ p → H2 b = some o → H' b = some o) ∧ H' p = some (.dK (entI (sts.take i))) ∧ ∃ v2 v3, σ = [some (.ref x), some (.ref p), v2, v3, none, none, none]) ⟨fun b o _ e => e, ep2, none, none, rfl⟩ (fun i σ H' _ q => SqL.of (q.1 _ _ npl el)) ?_ ?_⟩
    · rintro i y σ H3 hi ⟨kx, hp3, v2, v3, rfl⟩
      rw [List.getElem?_map] at hi
      obtain ⟨a, ea, rfl⟩ := Option.map_eq_some_iff.mp hi
      obtain ⟨s', q, es, ga⟩ := hti2 i a ea
      have hil := (List.getElem?_eq_some_iff.mp es).1
      have etk : sts.take (i + 1) = sts.take i ++ [s'] := by rw [List.take_add_one, es]; rfl
      have hno : s' ∉ sts.take i := by
        have h1 := R.nd
        have h2 : sts = sts.take i ++ s' :: sts.drop (i + 1) := by
          have e3 : sts[i] = s' := (List.getElem?_eq_some_iff.mp es).2
          rw [← e3, ← List.drop_eq_getElem_cons hil, List.take_append_drop]
        rw [h2] at h1
        intro hz
        exact (List.nodup_append.mp h1).2.2 _ hz _ (List.mem_cons_self ..) rfl
      have hnd : (sts.take i).Nodup := R.nd.sublist (List.take_sublist _ _)
      have ev := valV_entI hnd (z := s')
      rw [if_neg hno] at ev
      have ga3 := kx _ _ (ne_of ga ep2 (by intro z; cases z)) ga
      refine ⟨a, _, rfl, SqT.of ga3, rfl, _, _, rfl, _, _, rfl, rfl, ?_⟩
      refine ⟨_, rfl, p, _, rfl, hp3, _, rfl, _, rfl, p, _, rfl, DPut.k (k := Sum.inl s') hp3 (by rw [entI_len, List.length_take, sizeLine_eq]; omega), ?_⟩
      refine ⟨fun b o nb e => by rw [upd_ne nb]; exact kx b o nb e, ?_, _, _, rfl⟩
      rw [upd_same, putK_new _ ev, etk, entI_snoc, entI_len]
    · rintro σ H3 ⟨kx, hp3, v2, v3, rfl⟩
      rw [List.length_map, ← hstl, List.take_length] at hp3
      have nep : ∀ {b : Addr} {o : HO}, H b = some o → b ≠ p := fun e => ne_of_none e hp
      have s03 : Same H H3 := fun b o e => kx b o (nep e) (s02 _ _ e)
      have enti : ∀ {i : Nat} {key : Key} {v : V}, (entI sts)[i]? = some (key, v) → ∃ s', sts[i]? = some s' ∧ key = Sum.inl s' := fun {i key v} e => by
        unfold entI at e
        rw [List.getElem?_map] at e
        obtain ⟨j, ej, e2⟩ := Option.map_eq_some_iff.mp e
        have hil : i < sts.length := by
          have := (List.getElem?_eq_some_iff.mp ej).1
          rwa [List.length_range] at this
        rw [List.getElem?_range hil] at ej
        cases ej
        injection e2 with e2 _
        exact ⟨sts.getD i 0, by rw [List.getD_eq_getElem?_getD, List.getElem?_eq_getElem hil]; rfl, e2.symm⟩
      have hrow : ∀ {G : Hp}, Same H G → ∀ {s' : Int}, s' ∈ sts → ∃ a, atI (asx.map V.ref) s' = some (.ref a) ∧ G a = some (.tup ((rs.getD s'.toNat []).map V.int)) := fun {G} sG {s'} hs => by
        obtain ⟨h0, h1⟩ := R.rg s' hs
        have h2 : s'.toNat < rs.length := by omega
        have h3 : s'.toNat < asx.length := by rw [gx4.1]; exact h2
        have es : ((s'.toNat : Nat) : Int) = s' := by omega
        have hai := List.getElem?_eq_getElem h3
        generalize asx[s'.toNat] = ai at hai
        have e9 : atI (asx.map V.ref) ((s'.toNat : Nat) : Int) = some (.ref ai) := atI_nat (by rw [List.getElem?_map, hai]; rfl)
        rw [es] at e9
        exact ⟨ai, e9, sG _ _ (gx4.2 _ _ _ hai (getD_get ([] : List Int) h2))⟩
      -- rows
      refine ⟨p, .dK (entI sts), hp3, trivial, fun od => ?_⟩
      have ef : upd H3 p (.frz od (.dK (entI sts))) p = some (.frz od (.dK (entI sts))) := upd_same
      have sf : Same H (upd H3 p (.frz od (.dK (entI sts)))) := fun b o e => by rw [upd_ne (nep e)]; exact s03 _ _ e
      generalize upd H3 p (.frz od (.dK (entI sts))) = Hf at ef sf ⊢
      refine ⟨_, rfl, p, od, rfl, .inl ⟨entI sts, ef, fun D hD => ?_⟩⟩
      refine lc_it (walk_keys (d := p) (o := od) (kvs := entI sts)) (fun i H' => Same Hf H' ∧ ∃ bs : List Addr, bs.length = i ∧ H' D = some (.lst (bs.map V.ref)) ∧ (∀ b ∈ bs, b ≠ D) ∧ RowsAt H' bs (((renR rs sts).take i).map intL)) ?_ ?_ ?_ ?_
      · exact ⟨same_upd hD, [], rfl, upd_same, (fun b h => nomatch h), by simp, fun j b r e => by simp at e⟩
      · exact fun i H' _ q => q.1 _ _ ef
      · rintro i y H4a H4 hi ⟨s4, bs, hbs, hD4, hbD, hRb⟩ ⟨rfl, key, v, hkv, rfl⟩
        obtain ⟨s', es, rfl⟩ := enti hkv
        have hsm := List.mem_of_getElem? es
        have sH := sf.trans s4
        obtain ⟨a, hat, ea⟩ := hrow sH hsm
        have hil := (List.getElem?_eq_some_iff.mp es).1
        have hrb := (R.cl s' hsm)
        have ern : (renR rs sts)[i]? = some ((rs.getD s'.toNat []).map fun x => sts.idxOf x) := by unfold renR; rw [List.getElem?_map, es]; rfl
        have hrl : (rs.getD s'.toNat []).length = ws.length := by
          obtain ⟨h0, h1⟩ := R.rg s' hsm
          exact (pt.row _ (List.mem_of_getElem? (getD_get ([] : List Int) (by omega)))).1
        have w6 := pt.gd.len.2
        generalize rs.getD s'.toNat [] = row at hat ea hrb ern hrl
        refine ⟨rfl, _, rfl, x, C, dx, _, _, rfl, sH _ _ gx1, M.cl, M.nR, mf_rows _ _ _ _, _, rfl, rx, _, s', _, rfl, rfl, SqT.of (sH _ _ gx3), hat, a, rfl, ⟨_, SqT.of ea⟩, fun D2 hD2 => ?_⟩
        refine lc_tup (K := K) (a := a) (xs := row.map V.int) (fun j H' => Same H4 H' ∧ H' D2 = some (.lst (numV ((row.map fun x => sts.idxOf x).take j)))) ?_ ?_ ?_ ?_
        · exact ⟨same_upd hD2, upd_same⟩
        · exact fun j H' _ q => SqT.of (q.1 _ _ ea)
        · rintro j y H5 hj ⟨s5, hD5⟩
          rw [List.getElem?_map] at hj
          obtain ⟨z, ez, rfl⟩ := Option.map_eq_some_iff.mp hj
          have hz := hrb z (List.mem_of_getElem? ez)
          have ev := valV_entI R.nd (z := z)
          rw [if_pos hz] at ev
          refine ⟨rfl, _, rfl, _, rfl, p, V.int (sts.idxOf z : Nat), rfl, by rw [← ev]; exact DGet.kR (k := Sum.inl z) (.inr ⟨od, s5 _ _ (s4 _ _ ef)⟩), ?_⟩
          refine ⟨_, hD5, ?_, fun b o e => by rw [upd_ne (ne_of_none e hD2)]; exact s5 b o e, ?_⟩
          · unfold numV; rw [List.length_map, List.length_take, List.length_map, sizeLine_eq]; omega
          · have en : (row.map fun x => sts.idxOf x)[j]? = some (sts.idxOf z) := by rw [List.getElem?_map, ez]; rfl
            rw [upd_same, List.take_add_one, en]
            unfold numV
            rw [List.map_append]; rfl
        · rintro H5 ⟨s5, hD5⟩
          have elen : (row.map V.int).length = (row.map fun x => sts.idxOf x).length := by rw [List.length_map, List.length_map]
          rw [elen, List.take_length] at hD5
          have nDD : D2 ≠ D := (ne_of_none hD4 hD2).symm
          refine ⟨_, s5 _ _ hD4, ?_, fun c o e => by rw [upd_ne (ne_of_none e hD)]; exact s5 _ _ (s4 _ _ e), bs ++ [D2], by simp [hbs], by rw [upd_same]; simp, fun b hb => ?_, ?_⟩
          · rw [List.length_map, hbs, sizeLine_eq]; omega
          · rcases List.mem_append.mp hb with z | z
            · exact hbD b z
            · rw [List.mem_singleton.mp z]; exact nDD
          · rw [List.take_add_one, ern]
            have e7 : RowsAt H5 (bs ++ [D2]) ((((renR rs sts).take i).map intL) ++ [intL (row.map fun x => sts.idxOf x)]) := (hRb.same s5).snoc (by rw [← numV_int]; exact hD5)
            have e8 : ((renR rs sts).take i ++ (some (row.map fun x => sts.idxOf x)).toList).map intL = ((renR rs sts).take i).map intL ++ [intL (row.map fun x => sts.idxOf x)] := by rw [List.map_append]; rfl
            rw [e8]
            refine ⟨e7.1, fun j c q f1 f2 => ?_⟩
            have hc : c ≠ D := by
              rcases List.mem_append.mp (List.mem_of_getElem? f1) with z | z
              · exact hbD c z
              · rw [List.mem_singleton.mp z]; exact nDD
            rw [upd_ne hc]
            exact e7.2 j c q f1 f2
      · rintro H4 ⟨s4, bs, hbs, hD4, hbD, hRb⟩
        have eal : (renR rs sts).take (entI sts).length = renR rs sts := by
          rw [entI_len, ← show (renR rs sts).length = sts.length from List.length_map _, List.take_length]
        rw [eal] at hRb
        have ef4 := s4 _ _ ef
        refine ⟨ef4, ?_⟩
        have s05 : Same H (upd H4 p (.dK (entI sts))) := fun b o e => by rw [upd_ne (nep e)]; exact s4 _ _ (sf _ _ e)
        have ep5 : upd H4 p (.dK (entI sts)) p = some (.dK (entI sts)) := upd_same
        have nDp : D ≠ p := (ne_of_none ef hD).symm
        have hD5 : upd H4 p (.dK (entI sts)) D = some (.lst (bs.map V.ref)) := by rw [upd_ne nDp]; exact hD4
        have hR5 : RowsAt (upd H4 p (.dK (entI sts))) bs ((renR rs sts).map intL) := ⟨hRb.1, fun j c q f1 f2 => by have := hRb.2 j c q f1 f2; rw [upd_ne (ne_of this ef4 (by intro z; cases z))]; exact this⟩
        generalize upd H4 p (.dK (entI sts)) = H5 at s05 ep5 hD5 hR5 ⊢
        -- tells
        refine ⟨_, rfl, p, .dK (entI sts), ep5, trivial, fun od2 => ?_⟩
        have ef6 : upd H5 p (.frz od2 (.dK (entI sts))) p = some (.frz od2 (.dK (entI sts))) := upd_same
        have kx6 : ∀ b o, b ≠ p → H5 b = some o → upd H5 p (.frz od2 (.dK (entI sts))) b = some o := fun b o nb e => by rw [upd_ne nb]; exact e
        generalize upd H5 p (.frz od2 (.dK (entI sts))) = H6 at ef6 kx6 ⊢
        have s06 : Same H H6 := fun b o e => kx6 _ _ (nep e) (s05 _ _ e)
        refine ⟨_, rfl, p, od2, rfl, .inl ⟨entI sts, ef6, fun D' hD' => ?_⟩⟩
        refine lc_it (walk_keys (d := p) (o := od2) (kvs := entI sts)) (fun i H' => Same H6 H' ∧ H' D' = some (.lst (((renT ss sts).take i).map V.str))) ?_ ?_ ?_ ?_
        · exact ⟨same_upd hD', upd_same⟩
        · exact fun i H' _ q => q.1 _ _ ef6
        · rintro i y H7 H8 hi ⟨s7, hD7⟩ ⟨rfl, key, v, hkv, rfl⟩
          obtain ⟨s', es, rfl⟩ := enti hkv
          have hsm := List.mem_of_getElem? es
          have hil := (List.getElem?_eq_some_iff.mp es).1
          have sH := s06.trans s7
          obtain ⟨h0, h1⟩ := R.rg s' hsm
          have ert : (renT ss sts)[i]? = some (ss.getD s'.toNat "") := by unfold renT; rw [List.getElem?_map, es]; rfl
          refine ⟨rfl, _, rfl, x, C, dx, _, _, rfl, sH _ _ gx1, M.cl, M.nT, mf_tells _ _ _ _, _, rfl, lx, _, s', _, rfl, rfl, SqT.of (sH _ _ gx5), at_deed h0 (by rw [pt.tl.1]; exact h1), ?_⟩
          refine ⟨_, hD7, ?_, fun b o e => by rw [upd_ne (ne_of_none e hD')]; exact s7 b o e, ?_⟩
          · rw [List.length_map, List.length_take, sizeLine_eq]; omega
          · rw [upd_same, List.take_add_one, ert, List.map_append]; rfl
        · rintro H7 ⟨s7, hD7⟩
          have eal2 : (renT ss sts).take (entI sts).length = renT ss sts := by
            rw [entI_len, ← show (renT ss sts).length = sts.length from List.length_map _, List.take_length]
          rw [eal2] at hD7
          have ef7 := s7 _ _ ef6
          refine ⟨ef7, ?_⟩
          have nDp' : D' ≠ p := (ne_of_none ef6 hD').symm
          have s08 : Same H (upd H7 p (.dK (entI sts))) := fun b o e => by rw [upd_ne (nep e)]; exact s7 _ _ (s06 _ _ e)
          have hD8 : upd H7 p (.dK (entI sts)) D = some (.lst (bs.map V.ref)) := by rw [upd_ne nDp]; exact s7 _ _ (kx6 _ _ nDp hD5)
          have hD8' : upd H7 p (.dK (entI sts)) D' = some (.lst ((renT ss sts).map V.str)) := by rw [upd_ne nDp']; exact hD7
          have hR8 : RowsAt (upd H7 p (.dK (entI sts))) bs ((renR rs sts).map intL) := ⟨hR5.1, fun j c q f1 f2 => by have h1 := hR5.2 j c q f1 f2; have nc := ne_of h1 ep5 (by intro z; cases z); rw [upd_ne nc]; exact s7 _ _ (kx6 _ _ nc h1)⟩
          generalize upd H7 p (.dK (entI sts)) = H8 at s08 hD8 hD8' hR8 ⊢
          have hrl : (renR rs sts).length = sts.length := List.length_map _
          have hzl : (renT ss sts).length = (renR rs sts).length := by unfold renT renR; rw [List.length_map, List.length_map]
          refine ⟨D, D', bs, renR rs sts, renT ss sts, rfl, SqL.of hD8, hR8, SqL.of hD8', hzl, by omega, fun q hq => ?_, fun p' r' t' bs' H9 t s9 hfin ep' hr' ht' er eR et => ?_⟩
          · unfold renR at hq
            obtain ⟨s', hs', rfl⟩ := List.mem_map.mp hq
            obtain ⟨h0, h1⟩ := R.rg s' hs'
            have hrow' := (pt.row _ (List.mem_of_getElem? (getD_get ([] : List Int) (xs := rs) (n := s'.toNat) (by omega)))).1
            have w6 := pt.gd.len.2
            refine ⟨by rw [List.length_map]; omega, fun kq hkq => ?_⟩
            obtain ⟨z, hz, rfl⟩ := List.mem_map.mp hkq
            rw [hrl]
            exact List.idxOf_lt_length_of_mem (R.cl s' hs' z hz)
          refine ⟨p', _, rfl, SqT.of ep', rfl, _, _, rfl, _, _, rfl, rfl, ?_⟩
          have s09 := s08.trans s9
          refine ⟨_, rfl, x, C, dx, _, _, rfl, s09 _ _ gx1, M.cl, M.nD, mf_deeds _ _ _ _, _, rfl, _, rfl, ?_⟩
          (try delta tNil)
          intro y dy hy hdy ndy
          have zy : H y = none := s09.free hy
          have s10 : Same H9 (upd (upd H9 dy (.own y)) y (.ins C dy [])) := fun b o e => by rw [upd_ne (ne_of_none e hy), upd_ne (ne_of_none e hdy)]; exact e
          refine ⟨y, dy, tx, r', t', bs', ws, _, _, 0, rfl, upd_same, .inl (gx2.same (s09.trans s10)), SqL.of (s10 _ _ er), eR.same s10, SqL.of (s10 _ _ et), parts_least pt R t, fun H' hm hk => ⟨rfl, ?_⟩⟩
          exact kk y H' t sts rfl hfin zy (fun b o e => hk b o (s10 _ _ (s09 _ _ e)) (ne_of_none e zy)) hm
end
end K1
set_option Elab.async false
set_option linter.all false
set_option maxRecDepth 100000
/-! the fixed point: two states have one number if and only if no word tells them apart -/
namespace K1
open PySem L2 LamX
theorem getD_lt {l : List Nat} {k : Nat} (h : k < l.length) : l[k] = l.getD k 0 := by rw [List.getD_eq_getElem?_getD, List.getElem?_eq_getElem h]; rfl
/-- a word run -/
def lN (rs : List (List Nat)) (v : List Nat) (s : Nat) : Nat := v.foldl (fun s k => (rs.getD s []).getD k 0) s
/-- rows of one width, in range -/
structure NOk' (w : Nat) (rs : List (List Nat)) : Prop where
  row : ∀ r ∈ rs, r.length = w ∧ ∀ k ∈ r, k < rs.length
section
variable {w : Nat} {rs : List (List Nat)} {zs : List Str}
theorem NOk'.at (h : NOk' w rs) {s : Nat} (hs : s < rs.length) : (rs.getD s []).length = w ∧ ∀ k ∈ rs.getD s [], k < rs.length := h.row _ (List.mem_of_getElem? (getD_get ([] : List Nat) hs))
theorem NOk'.step (h : NOk' w rs) {s k : Nat} (hs : s < rs.length) (hk : k < w) : (rs.getD s []).getD k 0 < rs.length := by
  obtain ⟨h1, h2⟩ := h.at hs
  exact h2 _ (List.mem_of_getElem? (getD_get (0 : Nat) (by omega)))
theorem NOk'.run (h : NOk' w rs) : ∀ (v : List Nat) {s : Nat}, s < rs.length → (∀ k ∈ v, k < w) → lN rs v s < rs.length
  | [], _, hs, _ => hs
  | k :: v, s, hs, hv => h.run v (h.step hs (hv k (List.mem_cons_self ..))) fun j hj => hv j (List.mem_cons_of_mem _ hj)
theorem pairL_get {g : List Nat} {s : Nat} (hs : s < rs.length) : (pairL rs g)[s]? = some (g.getD s 0, (rs.getD s []).map fun k => g.getD k 0) := by
  unfold pairL
  rw [List.getElem?_map, List.getElem?_range hs]; rfl
/-- one step back -/
theorem stepG_eq {g : List Nat} {s s' : Nat} (hs : s < rs.length) (hs' : s' < rs.length) : (stepG rs g).getD s 0 = (stepG rs g).getD s' 0 ↔ (g.getD s 0 = g.getD s' 0 ∧ (rs.getD s []).map (fun k => g.getD k 0) = (rs.getD s' []).map fun k => g.getD k 0) := by
  have l1 := stepG_len rs g
  have e1 : (stepG rs g)[s]? = some ((stepG rs g).getD s 0) := getD_get (0 : Nat) (by omega)
  have e2 : (stepG rs g)[s']? = some ((stepG rs g).getD s' 0) := getD_get (0 : Nat) (by omega)
  have := num_eq (l := pairL rs g) e1 e2
  rw [this, pairL_get hs, pairL_get hs']
  constructor
  · intro e
    have := Option.some.inj e
    exact ⟨congrArg Prod.fst this, congrArg Prod.snd this⟩
  · rintro ⟨h1, h2⟩; rw [h1, h2]
theorem gT0_eq (hz : zs.length = rs.length) {s s' : Nat} (hs : s < rs.length) (hs' : s' < rs.length) : (gT rs zs 0).getD s 0 = (gT rs zs 0).getD s' 0 ↔ zs.getD s "" = zs.getD s' "" := by
  have l1 := gT_len hz 0
  have e1 : (num zs)[s]? = some ((gT rs zs 0).getD s 0) := getD_get (0 : Nat) (xs := gT rs zs 0) (by omega)
  have e2 : (num zs)[s']? = some ((gT rs zs 0).getD s' 0) := getD_get (0 : Nat) (xs := gT rs zs 0) (by omega)
  rw [num_eq (l := zs) e1 e2, getD_get ("" : Str) (xs := zs) (n := s) (by omega), getD_get ("" : Str) (xs := zs) (n := s') (by omega)]
  constructor
  · exact fun e => Option.some.inj e
  · intro e; rw [e]
theorem gT_tells (hz : zs.length = rs.length) {s s' : Nat} (hs : s < rs.length) (hs' : s' < rs.length) : ∀ t, (gT rs zs t).getD s 0 = (gT rs zs t).getD s' 0 → zs.getD s "" = zs.getD s' ""
  | 0, h => (gT0_eq hz hs hs').mp h
  | t + 1, h => gT_tells hz hs hs' t ((stepG_eq hs hs').mp h).1
/-- at the fixed point, one number: no word tells apart -/
theorem fix_run (ok : NOk' w rs) {g : List Nat} (hf : stepG rs g = g) : ∀ (v : List Nat) {s s' : Nat}, s < rs.length → s' < rs.length → (∀ k ∈ v, k < w) → g.getD s 0 = g.getD s' 0 → g.getD (lN rs v s) 0 = g.getD (lN rs v s') 0
  | [], _, _, _, _, _, h => h
  | k :: v, s, s', hs, hs', hv, h => by
    have hk := hv k (List.mem_cons_self ..)
    have h1 : (stepG rs g).getD s 0 = (stepG rs g).getD s' 0 := by rw [hf]; exact h
    obtain ⟨_, h2⟩ := (stepG_eq hs hs').mp h1
    have a1 := (ok.at hs).1
    have a2 := (ok.at hs').1
    have h3 := congrArg (fun l => l[k]?) h2
    simp only [List.getElem?_map] at h3
    rw [getD_get (0 : Nat) (xs := rs.getD s []) (n := k) (by omega), getD_get (0 : Nat) (xs := rs.getD s' []) (n := k) (by omega)] at h3
    exact fix_run ok hf v (ok.step hs hk) (ok.step hs' hk) (fun j hj => hv j (List.mem_cons_of_mem _ hj)) (Option.some.inj h3)
/-- no word tells them apart: one number, at each step -/
theorem gT_of (ok : NOk' w rs) (hz : zs.length = rs.length) : ∀ (t : Nat) {s s' : Nat}, s < rs.length → s' < rs.length → (∀ v : List Nat, (∀ k ∈ v, k < w) → zs.getD (lN rs v s) "" = zs.getD (lN rs v s') "") → (gT rs zs t).getD s 0 = (gT rs zs t).getD s' 0
  | 0, s, s', hs, hs', h => (gT0_eq hz hs hs').mpr (h [] (fun k hk => nomatch hk))
  | t + 1, s, s', hs, hs', h => by
    refine (stepG_eq hs hs').mpr ⟨gT_of ok hz t hs hs' h, ?_⟩
    obtain ⟨a1, _⟩ := ok.at hs
    obtain ⟨a2, _⟩ := ok.at hs'
    refine List.ext_getElem (by rw [List.length_map, List.length_map, a1, a2]) fun k h1 h2 => ?_
    rw [List.length_map] at h1 h2
    rw [List.getElem_map, List.getElem_map]
    have hk : k < w := by omega
    have e1 := getD_lt h1
    have e2 := getD_lt h2
    rw [e1, e2]
    refine gT_of ok hz t (ok.step hs hk) (ok.step hs' hk) fun v hv => ?_
    exact h (k :: v) fun j hj => by
      rcases List.mem_cons.mp hj with rfl | hj
      · exact hk
      · exact hv j hj
/-- the fixed point's numbers -/
theorem fix_iff (ok : NOk' w rs) (hz : zs.length = rs.length) {t : Nat} (hf : stepG rs (gT rs zs t) = gT rs zs t) {s s' : Nat} (hs : s < rs.length) (hs' : s' < rs.length) :
    (gT rs zs t).getD s 0 = (gT rs zs t).getD s' 0 ↔ ∀ v : List Nat, (∀ k ∈ v, k < w) → zs.getD (lN rs v s) "" = zs.getD (lN rs v s') "" :=
  ⟨fun h v hv => gT_tells hz (ok.run v hs hv) (ok.run v hs' hv) t (fix_run ok hf v hs hs' hv h), gT_of ok hz t hs hs'⟩
end
end K1
set_option Elab.async false
set_option linter.all false
set_option maxRecDepth 100000
set_option maxHeartbeats 4000000
/-! a tuple taken no time, or once: t * 0, t * 1 -/
namespace L2
open PySem PySem.Spec PyProof.Rows
theorem tuple_mul0 (l : Addr) (items : Array Value) (n : Nat) (dd : Option Addr) (sl : Array (Option Value)) (u : Tok) (hi : items.isEmpty = false) :
    Meets (Builtin.«tuple.__mul__» ⟨[.ref l, .int 0 u], []⟩) (fun _ R s => s.heap.get? l = some { cls := .type "tuple", dict := dd, data := .seq items n, slots := sl } ∧
      R (.ok (.ret (Value.ref s.heap.objs.size))) { s with heap := s.heap.push { cls := Value.type "tuple", data := Data.seq #[] }, toks := s.toks }) :=
  .of_wp fun prog w A R s h => by
    obtain ⟨hp, g, d, tk, os⟩ := s
    obtain ⟨hl, h⟩ := h
    have f1 := AutoSeq1.idx_int
    have c1 : (items.isEmpty || (0 : Int) == 1) = false := by rw [hi]; rfl
    wp_walk using wpAny_loadPart' hl
    repeat (first
      | (refine wpAny_ite_false (decide_eq_false (by decide)) ?_; wp_walk using wpAny_loadPart' hl)
      | (refine wpAny_ite_false (decide_eq_false (by rw [c1]; exact Bool.false_ne_true)) ?_; wp_walk using wpAny_loadPart' hl)
      | (refine wpAny_ite_true (decide_eq_true (by rfl)) ?_; wp_walk using wpAny_loadPart' hl))
    exact ⟨_, rfl, h⟩
theorem tuple_mul1 (l : Addr) (items : Array Value) (n : Nat) (dd : Option Addr) (sl : Array (Option Value)) (u : Tok) :
    Meets (Builtin.«tuple.__mul__» ⟨[.ref l, .int 1 u], []⟩) (fun _ R s => s.heap.get? l = some { cls := .type "tuple", dict := dd, data := .seq items n, slots := sl } ∧
      R (.ok (.ret (Value.ref l))) s) :=
  .of_wp fun prog w A R s h => by
    obtain ⟨hp, g, d, tk, os⟩ := s
    obtain ⟨hl, h⟩ := h
    have f1 := AutoSeq1.idx_int
    wp_walk using wpAny_loadPart' hl
    exact ⟨_, rfl, h⟩
def rRepA (K : PySem.W.Frag) : R2 := fun x y H Q => ∃ (l : Addr) (k : Nat) (xs : List V), x = .ref l ∧ y = .int (k : Int) ∧ SqT K H l xs ∧ xs ≠ [] ∧ k ≤ 1000 ∧ xs.length ≤ 1000 ∧ (k = 0 → ∀ p, H p = none → Q (.ref p) (upd H p (.tup []))) ∧ (k = 1 → Q (.ref l) H) ∧
  (2 ≤ k → ∀ p, H p = none → Q (.ref p) (upd H p (.tup (List.replicate k xs).flatten)))
section
variable {X : Cx}
theorem op_repA : OpR X (binaryOp .Mult) (rRepA X.K) := by
  intro pins s σ H x y v u Q I rx ry h
  obtain ⟨l, k, xs, rfl, rfl, hT, hne, h2, hz, q0, q1, q2⟩ := h
  by_cases hk : 2 ≤ k
  · exact op_repT pins s σ H (.ref l) (.int (k : Int)) v u Q I rx ry ⟨l, (k : Int), xs, rfl, rfl, hT, hne, by omega, by omega, hz, fun p hp => by rw [Int.toNat_natCast]; exact q2 hk p hp⟩
  cases rx
  obtain ⟨t, rfl⟩ := ry
  obtain ⟨its, r, ⟨⟨cls, dd, data, sl⟩, ho, hc, n, hd⟩, hs⟩ := I.tuple hT
  simp only at hc hd
  subst hc hd
  have hle : its.length = xs.length := r.length.symm
  have hn : its ≠ [] := fun e => hne (by
    rw [e] at hle
    exact List.eq_nil_of_length_eq_zero hle.symm)
  have hi : its.toArray.isEmpty = false := by
    cases its with
    | nil => exact absurd rfl hn
    | cons a b => rfl
  obtain rfl | rfl : k = 0 ∨ k = 1 := by omega
  · refine wpAny_binaryOp_repeat_ref (T := "tuple") (U := "int") (by decide) ⟨_, ho, rfl⟩ (fun s' => typeIs_int s' _ t) noFill_tuple_mul F.fills_int_mul F.slot_int_rmul repeat_tuple F.slot_int_index.lookup
      (call_meets F.slot_int_rmul (typeIs_int s _ t) F.entry_int_rmul (F.args_int_rmul_2 _ _) (int_rmul_tuple _ t l its.toArray n dd sl)
        ⟨ho, rfl, ⟨_, ho, rfl⟩, call_meets F.slot_tuple_mul ⟨_, ho, rfl⟩ F.entry_tuple_mul (F.args_tuple_mul_2 _ _) (tuple_mul0 l its.toArray n dd sl t hi) ⟨ho, ?_⟩⟩)
    refine ⟨.ref s.heap.objs.size, _, I.laid (t' := s.toks) (o := .tup []) (fun b ob q => Heap.get?_push_of_some _ q) (Nat.le_refl _) ?_, rfl, q0 rfl _ (I.hok.fresh (Nat.le_refl _))⟩
    exact ⟨Nat.zero_le _, [], .nil, IsTup.new _ _⟩
  · refine wpAny_binaryOp_repeat_ref (T := "tuple") (U := "int") (by decide) ⟨_, ho, rfl⟩ (fun s' => typeIs_int s' _ t) noFill_tuple_mul F.fills_int_mul F.slot_int_rmul repeat_tuple F.slot_int_index.lookup
      (call_meets F.slot_int_rmul (typeIs_int s _ t) F.entry_int_rmul (F.args_int_rmul_2 _ _) (int_rmul_tuple _ t l its.toArray n dd sl)
        ⟨ho, rfl, ⟨_, ho, rfl⟩, call_meets F.slot_tuple_mul ⟨_, ho, rfl⟩ F.entry_tuple_mul (F.args_tuple_mul_2 _ _) (tuple_mul1 l its.toArray n dd sl t) ⟨ho, ?_⟩⟩)
    exact ⟨.ref l, H, I, rfl, q1 rfl⟩
end
end L2
set_option Elab.async false
set_option linter.all false
set_option maxRecDepth 100000
/-! the law's own rows: named, led -/
namespace K1
open PySem L2
theorem PlainAt.same {H H' : Hp} {p : Addr} {ws : List Str} {rs : List (List Int)} {ss : List Str} {st : Int} (h : PlainAt H p ws rs ss st) (s : Same H H') : PlainAt H' p ws rs ss st := by
  obtain ⟨t, r, l, as, h1, h2, h3, h4, h5⟩ := h
  exact ⟨t, r, l, as, s _ _ h1, h2.same s, s _ _ h3, s _ _ h4, h5.same s⟩
theorem nm_mem {ws : List Str} {ks : List Int} (h : Ix ws.length ks) : ∀ z ∈ nm ws ks, z ∈ ws := fun z hz => by
  obtain ⟨k, hk, rfl⟩ := List.mem_map.mp hz
  obtain ⟨h0, h1⟩ := h k hk
  have hl : k.toNat < ws.length := by omega
  rw [List.getD_eq_getElem?_getD, List.getElem?_eq_getElem hl]
  exact List.getElem_mem hl
abbrev sLed : Stmt := top 48
section
variable {P : Program} {w : World} {K : PySem.W.Frag} {mg : Str → Option Value} {base : Heap}
def spLed (K : PySem.W.Frag) : Sp := fun vs H Q _ => ∃ (p q : Addr) (s0 : Int) (ws : List Str) (rs : List (List Int)) (ss : List Str) (st : Int) (ks : List Int), vs = [.ref p, .ref q, .int s0] ∧ PlainAt H p ws rs ss st ∧ Parts ws rs ss st ∧ SqT K H q (ks.map V.int) ∧ Ix ws.length ks ∧ 0 ≤ s0 ∧ s0 < (rs.length : Int) ∧
  ∀ H', Same H H' → Q (.int (led rs ks s0)) H'
abbrev pLed : List Str := ["_law_plain_here", "_law_row", "_law_spot"]
abbrev nLed : List Str := ["_law_plain_here", "_law_row", "_law_spot", "_law_k"]
theorem scLed : FnScope nLed pLed (defScope sLed) := ⟨rfl, rfl, rfl, by decide +kernel, rfl, by decide +kernel, by decide +kernel⟩
theorem ok_led {f : Addr} {fd : FuncData} (D : Df K mg "_law_led" sLed pLed f fd) : FnOk P w K mg base CX0 1 f fd pLed (spLed K) := by
  refine D.F.ok scLed (fun vs H Q E h => ?_) (fun cdv A outer s H vs Q E hr h => ?_)
  · obtain ⟨p, q, s0, ws, rs, ss, st, ks, rfl, _⟩ := h
    rfl
  · obtain ⟨p, q, s0, ws, rs, ss, st, ks, rfl, hp, pt, hq, hix, h0, h1, k⟩ := h
    have hu := hu_of hr
    refine ⟨_, pss_cons (ps_for PassesOwn.never rfl (pi_tup (pv 1)) (pg_name (i := 3) scLed.nd rfl (Or.inl rfl))
        (pss_one (ps_set (i := 2) scLed.nd rfl (Or.inl rfl) (pe_ix ix_list (pe_ix ix_list (pe_dget hu (pv 0) pe_str (fun _ _ => rfl)) (pv 2) (fun _ _ => rfl)) (pv 3) (fun _ _ => rfl)))))
      (pss_one (ps_ret (pv 2))), ?_⟩
    obtain ⟨t, r, l, as, ep, et, er, el, hR⟩ := id hp
    refine ⟨_, rfl, q, rfl, ⟨_, hq⟩, for_tup (K := K) (a := q) (xs := ks.map V.int) (fun i σ H' => Same H H' ∧ ∃ v3, σ = [some (.ref p), some (.ref q), some (.int (led rs (ks.take i) s0)), v3]) ⟨Same.refl H, none, rfl⟩ (fun i σ H' _ p => hq.ext p.1) ?_ ?_⟩
    · rintro i y σ H1 hi ⟨sm, v3, rfl⟩
      rw [List.getElem?_map] at hi
      obtain ⟨j, ej, rfl⟩ := Option.map_eq_some_iff.mp hi
      obtain ⟨j0, j1⟩ := hix j (List.mem_of_getElem? ej)
      have hl0 := pt.led (hix.take i) h0 h1
      obtain ⟨row, eq, hql, hst, hb0, hb1⟩ := pt.stp hl0.1 hl0.2 j0 j1
      have hlen : as.length = rs.length := hR.1
      obtain ⟨ra, era, eat⟩ := at_ref (as := as) hl0.1 (by rw [hlen]; exact hl0.2)
      have hra := sm _ _ (hR.2 _ _ _ era eq)
      refine ⟨_, rfl, p, _, rfl, gRows (sm _ _ ep), _, rfl, r, _, _, _, rfl, rfl, SqL.of (sm _ _ er), eat, _, rfl, ra, _, _, _, rfl, rfl, SqL.of hra, at_int j0 (by omega), sm, some (.int j), ?_⟩
      have e : ks.take (i + 1) = ks.take i ++ [j] := by rw [List.take_add_one, ej]; rfl
      rw [e, led_snoc, hst]
      rfl
    · rintro σ H1 ⟨sm, v3, rfl⟩
      rw [List.length_map, List.take_length]
      exact ⟨_, rfl, k H1 sm⟩
end
end K1
set_option Elab.async false
set_option linter.all false
set_option maxRecDepth 100000
/-! the law's own rows, in their order -/
namespace K1
open PySem L2 LamX
/-- tuple + tuple: some tuple -/
theorem catA_any {K : PySem.W.Frag} {H : Hp} {Q : VK} {a b : Addr} {xs ys : List V} (ha : SqT K H a xs) (hb : SqT K H b ys) (hz : xs.length + ys.length ≤ 1000) (k : ∀ p H', SqT K H' p (xs ++ ys) → Same H H' → Q (.ref p) H') : rCatA K (.ref a) (.ref b) H Q := by
  refine ⟨a, b, xs, ys, rfl, rfl, ha, hb, Nat.le_of_lt (small1000 hz), fun e => ?_, fun _ e => ?_, fun _ _ p hp => k p _ (SqT.of upd_same) (same_upd hp)⟩
  · exact k b H (by rw [e, List.nil_append]; exact hb) (Same.refl H)
  · exact k a H (by rw [e, List.append_nil]; exact ha) (Same.refl H)
theorem small2 {n : Nat} (h : n ≤ 900) : n ≤ sizeLine := Nat.le_of_lt (small1000 (by omega))
def toI (u : List Nat) : List Int := u.map fun (k : Nat) => (k : Int)
theorem toI_snoc (u : List Nat) (k : Nat) : toI (u ++ [k]) = toI u ++ [(k : Int)] := by simp [toI]
def RowsQ (K : PySem.W.Frag) (H : Hp) (as : List Addr) (us : List (List Nat)) : Prop := as.length = us.length ∧ ∀ (i : Nat) (a : Addr) (u : List Nat), as[i]? = some a → us[i]? = some u → SqT K H a ((toI u).map V.int)
theorem RowsQ.same {K : PySem.W.Frag} {H H' : Hp} {as : List Addr} {us : List (List Nat)} (h : RowsQ K H as us) (s : Same H H') : RowsQ K H' as us := ⟨h.1, fun i a u e1 e2 => (h.2 i a u e1 e2).ext s⟩
theorem RowsQ.updL {K : PySem.W.Frag} {H : Hp} {as : List Addr} {us : List (List Nat)} {D : Addr} {xs ys : List V} (h : RowsQ K H as us) (hD : H D = some (.lst xs)) : RowsQ K (upd H D (.lst ys)) as us := ⟨h.1, fun i a u e1 e2 => by
  rcases h.2 i a u e1 e2 with (z | ⟨o, z⟩) | z
  · exact .inl (.inl (by rw [upd_ne (ne_of z hD (by intro q; cases q))]; exact z))
  · exact .inl (.inr ⟨o, by rw [upd_ne (ne_of z hD (by intro q; cases q))]; exact z⟩)
  · exact .inr z⟩
theorem RowsQ.app {K : PySem.W.Frag} {H : Hp} {as bs : List Addr} {us vs : List (List Nat)} (h : RowsQ K H as us) (e : RowsQ K H bs vs) : RowsQ K H (as ++ bs) (us ++ vs) := by
  refine ⟨by simp [h.1, e.1], fun i b q e1 e2 => ?_⟩
  by_cases hi : i < as.length
  · rw [List.getElem?_append_left hi] at e1
    rw [List.getElem?_append_left (by rw [← h.1]; exact hi)] at e2
    exact h.2 i b q e1 e2
  · rw [List.getElem?_append_right (by omega)] at e1
    rw [List.getElem?_append_right (by rw [← h.1]; omega), ← h.1] at e2
    exact e.2 _ b q e1 e2
theorem RowsQ.one {K : PySem.W.Frag} {H : Hp} {a : Addr} {u : List Nat} (h : SqT K H a ((toI u).map V.int)) : RowsQ K H [a] [u] := ⟨rfl, fun i b q e1 e2 => by
  match i, e1, e2 with
  | 0, e1, e2 => cases e1; cases e2; exact h
  | _ + 1, e1, _ => simp at e1⟩
theorem allU_le (w : Nat) {n m : Nat} (h : n ≤ m) : (allU w n).length ≤ (allU w m).length := by
  obtain ⟨R, e⟩ := allU_pre w h
  rw [e, List.length_append]; omega
theorem allW_le (w : Nat) : ∀ n : Nat, (allW w n).length ≤ (allU w n).length
  | 0 => Nat.le_refl _
  | n + 1 => by rw [allU, List.length_append]; omega
abbrev sRowsL : Stmt := top 45
def spRowsL (K : PySem.W.Frag) : Sp := fun vs H Q _ => ∃ (w m : Nat), vs = [.int (w : Int), .int (m : Int)] ∧ w ≤ 6 ∧ m ≤ 100 ∧ (allU w m).length ≤ 900 ∧
  ∀ (p : Addr) (as : List Addr) (H' : Hp), H p = none → Same H H' → H' p = some (.lst (as.map V.ref)) → RowsQ K H' as (allU w m) → Q (.ref p) H'
section
variable {P : Program} {w : World} {K : PySem.W.Frag} {mg : Str → Option Value} {base : Heap}
abbrev pRowsL : List Str := ["_law_width", "_law_most"]
abbrev nRowsL : List Str := ["_law_width", "_law_most", "_law_layer", "_law_found", "_law_size", "_law_longer", "_law_row", "_law_k"]
theorem scRowsL : FnScope nRowsL pRowsL (defScope sRowsL) := ⟨rfl, rfl, rfl, by decide +kernel, rfl, by decide +kernel, by decide +kernel⟩
theorem ok_rowsl {f : Addr} {fd : FuncData} (D : Df K mg "_law_rows" sRowsL pRowsL f fd) (T : Bt mg) : FnOk P w K mg base CX0 1 f fd pRowsL (spRowsL K) := by
  refine D.F.ok scRowsL (fun vs H Q E h => ?_) (fun cdv A outer s H vs Q E hr h => ?_)
  · obtain ⟨w, m, rfl, _⟩ := h
    rfl
  · obtain ⟨w, m, rfl, w6, m100, hle, k⟩ := h
    refine ⟨_, pss_cons (ps_par (i := 2) (j := 3) (by rfl) scRowsL.nd rfl rfl (by decide) rfl rfl (pa_cons (pe_lst (pa_cons (pe_tup pa_nil) pa_nil)) (pa_cons (pe_lst (pa_cons (pe_tup pa_nil) pa_nil)) pa_nil)) (by rfl))
      (pss_cons (ps_for PassesOwn.never rfl (pi_range1 rfl T.range (pa_cons (pv 1) pa_nil)) (pg_name (i := 4) scRowsL.nd rfl (Or.inl rfl))
        (pss_cons (ps_set (i := 5) scRowsL.nd rfl (Or.inl rfl) (pe_lst pa_nil))
        (pss_cons (ps_for PassesOwn.never rfl (pi_list (pv 2)) (pg_name (i := 6) scRowsL.nd rfl (Or.inr rfl))
          (pss_one (ps_set (i := 5) scRowsL.nd rfl (Or.inl rfl) (pe_op op_cat (pv 5) (pe_lc (own := [("_law_k", 7)]) (g := gName 7) (by rfl) scRowsL.nd (pi_range1 rfl T.range (pa_cons (pv 0) pa_nil))
            (blkOk_by (own := [("_law_k", 7)]) (N := nRowsL) (sc := defScope sRowsL) (by decide +kernel)) (fun _ _ _ _ _ => pg_name (i := 7) scRowsL.nd rfl (Or.inl rfl)) (fun _ _ _ _ _ => pts_nil)
            (fun _ _ _ _ _ => pe_op (r := rCatA K) op_catA (pv 6) (pe_tup (pa_cons (pv 7) pa_nil))))))))
        (pss_one (ps_par (i := 2) (j := 3) (by rfl) scRowsL.nd rfl rfl (by decide) rfl rfl (pa_cons (pv 5) (pa_cons (pe_op op_cat (pv 3) (pv 5)) pa_nil)) (by rfl))))))
      (pss_one (ps_ret (pv 3)))), ?_⟩
    refine ⟨Nat.zero_le _, fun t1 ht1 => ⟨Nat.le_of_ble_eq_true rfl, fun l1 hl1 => ⟨Nat.zero_le _, fun t2 ht2 => ⟨Nat.le_of_ble_eq_true rfl, fun l2 hl2 => ?_⟩⟩⟩⟩
    have s1 := same_upd (o := .tup []) ht1
    have s2 := same_upd (o := .lst [V.ref t1]) hl1
    have s3 := same_upd (o := .tup []) ht2
    have s4 := same_upd (o := .lst [V.ref t2]) hl2
    have q1 := s4 _ _ (s3 _ _ (s2 _ _ (upd_same (H := H) (a := t1) (o := .tup []))))
    have q2 := s4 _ _ (s3 _ _ (upd_same (H := upd H t1 (.tup [])) (a := l1) (o := .lst [V.ref t1])))
    have q3 := s4 _ _ (upd_same (H := upd (upd H t1 (.tup [])) l1 (.lst [V.ref t1])) (a := t2) (o := .tup []))
    have q4 : upd (upd (upd (upd H t1 (.tup [])) l1 (.lst [V.ref t1])) t2 (.tup [])) l2 (.lst [V.ref t2]) l2 = some (.lst [V.ref t2]) := upd_same
    have s04 := ((s1.trans s2).trans s3).trans s4
    have z2 : H l2 = none := ((s1.trans s2).trans s3).free hl2
    generalize upd (upd (upd (upd H t1 (.tup [])) l1 (.lst [V.ref t1])) t2 (.tup [])) l2 (.lst [V.ref t2]) = H4 at s04 q1 q2 q3 q4 ⊢
    refine ⟨_, _, rfl, ?_⟩
    refine ⟨_, rfl, (m : Int), rfl, by omega, by omega, ?_⟩
    rw [Int.toNat_natCast]
    refine for_range (lo := 0) (n := m) (fun n σ H' => ∃ (la fo : Addr) (as bs : List Addr) (v4 v5 v6 : Option V), Same H H' ∧ H fo = none ∧ H' la = some (.lst (as.map V.ref)) ∧ RowsQ K H' as (allW w n) ∧ H' fo = some (.lst (bs.map V.ref)) ∧ RowsQ K H' bs (allU w n) ∧ σ = [some (.int (w : Int)), some (.int (m : Int)), some (.ref la), some (.ref fo), v4, v5, v6, none]) ?_ ?_ ?_
    · exact ⟨l1, l2, [t1], [t2], none, none, none, s04, z2, q2, .one (SqT.of q1), q4, .one (SqT.of q3), rfl⟩
    · rintro n σ H5 hn ⟨la, fo, as, bs, v4, v5, v6, s5, zf, hla, hA, hfo, hB, rfl⟩
      have hW : (allW w (n + 1)).length ≤ 900 := Nat.le_trans (Nat.le_trans (allW_le w _) (allU_le w (show n + 1 ≤ m by omega))) hle
      have hU : (allU w (n + 1)).length ≤ 900 := Nat.le_trans (allU_le w (show n + 1 ≤ m by omega)) hle
      refine ⟨Nat.zero_le _, fun lo hlo => ?_⟩
      have s6 := same_upd (o := .lst []) hlo
      have e6 : upd H5 lo (.lst []) lo = some (.lst []) := upd_same
      generalize upd H5 lo (.lst []) = H6 at s6 e6 ⊢
      have hla6 := s6 _ _ hla
      refine ⟨_, rfl, la, rfl, ⟨_, SqL.of hla6⟩, for_list (K := K) (a := la) (xs := as.map V.ref) (fun i σ H' => ∃ (lo : Addr) (cs : List Addr) (v6 : Option V), Same H6 H' ∧ H' lo = some (.lst (cs.map V.ref)) ∧ RowsQ K H' cs (exts w ((allW w n).take i)) ∧ σ = [some (.int (w : Int)), some (.int (m : Int)), some (.ref la), some (.ref fo), some (.int (0 + (n : Nat))), some (.ref lo), v6, none]) ?_ (fun i σ H' _ p => SqL.of (p.choose_spec.choose_spec.choose_spec.1 _ _ hla6)) ?_ ?_⟩
      · exact ⟨lo, [], v6, Same.refl H6, e6, ⟨rfl, fun i a u e => by simp at e⟩, rfl⟩
      · rintro i y σ H7 hi ⟨lo, cs, v6', s7, hlo7, hC, rfl⟩
        rw [List.getElem?_map] at hi
        obtain ⟨a, ea, rfl⟩ := Option.map_eq_some_iff.mp hi
        have hil : i < (allW w n).length := by rw [← hA.1]; exact (List.getElem?_eq_some_iff.mp ea).1
        have eu : (allW w n)[i]? = some (allW w n)[i] := List.getElem?_eq_getElem hil
        have etk : (allW w n).take (i + 1) = (allW w n).take i ++ [(allW w n)[i]] := by rw [List.take_add_one, eu]; rfl
        have hun : ((allW w n)[i]).length = n := ((allW_len w n _).mp (List.getElem_mem hil)).1
        have hrow := ((hA.2 i a _ ea eu).ext s6).ext s7
        have hcl : (exts w ((allW w n).take i)).length + w ≤ 900 := by
          have h1 : (allW w (n + 1)).length = w * (allW w n).length := exts_len w _
          have h2 : (exts w ((allW w n).take (i + 1))).length ≤ (allW w (n + 1)).length := by
            rw [exts_len, h1, List.length_take]
            exact Nat.mul_le_mul_left _ (Nat.min_le_right _ _)
          rw [etk, exts_app, List.length_append] at h2
          have h3 : (exts w [(allW w n)[i]]).length = w := by rw [exts_len]; simp
          omega
        generalize (allW w n)[i] = u at eu etk hun hrow
        refine ⟨_, rfl, _, rfl, (w : Int), rfl, by omega, by omega, fun D1 hD1 => ?_⟩
        rw [Int.toNat_natCast]
        refine lc_range (lo := 0) (n := w) (fun j H' => ∃ ds : List Addr, Same H7 H' ∧ H' D1 = some (.lst (ds.map V.ref)) ∧ RowsQ K H' ds ((ext w u).take j)) ?_ ?_ ?_
        · exact ⟨[], same_upd hD1, upd_same, ⟨rfl, fun i a u e => by simp at e⟩⟩
        · rintro j H8 hj ⟨ds, s8, hD8, hR8⟩
          have ej : ((0 : Int) + (j : Nat)) = ((j : Nat) : Int) := by omega
          refine ⟨rfl, _, rfl, _, rfl, Nat.le_of_ble_eq_true rfl, fun t ht => ?_⟩
          have s9 := same_upd (o := .tup [V.int (0 + (j : Nat))]) ht
          refine catA_any ((hrow.ext s8).ext s9) (SqT.of upd_same) ?_ fun t2 H10 ht2 s10 => ?_
          · rw [List.length_map, toI, List.length_map, hun]; simp; omega
          have s810 := s9.trans s10
          have hD10 := s810 _ _ hD8
          refine ⟨_, hD10, ?_, ds ++ [t2], ?_, ?_, ?_⟩
          · rw [List.length_map, hR8.1, List.length_take]; exact small1000 (by omega)
          · exact fun b o e => by rw [upd_ne (ne_of_none e hD1)]; exact s810 _ _ (s8 b o e)
          · rw [upd_same, List.map_append]; rfl
          · rw [ext_take u hj]
            refine ((hR8.same s810).app (.one ?_)).updL hD10
            rw [toI_snoc, List.map_append, ← ej]
            exact ht2
        · rintro H8 ⟨ds, s8, hD8, hR8⟩
          rw [ext_all] at hR8
          have hC8 := hC.same s8
          refine ⟨lo, D1, _, _, rfl, rfl, s8 _ _ hlo7, hD8, ?_, fun lo2 hlo2 => ?_⟩
          · rw [List.length_map, List.length_map, hC8.1, hR8.1]
            have : (ext w u).length = w := by simp [ext]
            exact small2 (by omega)
          have s9 := same_upd (o := .lst (cs.map V.ref ++ ds.map V.ref)) hlo2
          refine ⟨lo2, cs ++ ds, _, (s7.trans s8).trans s9, by rw [upd_same, List.map_append], ?_, rfl⟩
          have e1 : exts w ((allW w n).take (i + 1)) = exts w ((allW w n).take i) ++ ext w u := by rw [etk, exts_app]; simp [exts]
          rw [e1]
          exact (hC8.app hR8).same s9
      · rintro σ H7 ⟨lo, cs, v6', s7, hlo7, hC, rfl⟩
        rw [List.length_map, hA.1, List.take_length] at hC
        have s67 := s6.trans s7
        have hfo7 := s67 _ _ hfo
        have hB7 := hB.same s67
        refine ⟨_, rfl, _, rfl, _, rfl, fo, lo, _, _, rfl, rfl, hfo7, hlo7, ?_, fun fo2 hfo2 => ?_⟩
        · rw [List.length_map, List.length_map, hB7.1, hC.1]
          rw [allU, List.length_append] at hU
          exact small2 hU
        have s8 := same_upd (o := .lst (bs.map V.ref ++ cs.map V.ref)) hfo2
        refine ⟨_, _, rfl, lo, fo2, cs, bs ++ cs, _, _, _, (s5.trans s67).trans s8, (s5.trans s67).free hfo2, s8 _ _ hlo7, hC.same s8, by rw [upd_same, List.map_append], (hB7.app hC).same s8, rfl⟩
    · rintro σ H5 ⟨la, fo, as, bs, v4, v5, v6, s5, zf, hla, hA, hfo, hB, rfl⟩
      exact ⟨_, rfl, k fo bs H5 zf s5 hfo hB⟩
end
end K1
set_option Elab.async false
set_option linter.all false
set_option maxRecDepth 100000
/-! the law's own first row that parts two states; what is refused -/
namespace L2
open PySem PySem.Spec PyProof.Rows
section
variable {X : Cx} {CX : CXT} {k : Nat} {f C : Addr} {fd : FuncData} {ps : List Str} {sp : Sp} {E : St → XK} {x m : Str} {p pos apos : Pos} {e o : Expr} {es : List Expr} {ta : TE} {t : TA}
/-- o.m(e, ..) that may raise, inside a try -/
def tMethE (C : Addr) (m : Str) (sp : Sp) (E : St → XK) (ta : TE) (t : TA) : TE := fun σ H Q => ta σ H fun x H1 => ∃ a dx fs, x = .ref a ∧ H1 a = some (.ins C dx fs) ∧ fs.lookup m = none ∧ t σ H1 fun vs H2 => sp (.ref a :: vs) H2 Q (E σ)
theorem pe_methE {pl : Sem Bool} (he : PE X o ta) (c : Cls X.K C) (hm : Meth X.K C m f) (F : FnOk X.prog X.w X.K X.mg X.base CX k f fd ps sp) (hr : Room k X.A) (hb : Binds X.K fd ps []) (hx : ∀ σ, PassesAt CX X σ (E σ)) (ha : PA X (e :: es) t)
    (hst : starEach (e :: es) X.env = (false, eval e X.env) :: starEach es X.env := by rfl) (hpl : (backTo pos (starEach es X.env)).any (·.1) = false := by rfl)
    (ht : eval (.Call (.Attribute o m apos) (e :: es) [] pos) X.env = (do
      let ov ← eval o X.env
      standAt apos.atName
      let (f, first) ← holding [ov] (getMethod ov m pl)
      callWith pos f first (backTo pos (starEach (e :: es) X.env)) (backToKw pos (keywordEach [] X.env))) := by rfl) :
    PE X (.Call (.Attribute o m apos) (e :: es) [] pos) (tMethE C m sp E ta t) := by
  refine ⟨fun pins s σ H Q I h => ?_⟩
  refine PySem.W.methodCall_KW (pl := pl) (thn (he.run pins s σ H _ I h) fun u s1 ⟨x, H1, I1, rx, a, dx, fs, ex, ea, l, q⟩ => ?_) ht
  subst ex
  obtain rfl : u = Value.ref a := rx
  refine getmeth_ok I1 ea c hm l ?_
  refine PySem.W.callWith_K (first := [.ref a]) (h₀ := X.base) I.ok.mod.kin hm.kp (thn (ha.run pos pins s1 σ H1 _ I1 q) fun us s2 ⟨vs, H2, I2, r, q2⟩ => ⟨I2.kIn, ?_⟩) hst hpl
  exact run_fnS (us := .ref a :: us) (vs := .ref a :: vs) F hr hb (hx σ) I2 (.cons rfl r) q2
end
end L2
namespace K1
open PySem L2 LamX
theorem run_led (rs : List (List Int)) (a b : Int) (u : List Nat) : runT [rs, rs] [a, b] u = [led rs (toI u) a, led rs (toI u) b] := by
  show u.foldl (fun s k => stepT [rs, rs] k s) [a, b] = _
  induction u generalizing a b with
  | nil => rfl
  | cons k u ih =>
    show u.foldl _ (stepT [rs, rs] k [a, b]) = [led rs (toI u) (stp rs a (k : Int)), led rs (toI u) (stp rs b (k : Int))]
    rw [← ih]; rfl
theorem ix_toI {w : Nat} {u : List Nat} (h : ∀ k ∈ u, k < w) : Ix w (toI u) := fun j hj => by
  obtain ⟨k, hk, rfl⟩ := List.mem_map.mp hj
  have := h k hk
  omega
theorem nm_toI (ws : List Str) (u : List Nat) : (nm ws (toI u)).map V.str = names ws u := by
  simp [nm, toI, names]
end K1
set_option Elab.async false
set_option linter.all false
set_option maxRecDepth 100000
/-! how long the first row that parts two states is at most; what the two searches find -/
namespace K1
open PySem L2 LamX
section
variable (w : Nat) (rs : List (List Int)) (ss : List Str)
def ld (v : List Nat) (x : Int) : Int := led rs (toI v) x
def Tb (x y : Int) : Prop := ss.getD x.toNat "" ≠ ss.getD y.toNat ""
/-- some word of at most k letters tells them apart -/
def Sp' (k : Nat) (x y : Int) : Prop := ∃ v : List Nat, v.length ≤ k ∧ (∀ j ∈ v, j < w) ∧ Tb ss (ld rs v x) (ld rs v y)
variable {w rs ss}
theorem ld_app (u v : List Nat) (x : Int) : ld rs (u ++ v) x = ld rs v (ld rs u x) := by
  unfold ld led toI
  rw [List.map_append, List.foldl_append]
theorem Sp'.mono {k j : Nat} {x y : Int} (h : Sp' w rs ss k x y) (e : k ≤ j) : Sp' w rs ss j x y := by
  obtain ⟨v, h1, h2⟩ := h
  exact ⟨v, by omega, h2⟩
theorem Sp'.symm {k : Nat} {x y : Int} (h : Sp' w rs ss k x y) : Sp' w rs ss k y x := by
  obtain ⟨v, h1, h2, h3⟩ := h
  exact ⟨v, h1, h2, h3.symm⟩
theorem Sp'.irr {k : Nat} {x : Int} (h : Sp' w rs ss k x x) : False := by
  obtain ⟨v, _, _, h⟩ := h
  exact h rfl
theorem Sp'.split {k : Nat} {x z : Int} (y : Int) (h : Sp' w rs ss k x z) : Sp' w rs ss k x y ∨ Sp' w rs ss k y z := by
  obtain ⟨v, h1, h2, h3⟩ := h
  by_cases e : ss.getD (ld rs v x).toNat "" = ss.getD (ld rs v y).toNat ""
  · exact .inr ⟨v, h1, h2, fun z => h3 (e.trans z)⟩
  · exact .inl ⟨v, h1, h2, e⟩
theorem pair_of {α : Type} {R : α → α → Prop} (hs : ∀ a b, R a b → R b a) : ∀ {L : List α}, L.Pairwise R → ∀ {x y : α}, x ∈ L → y ∈ L → x ≠ y → R x y
  | [], _, _, _, h, _, _ => nomatch h
  | a :: L, h, x, y, hx, hy, hn => by
    rw [List.pairwise_cons] at h
    rcases List.mem_cons.mp hx with ex | hx'
    · rcases List.mem_cons.mp hy with ey | hy'
      · exact absurd (ex.trans ey.symm) hn
      · rw [ex]; exact h.1 y hy'
    · rcases List.mem_cons.mp hy with ey | hy'
      · rw [ey]; exact hs _ _ (h.1 x hx')
      · exact pair_of hs h.2 hx' hy' hn
open Classical in
/-- as many states as letters and two, told apart by pairs -/
theorem many_of {n : Nat} (ok : ∀ v : List Nat, (∀ j ∈ v, j < w) → ∀ x : Int, 0 ≤ x → x < (n : Int) → 0 ≤ ld rs v x ∧ ld rs v x < (n : Int)) {a b : Int} (a0 : 0 ≤ a) (a1 : a < (n : Int)) (b0 : 0 ≤ b) (b1 : b < (n : Int)) {u : List Nat} (hu : ∀ j ∈ u, j < w) (ht : Tb ss (ld rs u a) (ld rs u b))
    (hmin : ∀ v : List Nat, (∀ j ∈ v, j < w) → v.length < u.length → ¬ Tb ss (ld rs v a) (ld rs v b)) : ∀ j, j ≤ u.length → ∃ L : List Int, L.Pairwise (Sp' w rs ss j) ∧ L.length = j + 2 ∧ ∀ x ∈ L, 0 ≤ x ∧ x < (n : Int) := by
  have key : ∀ j, j ≤ u.length → ∃ x y : Int, (0 ≤ x ∧ x < (n : Int)) ∧ (0 ≤ y ∧ y < (n : Int)) ∧ Sp' w rs ss j x y ∧ ∀ i, i < j → ¬ Sp' w rs ss i x y := fun j hj => by
    have ht' : ∀ k ∈ u.take (u.length - j), k < w := fun k hk => hu k (List.mem_of_mem_take hk)
    have hd' : ∀ k ∈ u.drop (u.length - j), k < w := fun k hk => hu k (List.mem_of_mem_drop hk)
    refine ⟨ld rs (u.take (u.length - j)) a, ld rs (u.take (u.length - j)) b, ok _ ht' a a0 a1, ok _ ht' b b0 b1, ⟨u.drop (u.length - j), by rw [List.length_drop]; omega, hd', ?_⟩, fun i hi hs => ?_⟩
    · rw [← ld_app, ← ld_app, List.take_append_drop]; exact ht
    · obtain ⟨v, h1, h2, h3⟩ := hs
      refine hmin (u.take (u.length - j) ++ v) (fun k hk => ?_) (by rw [List.length_append, List.length_take]; omega) (by rw [ld_app, ld_app]; exact h3)
      rcases List.mem_append.mp hk with h | h
      · exact ht' k h
      · exact h2 k h
  intro j
  induction j with
  | zero =>
    intro hj
    obtain ⟨x, y, hx, hy, hs, _⟩ := key 0 hj
    refine ⟨[x, y], by simp [hs], rfl, fun z hz => ?_⟩
    simp only [List.mem_cons, List.not_mem_nil, or_false] at hz
    rcases hz with rfl | rfl
    · exact hx
    · exact hy
  | succ j ih =>
    intro hj
    obtain ⟨L, hp, hl, hr⟩ := ih (by omega)
    obtain ⟨x, y, hx, hy, hs, hn⟩ := key (j + 1) hj
    have hp' : L.Pairwise (Sp' w rs ss (j + 1)) := hp.imp fun z => z.mono (by omega)
    have add : ∀ z : Int, (0 ≤ z ∧ z < (n : Int)) → (∀ q ∈ L, Sp' w rs ss (j + 1) q z) → ∃ L : List Int, L.Pairwise (Sp' w rs ss (j + 1)) ∧ L.length = j + 1 + 2 ∧ ∀ x ∈ L, 0 ≤ x ∧ x < (n : Int) := fun z hz hq => by
      refine ⟨L ++ [z], List.pairwise_append.mpr ⟨hp', by simp, fun q hq' z' hz' => by rw [List.mem_singleton.mp hz']; exact hq q hq'⟩, by rw [List.length_append, hl]; rfl, fun q hq' => ?_⟩
      rcases List.mem_append.mp hq' with h | h
      · exact hr q h
      · rw [List.mem_singleton.mp h]; exact hz
    by_cases hall : ∀ q ∈ L, Sp' w rs ss (j + 1) q x
    · exact add x hx hall
    · obtain ⟨z, hz, hzx⟩ : ∃ z ∈ L, ¬ Sp' w rs ss (j + 1) z x := by
        refine Classical.byContradiction fun h => hall fun q hq => Classical.byContradiction fun h' => h ⟨q, hq, h'⟩
      refine add y hy fun q hq => ?_
      by_cases e : q = z
      · subst e
        rcases hs.split q with h | h
        · exact absurd h.symm hzx
        · exact h
      · have h1 := pair_of (fun _ _ z => Sp'.symm z) hp hq hz e
        rcases h1.split y with h | h
        · exact h.mono (by omega)
        · exfalso
          rcases h.split x with h | h
          · exact hn j (by omega) h.symm
          · exact hzx (h.mono (by omega)).symm
theorem first_short {n : Nat} (ok : ∀ v : List Nat, (∀ j ∈ v, j < w) → ∀ x : Int, 0 ≤ x → x < (n : Int) → 0 ≤ ld rs v x ∧ ld rs v x < (n : Int)) {a b : Int} (a0 : 0 ≤ a) (a1 : a < (n : Int)) (b0 : 0 ≤ b) (b1 : b < (n : Int)) {u : List Nat} (hu : ∀ j ∈ u, j < w) (ht : Tb ss (ld rs u a) (ld rs u b))
    (hmin : ∀ v : List Nat, (∀ j ∈ v, j < w) → v.length < u.length → ¬ Tb ss (ld rs v a) (ld rs v b)) : u.length + 2 ≤ n := by
  obtain ⟨L, hp, hl, hr⟩ := many_of ok a0 a1 b0 b1 hu ht hmin u.length (Nat.le_refl _)
  rw [← hl]
  have hnd : (L.map Int.toNat).Nodup := by
    unfold List.Nodup
    rw [List.pairwise_map]
    refine List.Pairwise.imp_of_mem (fun {x y} hx hy hs e => ?_) hp
    obtain ⟨x0, _⟩ := hr x hx
    obtain ⟨y0, _⟩ := hr y hy
    have : x = y := by omega
    rw [this] at hs
    exact hs.irr
  have := nodup_sub_len (L.map Int.toNat) (List.range n) hnd fun x hx => by
    obtain ⟨z, hz, rfl⟩ := List.mem_map.mp hx
    obtain ⟨z0, z1⟩ := hr z hz
    exact List.mem_range.mpr (by omega)
  rwa [List.length_map, List.length_range] at this
end
theorem dif_ld (rs : List (List Int)) (ss : List Str) (a b : Int) (u : List Nat) : dif ss ss (runT [rs, rs] [a, b] u) = true ↔ Tb ss (ld rs u a) (ld rs u b) := by
  rw [run_led]
  exact decide_eq_true_iff
theorem find_len {w n : Nat} {p : List Nat → Bool} {u : List Nat} (h : (allU w n).find? p = some u) : u.length ≤ n ∧ (∀ j ∈ u, j < w) ∧ p u = true := by
  have h1 := (allU_mem w n u).mp (List.mem_of_find?_eq_some h)
  exact ⟨h1.1, h1.2, List.find?_some h⟩
/-- two searches, one of all words of as many letters as states and one less -/
theorem first_find {ws : List Str} {rs : List (List Int)} {ss : List Str} {st : Int} (pt : Parts ws rs ss st) {a b : Int} (a0 : 0 ≤ a) (a1 : a < (rs.length : Int)) (b0 : 0 ≤ b) (b1 : b < (rs.length : Int)) {u : List Nat} (h : FirstW ws.length (runT [rs, rs] [a, b]) ss ss u) :
    (allU ws.length (rs.length - 1)).find? (fun v => dif ss ss (runT [rs, rs] [a, b] v)) = some u := by
  have h' : (allU ws.length u.length).find? (fun v => dif ss ss (runT [rs, rs] [a, b] v)) = some u := h
  obtain ⟨_, hl, hp⟩ := find_len h'
  have hmin : ∀ v : List Nat, (∀ j ∈ v, j < ws.length) → v.length < u.length → ¬ Tb ss (ld rs v a) (ld rs v b) := fun v hv hlt ht => by
    obtain ⟨R, eR⟩ := allU_pre ws.length (show v.length ≤ u.length by omega)
    have hm : v ∈ allU ws.length v.length := (allU_mem _ _ _).mpr ⟨Nat.le_refl _, hv⟩
    rw [eR, List.find?_append] at h'
    cases hf : (allU ws.length v.length).find? fun v => dif ss ss (runT [rs, rs] [a, b] v) with
    | none =>
      have := List.find?_eq_none.mp hf v hm
      exact this ((dif_ld rs ss a b v).mpr ht)
    | some z =>
      rw [hf] at h'
      have e : z = u := by simpa using h'
      have := (find_len hf).1
      rw [e] at this; omega
  have hs := first_short (w := ws.length) (n := rs.length) (fun v hv x x0 x1 => pt.led (ix_toI hv) x0 x1) a0 a1 b0 b1 hl ((dif_ld rs ss a b u).mp hp) hmin
  obtain ⟨R, eR⟩ := allU_pre ws.length (show u.length ≤ rs.length - 1 by omega)
  rw [eR, List.find?_append, h']; rfl
end K1
set_option Elab.async false
set_option linter.all false
set_option maxRecDepth 100000
/-! the least machine tells what the machine tells -/
namespace K1
open PySem L2 LamX
theorem renR_get {rs : List (List Int)} {sts : List Int} {i : Nat} (hi : i < sts.length) : (renR rs sts).getD i [] = (rs.getD (sts.getD i 0).toNat []).map fun x => sts.idxOf x := by
  unfold renR
  rw [List.getD_eq_getElem?_getD, List.getElem?_map, getD_get (0 : Int) hi]; rfl
theorem renT_get {ss : List Str} {sts : List Int} {i : Nat} (hi : i < sts.length) : (renT ss sts).getD i "" = ss.getD (sts.getD i 0).toNat "" := by
  unfold renT
  rw [List.getD_eq_getElem?_getD, List.getElem?_map, getD_get (0 : Int) hi]; rfl
theorem idx_get {sts : List Int} {x : Int} (hx : x ∈ sts) : sts.getD (sts.idxOf x) 0 = x := by
  have h := List.idxOf_lt_length_of_mem hx
  rw [List.getD_eq_getElem?_getD, List.getElem?_eq_getElem h]
  exact List.getElem_idxOf h
section
variable {ws : List Str} {rs : List (List Int)} {ss : List Str} {st : Int} {sts : List Int}
theorem ren_ok (pt : Parts ws rs ss st) (R : Rch ws.length rs st sts) : NOk' ws.length (renR rs sts) := by
  refine ⟨fun r hr => ?_⟩
  have hl : (renR rs sts).length = sts.length := List.length_map _
  unfold renR at hr
  obtain ⟨s, hs, rfl⟩ := List.mem_map.mp hr
  obtain ⟨h0, h1⟩ := R.rg s hs
  have hrow := List.mem_of_getElem? (getD_get ([] : List Int) (xs := rs) (n := s.toNat) (by omega))
  refine ⟨by rw [List.length_map]; exact (pt.row _ hrow).1, fun k hk => ?_⟩
  obtain ⟨x, hx, rfl⟩ := List.mem_map.mp hk
  rw [hl]
  exact List.idxOf_lt_length_of_mem (R.cl s hs x hx)
theorem ren_run (pt : Parts ws rs ss st) (R : Rch ws.length rs st sts) : ∀ (v : List Nat) {i : Nat}, i < sts.length → (∀ k ∈ v, k < ws.length) → lN (renR rs sts) v i < sts.length ∧ sts.getD (lN (renR rs sts) v i) 0 = ld rs v (sts.getD i 0)
  | [], i, hi, _ => ⟨hi, rfl⟩
  | k :: v, i, hi, hv => by
    have hk := hv k (List.mem_cons_self ..)
    have hsm : sts.getD i 0 ∈ sts := List.mem_of_getElem? (getD_get (0 : Int) hi)
    obtain ⟨h0, h1⟩ := R.rg _ hsm
    have hrow := getD_get ([] : List Int) (xs := rs) (n := (sts.getD i 0).toNat) (by omega)
    have hrl := (pt.row _ (List.mem_of_getElem? hrow)).1
    have hx : (rs.getD (sts.getD i 0).toNat []).getD k 0 ∈ rs.getD (sts.getD i 0).toNat [] := List.mem_of_getElem? (getD_get (0 : Int) (by omega))
    have hxs := R.cl _ hsm _ hx
    have e1 : ((renR rs sts).getD i []).getD k 0 = sts.idxOf ((rs.getD (sts.getD i 0).toNat []).getD k 0) := by
      rw [renR_get hi, List.getD_eq_getElem?_getD, List.getElem?_map, getD_get (0 : Int) (xs := rs.getD (sts.getD i 0).toNat []) (n := k) (by omega)]; rfl
    have hlt := List.idxOf_lt_length_of_mem hxs
    obtain ⟨g1, g2⟩ := ren_run pt R v hlt fun j hj => hv j (List.mem_cons_of_mem _ hj)
    show lN (renR rs sts) v (((renR rs sts).getD i []).getD k 0) < _ ∧ sts.getD (lN (renR rs sts) v (((renR rs sts).getD i []).getD k 0)) 0 = _
    rw [e1]
    refine ⟨g1, ?_⟩
    rw [g2, idx_get hxs]
    rfl
end
/-- a kept state has its place's number -/
theorem kept_num (g : List Nat) : ∀ (i j : Nat), j < (keptT g i).length → g.getD ((keptT g i).getD j 0) 0 = j
  | 0, j, h => by simp [keptT] at h
  | i + 1, j, h => by
    rw [keptT_succ] at h ⊢
    by_cases e : g.getD i 0 = (keptT g i).length
    · rw [if_pos e] at h ⊢
      rw [List.length_append, List.length_singleton] at h
      by_cases hj : j < (keptT g i).length
      · have e2 : (keptT g i ++ [i]).getD j 0 = (keptT g i).getD j 0 := by rw [List.getD_eq_getElem?_getD, List.getElem?_append_left hj, ← List.getD_eq_getElem?_getD]
        rw [e2]
        exact kept_num g i j hj
      · have ej : j = (keptT g i).length := by omega
        have e2 : (keptT g i ++ [i]).getD j 0 = i := by rw [ej, List.getD_eq_getElem?_getD, List.getElem?_append_right (Nat.le_refl _), Nat.sub_self]; rfl
        rw [e2, e, ej]
    · rw [if_neg e] at h ⊢
      exact kept_num g i j h
section
variable {w : Nat} {rs : List (List Nat)} {zs : List Str} {g : List Nat}
theorem shR_get {j : Nat} (hj : j < (keptT g g.length).length) : (shR rs g).getD j [] = (rs.getD ((keptT g g.length).getD j 0) []).map fun k => g.getD k 0 := by
  unfold shR
  rw [List.getD_eq_getElem?_getD, List.getElem?_map, getD_get (0 : Nat) hj]; rfl
theorem shT_get {j : Nat} (hj : j < (keptT g g.length).length) : (shT zs g).getD j "" = zs.getD ((keptT g g.length).getD j 0) "" := by
  unfold shT
  rw [List.getD_eq_getElem?_getD, List.getElem?_map, getD_get (0 : Nat) hj]; rfl
theorem sh_run (ok : NOk' w rs) (hl : g.length = rs.length) (hn : num g = g) (hf : stepG rs g = g) : ∀ (v : List Nat) {s : Nat}, s < rs.length → (∀ k ∈ v, k < w) → lN (shR rs g) v (g.getD s 0) = g.getD (lN rs v s) 0
  | [], _, _, _ => rfl
  | k :: v, s, hs, hv => by
    have hk := hv k (List.mem_cons_self ..)
    have hgs : g.getD s 0 ∈ g := List.mem_of_getElem? (getD_get (0 : Nat) (by omega))
    have hj := canon_lt hn hgs
    have kl := (keptT_lt g g.length).1
    have hkm : (keptT g g.length).getD (g.getD s 0) 0 ∈ keptT g g.length := List.mem_of_getElem? (getD_get (0 : Nat) hj)
    have hks := kl _ hkm
    have enum := kept_num g g.length (g.getD s 0) hj
    generalize hq : (keptT g g.length).getD (g.getD s 0) 0 = q at hks enum hkm
    have hql : q < rs.length := by omega
    have e1 : ((shR rs g).getD (g.getD s 0) []).getD k 0 = g.getD ((rs.getD q []).getD k 0) 0 := by
      rw [shR_get hj, hq, List.getD_eq_getElem?_getD, List.getElem?_map, getD_get (0 : Nat) (xs := rs.getD q []) (n := k) (by rw [(ok.at hql).1]; exact hk)]; rfl
    have e2 : g.getD ((rs.getD q []).getD k 0) 0 = g.getD ((rs.getD s []).getD k 0) 0 := fix_run ok hf [k] hql hs (fun j hj => by rw [List.mem_singleton.mp hj]; exact hk) enum
    show lN (shR rs g) v (((shR rs g).getD (g.getD s 0) []).getD k 0) = g.getD (lN rs v ((rs.getD s []).getD k 0)) 0
    rw [e1, e2]
    exact sh_run ok hl hn hf v (ok.step hs hk) fun j hj => hv j (List.mem_cons_of_mem _ hj)
end
/-- the first number is 0 -/
theorem canon_zero {g : List Nat} (hn : num g = g) (h : 0 < g.length) : g.getD 0 0 = 0 := by
  have h1 := (kept_len hn 0 (Nat.zero_le _)).2 h
  exact h1.mpr (by rw [List.take_zero]; exact fun z => nomatch z)
theorem least_tells {ws : List Str} {rs : List (List Int)} {ss : List Str} {st : Int} {sts : List Int} (pt : Parts ws rs ss st) (R : Rch ws.length rs st sts) {t : Nat} (hf : stepG (renR rs sts) (gT (renR rs sts) (renT ss sts) t) = gT (renR rs sts) (renT ss sts) t) {v : List Nat} (hv : ∀ k ∈ v, k < ws.length) :
    (shT (renT ss sts) (gT (renR rs sts) (renT ss sts) t)).getD (lN (shR (renR rs sts) (gT (renR rs sts) (renT ss sts) t)) v 0) "" = ss.getD (ld rs v st).toNat "" := by
  have hrl : (renR rs sts).length = sts.length := List.length_map _
  have hzl : (renT ss sts).length = (renR rs sts).length := by unfold renT renR; rw [List.length_map, List.length_map]
  have ok := ren_ok pt R
  have gl := gT_len hzl t
  have gn := gT_num (renR rs sts) (renT ss sts) t
  obtain ⟨T, eT⟩ := R.hd
  have hpos : 0 < sts.length := by rw [eT]; simp
  have h0 : sts.getD 0 0 = st := by rw [eT]; rfl
  obtain ⟨r1, r2⟩ := ren_run pt R v hpos hv
  rw [h0] at r2
  have z0 := canon_zero gn (by omega)
  have e1 := sh_run ok gl gn hf v (s := 0) (by omega) hv
  rw [z0] at e1
  rw [e1]
  generalize hq : lN (renR rs sts) v 0 = q at r1 r2
  have hgm : (gT (renR rs sts) (renT ss sts) t).getD q 0 ∈ gT (renR rs sts) (renT ss sts) t := List.mem_of_getElem? (getD_get (0 : Nat) (by omega))
  have hj := canon_lt gn hgm
  rw [shT_get hj]
  have enum := kept_num (gT (renR rs sts) (renT ss sts) t) _ _ hj
  have hkm := (keptT_lt (gT (renR rs sts) (renT ss sts) t) (gT (renR rs sts) (renT ss sts) t).length).1 _ (List.mem_of_getElem? (getD_get (0 : Nat) hj))
  rw [gT_tells hzl (by omega) (by omega) t enum, renT_get r1, r2]
end K1
set_option Elab.async false
set_option linter.all false
set_option maxRecDepth 100000
/-! one language, one least machine -/
namespace K1
open PySem L2 LamX
theorem dd_uq {r : List Nat → List Int} : ∀ (l acc : List (List Nat)), (dd r acc l).map r = uq (acc.map r) (l.map r)
  | [], acc => rfl
  | a :: l, acc => by
    rw [dd_cons, List.map_cons, uq_cons, dd_uq l]
    by_cases e : r a ∈ acc.map r
    · rw [if_pos e, if_pos e]
    · rw [if_neg e, if_neg e, List.map_append]; rfl
theorem run_led1 (rs : List (List Int)) (a : Int) (u : List Nat) : runT [rs] [a] u = [ld rs u a] := by
  show u.foldl (fun s k => stepT [rs] k s) [a] = [led rs (toI u) a]
  induction u generalizing a with
  | nil => rfl
  | cons k u ih =>
    show u.foldl _ (stepT [rs] k [a]) = [led rs (toI u) (stp rs a (k : Int))]
    rw [← ih]; rfl
theorem lN_app (rs : List (List Nat)) (u v : List Nat) (s : Nat) : lN rs (u ++ v) s = lN rs v (lN rs u s) := List.foldl_append
theorem idx_range {n x : Nat} (h : x < n) : (List.range n).idxOf x = x := by
  have hm : x ∈ List.range n := List.mem_range.mpr h
  have hl := List.idxOf_lt_length_of_mem hm
  have e := List.getElem_idxOf hl
  rw [List.getElem_range] at e
  exact e
/-- a least machine, by what it tells -/
structure LM (w : Nat) (lr : List (List Nat)) (lt : List Str) (tw : List Nat → Str) : Prop where
  ok : NOk' w lr
  len : lt.length = lr.length
  tells : ∀ v : List Nat, (∀ k ∈ v, k < w) → lt.getD (lN lr v 0) "" = tw v
  red : ∀ u v : List Nat, (∀ k ∈ u, k < w) → (∀ k ∈ v, k < w) → (lN lr u 0 = lN lr v 0 ↔ ∀ x : List Nat, (∀ k ∈ x, k < w) → tw (u ++ x) = tw (v ++ x))
  can : ∃ n0, ∀ m, n0 ≤ m → num ((allU w m).map fun u => lN lr u 0) = ((allU w m).map fun u => lN lr u 0) ∧ uq [] ((allU w m).map fun u => lN lr u 0) = List.range lr.length
theorem LM.unique {w : Nat} {lr1 lr2 : List (List Nat)} {lt1 lt2 : List Str} {tw1 tw2 : List Nat → Str} (h1 : LM w lr1 lt1 tw1) (h2 : LM w lr2 lt2 tw2) (he : ∀ v : List Nat, (∀ k ∈ v, k < w) → tw1 v = tw2 v) : lr1 = lr2 ∧ lt1 = lt2 := by
  obtain ⟨n1, c1⟩ := h1.can
  obtain ⟨n2, c2⟩ := h2.can
  have happ : ∀ {u x : List Nat}, (∀ k ∈ u, k < w) → (∀ k ∈ x, k < w) → ∀ k ∈ u ++ x, k < w := fun hu hx k hk => (List.mem_append.mp hk).elim (hu k) (hx k)
  have hQ : ∀ m, n1 ≤ m → n2 ≤ m → ((allU w m).map fun u => lN lr1 u 0) = (allU w m).map fun u => lN lr2 u 0 := fun m a b => by
    rw [← (c1 m a).1, ← (c2 m b).1]
    refine num_same (by rw [List.length_map, List.length_map]) fun i j hi hj => ?_
    rw [List.length_map] at hi hj
    rw [List.getElem?_map, List.getElem?_map, List.getElem?_map, List.getElem?_map, List.getElem?_eq_getElem hi, List.getElem?_eq_getElem hj]
    have hu := ((allU_mem w m _).mp (List.getElem_mem hi)).2
    have hv := ((allU_mem w m _).mp (List.getElem_mem hj)).2
    generalize (allU w m)[i] = u at hu
    generalize (allU w m)[j] = v at hv
    show (some (lN lr1 u 0) = some (lN lr1 v 0)) ↔ (some (lN lr2 u 0) = some (lN lr2 v 0))
    rw [Option.some.injEq, Option.some.injEq, h1.red u v hu hv, h2.red u v hu hv]
    constructor
    · intro q x hx; rw [← he _ (happ hu hx), ← he _ (happ hv hx)]; exact q x hx
    · intro q x hx; rw [he _ (happ hu hx), he _ (happ hv hx)]; exact q x hx
  have hq : ∀ u : List Nat, (∀ k ∈ u, k < w) → lN lr1 u 0 = lN lr2 u 0 := fun u hu => by
    have e := hQ (n1 + n2 + u.length) (by omega) (by omega)
    have hm : u ∈ allU w (n1 + n2 + u.length) := (allU_mem w _ u).mpr ⟨by omega, hu⟩
    exact List.map_inj_left.mp e u hm
  have e0 := hQ (n1 + n2) (by omega) (by omega)
  have u1 := (c1 (n1 + n2) (by omega)).2
  have u2 := (c2 (n1 + n2) (by omega)).2
  have hlen : lr1.length = lr2.length := by
    rw [e0, u2] at u1
    have := congrArg List.length u1
    rw [List.length_range, List.length_range] at this
    exact this.symm
  have hreach : ∀ j, j < lr1.length → ∃ u : List Nat, (∀ k ∈ u, k < w) ∧ lN lr1 u 0 = j := fun j hj => by
    have hm : j ∈ uq [] ((allU w (n1 + n2)).map fun u => lN lr1 u 0) := by rw [u1]; exact List.mem_range.mpr hj
    have hm2 : j ∈ (allU w (n1 + n2)).map fun u => lN lr1 u 0 := by simpa using (uq_mem _ [] j).mp hm
    obtain ⟨u, hu, e⟩ := List.mem_map.mp hm2
    exact ⟨u, ((allU_mem w _ u).mp hu).2, e⟩
  refine ⟨List.ext_getElem hlen fun j g1 g2 => ?_, List.ext_getElem (by rw [h1.len, h2.len, hlen]) fun j g1 g2 => ?_⟩
  · obtain ⟨u, hu, eu⟩ := hreach j g1
    have eu2 : lN lr2 u 0 = j := by rw [← hq u hu, eu]
    have a1 : lr1.getD j [] = lr1[j] := by rw [List.getD_eq_getElem?_getD, List.getElem?_eq_getElem g1]; rfl
    have a2 : lr2.getD j [] = lr2[j] := by rw [List.getD_eq_getElem?_getD, List.getElem?_eq_getElem g2]; rfl
    have l1 := (h1.ok.row _ (List.getElem_mem g1)).1
    have l2 := (h2.ok.row _ (List.getElem_mem g2)).1
    refine List.ext_getElem (by rw [l1, l2]) fun k k1 k2 => ?_
    have hk : ∀ i ∈ u ++ [k], i < w := happ hu fun i hi => by rw [List.mem_singleton.mp hi]; omega
    have e := hq (u ++ [k]) hk
    rw [lN_app, lN_app, eu, eu2] at e
    have b1 : lN lr1 [k] j = (lr1[j]).getD k 0 := by show (lr1.getD j []).getD k 0 = _; rw [a1]
    have b2 : lN lr2 [k] j = (lr2[j]).getD k 0 := by show (lr2.getD j []).getD k 0 = _; rw [a2]
    rw [b1, b2, ← getD_lt k1, ← getD_lt k2] at e
    exact e
  · rw [h1.len] at g1
    obtain ⟨u, hu, eu⟩ := hreach j g1
    have eu2 : lN lr2 u 0 = j := by rw [← hq u hu, eu]
    have t1 := h1.tells u hu
    have t2 := h2.tells u hu
    rw [eu] at t1
    rw [eu2] at t2
    rw [← he u hu, ← t1] at t2
    rw [List.getD_eq_getElem?_getD, List.getElem?_eq_getElem (by rw [h2.len, ← hlen]; exact g1), List.getD_eq_getElem?_getD, List.getElem?_eq_getElem (by rw [h1.len]; exact g1)] at t2
    exact t2.symm
end K1
set_option Elab.async false
set_option linter.all false
set_option maxRecDepth 100000
/-! Machine.least's result is the least machine of its language -/
namespace K1
open PySem L2 LamX
/-- what a machine tells after a word -/
def twM (rs : List (List Int)) (ss : List Str) (st : Int) (v : List Nat) : Str := ss.getD (ld rs v st).toNat ""
theorem range_map_getD (g : List Nat) : (List.range g.length).map (fun i => g.getD i 0) = g := by
  refine List.ext_getElem (by simp) fun i h1 h2 => ?_
  rw [List.getElem_map, List.getElem_range]
  exact (getD_lt h2).symm
theorem idx_nd {L : List Int} (nd : L.Nodup) (q : Nat) (h : q < L.length) : L.idxOf (L.getD q 0) = q := by
  have e : L.getD q 0 = L[q] := by rw [List.getD_eq_getElem?_getD, List.getElem?_eq_getElem h]; rfl
  have hm : L[q] ∈ L := List.getElem_mem h
  have hl := List.idxOf_lt_length_of_mem hm
  rw [e]
  exact (List.getElem_inj nd).mp (List.getElem_idxOf hl)
theorem lm_of {ws : List Str} {rs : List (List Int)} {ss : List Str} {st : Int} (pt : Parts ws rs ss st) {n : Nat} {M : List (List Nat)} (eb : bfs (runT [rs] [st]) ws.length n = (M, [])) {t : Nat} {sts : List Int} (es : sts = stsL (runT [rs] [st]) M)
    (hf : stepG (renR rs sts) (gT (renR rs sts) (renT ss sts) t) = gT (renR rs sts) (renT ss sts) t) :
    LM ws.length (shR (renR rs sts) (gT (renR rs sts) (renT ss sts) t)) (shT (renT ss sts) (gT (renR rs sts) (renT ss sts) t)) (twM rs ss st) := by
  have R := rch_of pt eb
  rw [← es] at R
  have hrl : (renR rs sts).length = sts.length := List.length_map _
  have hzl : (renT ss sts).length = (renR rs sts).length := by unfold renT renR; rw [List.length_map, List.length_map]
  have ok := ren_ok pt R
  have gl := gT_len hzl t
  have gn := gT_num (renR rs sts) (renT ss sts) t
  have htell := fun (v : List Nat) hv => least_tells pt R (t := t) hf (v := v) hv
  have hiff := fun {s s' : Nat} hs hs' => fix_iff (w := ws.length) ok hzl hf (s := s) (s' := s') hs hs'
  obtain ⟨T, eT⟩ := R.hd
  have hpos : 0 < sts.length := by rw [eT]; simp
  have h0 : sts.getD 0 0 = st := by rw [eT]; rfl
  generalize gT (renR rs sts) (renT ss sts) t = g at *
  have z0 := canon_zero gn (by omega)
  have kl := keptT_lt g g.length
  have hsl : (shR (renR rs sts) g).length = (keptT g g.length).length := List.length_map _
  have run0 : ∀ {u : List Nat}, (∀ k ∈ u, k < ws.length) → lN (renR rs sts) u 0 < sts.length ∧ sts.getD (lN (renR rs sts) u 0) 0 = ld rs u st := fun {u} hu => by
    have := ren_run pt R u hpos hu
    rwa [h0] at this
  have q0 : ∀ {u : List Nat}, (∀ k ∈ u, k < ws.length) → lN (shR (renR rs sts) g) u 0 = g.getD (lN (renR rs sts) u 0) 0 := fun {u} hu => by
    have := sh_run ok gl gn hf u (s := 0) (by omega) hu
    rwa [z0] at this
  have twx : ∀ {u x : List Nat}, (∀ k ∈ u, k < ws.length) → (∀ k ∈ x, k < ws.length) → (renT ss sts).getD (lN (renR rs sts) x (lN (renR rs sts) u 0)) "" = twM rs ss st (u ++ x) := fun {u x} hu hx => by
    have hux : ∀ k ∈ u ++ x, k < ws.length := fun k hk => (List.mem_append.mp hk).elim (hu k) (hx k)
    obtain ⟨a1, a2⟩ := run0 hux
    rw [← lN_app, renT_get a1, a2]; rfl
  refine ⟨⟨fun r hr => ?_⟩, ?_, fun v hv => htell v hv, fun u v hu hv => ?_, n, fun m hm => ?_⟩
  · unfold shR at hr
    obtain ⟨s, hs, rfl⟩ := List.mem_map.mp hr
    have hs1 := kl.1 s hs
    obtain ⟨a1, a2⟩ := ok.at (s := s) (by omega)
    refine ⟨by rw [List.length_map]; exact a1, fun k hk => ?_⟩
    obtain ⟨x, hx, rfl⟩ := List.mem_map.mp hk
    have := a2 x hx
    rw [hsl]
    exact canon_lt gn (List.mem_of_getElem? (getD_get (0 : Nat) (by omega)))
  · unfold shT shR; rw [List.length_map, List.length_map]
  · rw [q0 hu, q0 hv, hiff (by rw [hrl]; exact (run0 hu).1) (by rw [hrl]; exact (run0 hv).1)]
    constructor
    · intro q x hx; rw [← twx hu hx, ← twx hv hx]; exact q x hx
    · intro q x hx; rw [twx hu hx, twx hv hx]; exact q x hx
  · -- the words' states, in the order of all words
    have eb' := bfs_end (runT_c [rs] [st]) (by rw [eb]) m hm
    rw [eb] at eb'
    have I := bfs_ok (runT_c [rs] [st]) ws.length m
    rw [eb'] at I
    have eall : M = dd (runT [rs] [st]) [] (allU ws.length m) := I.all
    have eL : uq [] ((allU ws.length m).map fun u => ld rs u st) = sts := by
      have h1 := dd_uq (r := runT [rs] [st]) (allU ws.length m) []
      rw [← eall] at h1
      have h2 : (allU ws.length m).map (runT [rs] [st]) = ((allU ws.length m).map fun u => ld rs u st).map fun x => [x] := by
        rw [List.map_map]
        exact List.map_congr_left fun u _ => run_led1 rs st u
      have h3 := uq_map (f := fun x : Int => [x]) ((allU ws.length m).map fun u => ld rs u st) [] (fun x _ y _ e => by cases e; rfl)
      rw [List.map_nil] at h1 h3
      rw [h2, h3] at h1
      rw [es]
      unfold stsL
      have h4 : (M.map fun u => (runT [rs] [st] u).getD 0 0) = (M.map (runT [rs] [st])).map fun l => l.getD 0 0 := by rw [List.map_map]; rfl
      rw [h4, h1, List.map_map]
      have h5 : ((fun l : List Int => l.getD 0 0) ∘ fun x : Int => [x]) = id := by funext x; rfl
      rw [h5, List.map_id]
    have hlet : ∀ u ∈ allU ws.length m, ∀ k ∈ u, k < ws.length := fun u hu => ((allU_mem _ _ u).mp hu).2
    have ei : ((allU ws.length m).map fun u => lN (renR rs sts) u 0) = num ((allU ws.length m).map fun u => ld rs u st) := by
      unfold num
      rw [eL, List.map_map]
      refine List.map_congr_left fun u hu => ?_
      obtain ⟨a1, a2⟩ := run0 (hlet u hu)
      show lN (renR rs sts) u 0 = sts.idxOf (ld rs u st)
      rw [← a2]
      exact (idx_nd R.nd _ a1).symm
    have eu : uq [] ((allU ws.length m).map fun u => lN (renR rs sts) u 0) = List.range sts.length := by
      have h1 := canon_range (num_num ((allU ws.length m).map fun u => ld rs u st))
      rw [ei]
      rw [h1]
      congr 1
      have h2 : num ((allU ws.length m).map fun u => ld rs u st) = ((allU ws.length m).map fun u => ld rs u st).map fun x => sts.idxOf x := by unfold num; rw [eL]
      have hmem : ∀ x ∈ ((allU ws.length m).map fun u => ld rs u st), x ∈ sts := fun x hx => by rw [← eL]; exact (uq_mem _ [] x).mpr (.inr hx)
      have h3 := uq_map (f := fun x : Int => sts.idxOf x) ((allU ws.length m).map fun u => ld rs u st) [] (fun x hx y hy e => idx_inj (hmem x (by simpa using hx)) (hmem y (by simpa using hy)) e)
      rw [List.map_nil] at h3
      rw [h2, h3, eL, List.length_map]
    have eQ : ((allU ws.length m).map fun u => lN (shR (renR rs sts) g) u 0) = ((allU ws.length m).map fun u => lN (renR rs sts) u 0).map fun i => g.getD i 0 := by
      rw [List.map_map]
      exact List.map_congr_left fun u hu => q0 (hlet u hu)
    have euQ : uq [] ((allU ws.length m).map fun u => lN (shR (renR rs sts) g) u 0) = uq [] g := by
      rw [eQ, uq_uq (f := fun i => g.getD i 0) _ _ rfl, eu]
      congr 1
      rw [← hrl, ← gl]
      exact range_map_getD g
    have erange := canon_range gn
    refine ⟨?_, by rw [euQ, erange, hsl, kept_full gn]⟩
    have : num ((allU ws.length m).map fun u => lN (shR (renR rs sts) g) u 0) = ((allU ws.length m).map fun u => lN (shR (renR rs sts) g) u 0).map fun x => (uq [] g).idxOf x := by unfold num; rw [euQ]
    rw [this, List.map_map]
    refine List.map_congr_left fun u hu => ?_
    show (uq [] g).idxOf (lN (shR (renR rs sts) g) u 0) = _
    rw [q0 (hlet u hu)]
    obtain ⟨a1, _⟩ := run0 (hlet u hu)
    exact canon_idx gn (List.mem_of_getElem? (getD_get (0 : Nat) (by omega)))
end K1
set_option Elab.async false
set_option linter.all false
set_option maxRecDepth 100000
/-! Machine.least, told with the language only; least machines and the search over pairs -/
namespace K1
open PySem L2 LamX
theorem intL_inj {l m : List Nat} (h : intL l = intL m) : l = m := by
  have h2 := congrArg (List.map Int.toNat) h
  unfold intL at h2
  rw [List.map_map, List.map_map] at h2
  have e : (Int.toNat ∘ fun (k : Nat) => (k : Int)) = id := by funext k; simp
  rw [e, List.map_id, List.map_id] at h2
  exact h2
theorem intLs_inj {l m : List (List Nat)} (h : l.map intL = m.map intL) : l = m := by
  refine List.map_inj_right (f := intL) (fun a b e => intL_inj e) |>.mp h
/-- least machines are equal if and only if their languages are -/
theorem core_iff {w : Nat} {lr1 lr2 : List (List Nat)} {lt1 lt2 : List Str} {tw1 tw2 : List Nat → Str} (h1 : LM w lr1 lt1 tw1) (h2 : LM w lr2 lt2 tw2) :
    (lr1.map intL = lr2.map intL ∧ lt1 = lt2) ↔ ∀ v : List Nat, (∀ k ∈ v, k < w) → tw1 v = tw2 v := by
  constructor
  · rintro ⟨e1, e2⟩ v hv
    rw [← h1.tells v hv, ← h2.tells v hv, intLs_inj e1, e2]
  · intro he
    obtain ⟨e1, e2⟩ := h1.unique h2 he
    exact ⟨by rw [e1], e2⟩
theorem run_led2 (rs1 rs2 : List (List Int)) : ∀ (u : List Nat) (a b : Int), runT [rs1, rs2] [a, b] u = [ld rs1 u a, ld rs2 u b]
  | [], a, b => rfl
  | k :: u, a, b => by
    show runT [rs1, rs2] (stepT [rs1, rs2] k [a, b]) u = _
    exact run_led2 rs1 rs2 u _ _
theorem dif_twM (rs1 rs2 : List (List Int)) (ss1 ss2 : List Str) (a b : Int) (u : List Nat) : dif ss1 ss2 (runT [rs1, rs2] [a, b] u) = true ↔ twM rs1 ss1 a u ≠ twM rs2 ss2 b u := by
  rw [run_led2]
  exact decide_eq_true_iff
/-- no word parts two machines -/
theorem noW_iff {w : Nat} {rs1 rs2 : List (List Int)} {ss1 ss2 : List Str} {a b : Int} : NoW w (runT [rs1, rs2] [a, b]) ss1 ss2 ↔ ∀ v : List Nat, (∀ k ∈ v, k < w) → twM rs1 ss1 a v = twM rs2 ss2 b v := by
  constructor
  · intro h v hv
    by_cases e : twM rs1 ss1 a v = twM rs2 ss2 b v
    · exact e
    · have h1 := List.find?_eq_none.mp (h v.length) v ((allU_mem w v.length v).mpr ⟨Nat.le_refl _, hv⟩)
      exact absurd ((dif_twM rs1 rs2 ss1 ss2 a b v).mpr e) h1
  · intro h n
    refine List.find?_eq_none.mpr fun v hv hd => ?_
    exact (dif_twM rs1 rs2 ss1 ss2 a b v).mp hd (h v ((allU_mem w n v).mp hv).2)
theorem firstW_ne {w : Nat} {rs1 rs2 : List (List Int)} {ss1 ss2 : List Str} {a b : Int} {u : List Nat} (h : FirstW w (runT [rs1, rs2] [a, b]) ss1 ss2 u) : (∀ k ∈ u, k < w) ∧ twM rs1 ss1 a u ≠ twM rs2 ss2 b u := by
  obtain ⟨_, h2, h3⟩ := find_len h
  exact ⟨h2, (dif_twM rs1 rs2 ss1 ss2 a b u).mp h3⟩
theorem dif_swap (rs1 rs2 : List (List Int)) (ss1 ss2 : List Str) (a b : Int) (u : List Nat) : dif ss1 ss2 (runT [rs1, rs2] [a, b] u) = dif ss2 ss1 (runT [rs2, rs1] [b, a] u) := by
  rw [Bool.eq_iff_iff, dif_twM, dif_twM]
  exact ne_comm
/-- the same both ways -/
theorem firstW_swap {w : Nat} {rs1 rs2 : List (List Int)} {ss1 ss2 : List Str} {a b : Int} {u : List Nat} (h : FirstW w (runT [rs1, rs2] [a, b]) ss1 ss2 u) : FirstW w (runT [rs2, rs1] [b, a]) ss2 ss1 u := by
  unfold FirstW at *
  rw [← h]
  congr 1
  funext v
  exact (dif_swap rs1 rs2 ss1 ss2 a b v).symm
theorem noW_swap {w : Nat} {rs1 rs2 : List (List Int)} {ss1 ss2 : List Str} {a b : Int} (h : NoW w (runT [rs1, rs2] [a, b]) ss1 ss2) : NoW w (runT [rs2, rs1] [b, a]) ss2 ss1 :=
  noW_iff.mpr fun v hv => (noW_iff.mp h v hv).symm
/-- Machine.least: some least machine of the language -/
def spCore (K : PySem.W.Frag) (C : Addr) : Sp := fun vs H Q _ => ∃ (x : Addr) (ws : List Str) (rs : List (List Int)) (ss : List Str) (st : Int), vs = [.ref x] ∧ MachAt K C H x ws rs ss st ∧ Parts ws rs ss st ∧
  ∀ (y : Addr) (H' : Hp) (lr : List (List Nat)) (lt : List Str), LM ws.length lr lt (twM rs ss st) → Parts ws (lr.map intL) lt 0 → H y = none → Same H H' → MachAt K C H' y ws (lr.map intL) lt 0 → Q (.ref y) H'
theorem core_ok {P : Program} {w : World} {K : PySem.W.Frag} {mg : Str → Option Value} {base : Heap} {CX : CXT} {j : Nat} {f C : Addr} {fd : FuncData} {ps : List Str} (F : FnOk P w K mg base CX j f fd ps (spLeast K C)) : FnOk P w K mg base CX j f fd ps (spCore K C) := by
  refine F.imp ?_
  rintro vs H Q E ⟨x, ws, rs, ss, st, e, mx, pt, k⟩
  refine ⟨x, ws, rs, ss, st, e, mx, pt, fun y H' n t M eb hf hy hs hm => ?_⟩
  exact k y H' _ _ (lm_of pt eb rfl hf) (parts_least pt (rch_of pt eb) t) hy hs hm
/-- the start's language of a least machine is the machine's -/
theorem twM_least {ws : List Str} {lr : List (List Nat)} {lt : List Str} {tw : List Nat → Str} (h : LM ws.length lr lt tw) {v : List Nat} (hv : ∀ k ∈ v, k < ws.length) : twM (lr.map intL) lt 0 v = tw v := by
  rw [← h.tells v hv]
  unfold twM
  have hrun : ∀ (v : List Nat) (s : Nat), s < lr.length → (∀ k ∈ v, k < ws.length) → ld (lr.map intL) v (s : Int) = ((lN lr v s : Nat) : Int) := by
    intro v
    induction v with
    | nil => intro s _ _; rfl
    | cons k v ih =>
      intro s hs hk
      have hk0 := hk k List.mem_cons_self
      have h1 := h.ok.step hs hk0
      have h2 := ih ((lr.getD s []).getD k 0) h1 fun j hj => hk j (List.mem_cons_of_mem _ hj)
      have h3 : (((lr.map intL).getD (s : Int).toNat []).getD k 0) = (((lr.getD s []).getD k 0 : Nat) : Int) := by
        have hr := (h.ok.at hs).1
        have e1 : (lr.map intL).getD (s : Int).toNat [] = intL (lr.getD s []) := by
          rw [Int.toNat_natCast, List.getD_eq_getElem?_getD, List.getElem?_map, List.getElem?_eq_getElem hs, List.getD_eq_getElem?_getD, List.getElem?_eq_getElem hs]; rfl
        rw [e1]
        generalize lr.getD s [] = r at hr
        unfold intL
        rw [List.getD_eq_getElem?_getD, List.getElem?_map, List.getElem?_eq_getElem (by omega), List.getD_eq_getElem?_getD, List.getElem?_eq_getElem (by omega)]; rfl
      show ld (lr.map intL) v _ = ((lN lr v ((lr.getD s []).getD k 0) : Nat) : Int)
      rw [← h2]
      exact congrArg (ld (lr.map intL) v) h3
  have h0 : 0 < lr.length := by
    obtain ⟨n0, hc⟩ := h.can
    obtain ⟨_, h2⟩ := hc n0 (Nat.le_refl _)
    have hm : lN lr [] 0 ∈ (allU ws.length n0).map fun u => lN lr u 0 := List.mem_map.mpr ⟨[], (allU_mem _ _ _).mpr ⟨Nat.zero_le _, by simp⟩, rfl⟩
    have hm2 := (uq_mem _ [] _).mpr (.inr hm)
    rw [h2] at hm2
    have := List.mem_range.mp hm2
    omega
  have := hrun v 0 h0 hv
  rw [show ((0 : Nat) : Int) = (0 : Int) from rfl] at this
  rw [this, Int.toNat_natCast]
end K1
set_option Elab.async false
set_option linter.all false
set_option maxRecDepth 100000
/-! Machine.parting of machines with the same deeds -/
namespace K1
open PySem L2 LamX
abbrev sMPart : Stmt := inClass (top 34) 10
def spPartS (K : PySem.W.Frag) (C : Addr) : Sp := fun vs H Q _ => ∃ (x y : Addr) (ws : List Str) (rs1 : List (List Int)) (ss1 : List Str) (st1 : Int) (rs2 : List (List Int)) (ss2 : List Str) (st2 : Int),
  vs = [.ref x, .ref y] ∧ MachAt K C H x ws rs1 ss1 st1 ∧ MachAt K C H y ws rs2 ss2 st2 ∧ Parts ws rs1 ss1 st1 ∧ Parts ws rs2 ss2 st2 ∧ OkS ws ∧
  (∀ u p H', FirstW ws.length (runT [rs1, rs2] [st1, st2]) ss1 ss2 u → H p = none → Same H H' → H' p = some (.tup (names ws u)) → Q (.ref p) H') ∧
  (∀ H', NoW ws.length (runT [rs1, rs2] [st1, st2]) ss1 ss2 → Same H H' → Q .non H')
section
variable {P : Program} {w : World} {K : PySem.W.Frag} {mg : Str → Option Value} {base : Heap}
abbrev pPt : List Str := ["self", "other"]
theorem scPt : FnScope pPt pPt (defScope sMPart) := ⟨rfl, rfl, rfl, by decide +kernel, rfl, by decide +kernel, by decide +kernel⟩
theorem ok_partS {C f fP : Addr} {fd fdP : FuncData} (F : Fun K "parting" "Machine.parting" sMPart f fd) (M : Tm K mg C) (T : Bt2 mg)
    (DP : Df K mg "first_parting" sFP pFP fP fdP) (GP : FnOk P w K mg base CX0 2 fP fdP pFP (spFP K C)) : FnOk P w K mg base CX0 3 f fd pPt (spPartS K C) := by
  refine F.ok scPt (fun vs H Q E h => ?_) (fun cdv A outer s H vs Q E hr h => ?_)
  · obtain ⟨x, y, ws, rs1, ss1, st1, rs2, ss2, st2, rfl, _⟩ := h
    rfl
  · obtain ⟨x, y, ws, rs1, ss1, st1, rs2, ss2, st2, rfl, mx, my, px, py, ow, kS, kN⟩ := h
    refine ⟨_, pss_cons (ps_if (pt_cmpR (op_neD hr.units) (pe_fld (pv 0) rfl) (pe_fld (pv 1) rfl) (nomark _)) pss_never pss_nil)
      (pss_one (ps_ret (pe_call GP hr rfl DP.g DP.F.kp DP.b .nil pass0 (pa_cons (pv 0) (pa_cons (pe_fld (pv 0) rfl) (pa_cons (pv 1) (pa_cons (pe_fld (pv 1) rfl) pa_nil))))))), ?_⟩
    obtain ⟨dx, t, r, l, as, hx, ht, hr', hR, hl⟩ := id mx
    obtain ⟨dy, t2, r2, l2, as2, hy, ht2, hr2, hR2, hl2⟩ := id my
    refine ⟨_, rfl, x, C, dx, _, _, rfl, hx, M.cl, M.nD, mf_deeds _ _ _ _, _, rfl, y, C, dy, _, _, rfl, hy, M.cl, M.nD, mf_deeds _ _ _ _, _, _, .tup ht.sq (dp_strs ws), .tup ht2.sq (dp_strs ws), shaped_strs ow, shaped_strs ow, _, rfl, ?_⟩
    rw [PyData.eqv, eqv_strs]
    refine ite2 (fun h => by simp at h) (fun _ => ?_)
    refine ⟨_, rfl, _, rfl, x, C, dx, _, _, rfl, hx, M.cl, M.nS, mf_start _ _ _ _, _, rfl, _, rfl, y, C, dy, _, _, rfl, hy, M.cl, M.nS, mf_start _ _ _ _, x, y, st1, st2, ws, rs1, ss1, st1, rs2, ss2, st2, rfl, mx, my, px, py, px.st.1, px.st.2, py.st.1, py.st.2, kS, kN⟩
end
end K1
set_option Elab.async false
set_option linter.all false
set_option maxRecDepth 100000
/-! Machine.parting with OtherDeeds -/
namespace K1
open PySem L2 LamX
section
variable {P : Program} {w : World} {K : PySem.W.Frag} {mg : Str → Option Value} {base : Heap}
abbrev sOtherDeeds : Stmt := inClass (top 10) 0
theorem scOtherDeeds : FnScope ["self", "have", "want"] ["self", "have", "want"] (defScope sOtherDeeds) := ⟨rfl, rfl, rfl, by decide +kernel, rfl, by decide +kernel, by decide +kernel⟩
abbrev OOtherDeeds (K : PySem.W.Frag) (mg : Str → Option Value) (C fI : Addr) (fd : FuncData) : Prop := Oer K mg "OtherDeeds" ["have", "want"] C fI fd "OtherDeeds.__init__" sOtherDeeds
theorem ini_OtherDeeds {C fI : Addr} {fd : FuncData} (O : OOtherDeeds K mg C fI fd) : FnOk P w K mg base CX0 1 fI fd ["self", "have", "want"] (spIni C ["have", "want"]) := by
  refine O.F.ok scOtherDeeds (fun vs H Q E h => ?_) (fun cdv A outer s H vs Q E hr h => ?_)
  · obtain ⟨a, ys, rfl, e, _⟩ := h
    show ys.length + 1 = _
    rw [e]; rfl
  · obtain ⟨a, ys, rfl, e, ha, k⟩ := h
    obtain ⟨y0, y1, rfl⟩ : ∃ y0 y1, ys = [y0, y1] := by
      match ys, e with
      | [y0, y1], _ => exact ⟨y0, y1, rfl⟩
    refine ⟨_, pss_cons (ps_ost (f := "have") (pv 0) (pv 1)) (pss_one (ps_ost (f := "want") (pv 0) (pv 2))), ?_⟩
    refine ⟨_, rfl, _, rfl, a, C, rfl, O.T, O.no _ (List.mem_cons_self ..), .inl ⟨ha, fun dx hdx ne => ?_⟩⟩
    refine ⟨_, rfl, _, rfl, a, C, rfl, O.T, O.no _ (List.mem_cons_of_mem _ (List.mem_cons_self ..)), .inr ⟨dx, [("have", y0)], ?ea1, ?ed1, by show 1 ≤ 900; decide, ?nx1⟩⟩
    case ea1 => exact upd_same
    case ed1 => (rw [upd_ne ne]; exact upd_same)
    refine k dx hdx ne _ (fun b o eb nb => ?_) ?_ ?_
    · rw [upd_ne (ne_of_none eb hdx), upd_ne nb, upd_ne (ne_of_none eb hdx)]; exact eb
    · rw [upd_ne ne.symm]; exact upd_same
    · exact upd_same
end
/-- parting: other deeds, or the first row, or None -/
def spPart (K : PySem.W.Frag) (C CO : Addr) : Sp := fun vs H Q E => ∃ (x y : Addr) (ws1 : List Str) (rs1 : List (List Int)) (ss1 : List Str) (st1 : Int) (ws2 : List Str) (rs2 : List (List Int)) (ss2 : List Str) (st2 : Int),
  vs = [.ref x, .ref y] ∧ MachAt K C H x ws1 rs1 ss1 st1 ∧ MachAt K C H y ws2 rs2 ss2 st2 ∧ Parts ws1 rs1 ss1 st1 ∧ Parts ws2 rs2 ss2 st2 ∧ OkS ws1 ∧ OkS ws2 ∧
  (ws1 ≠ ws2 → ∀ t1 t2, SqF H t1 (ws1.map V.str) → SqF H t2 (ws2.map V.str) → Rs CO ["have", "want"] [.ref t1, .ref t2] H E) ∧
  (ws1 = ws2 → (∀ u p H', FirstW ws1.length (runT [rs1, rs2] [st1, st2]) ss1 ss2 u → H p = none → Same H H' → H' p = some (.tup (names ws1 u)) → Q (.ref p) H') ∧
  (∀ H', NoW ws1.length (runT [rs1, rs2] [st1, st2]) ss1 ss2 → Same H H' → Q .non H'))
section
variable {P : Program} {w : World} {K : PySem.W.Frag} {mg : Str → Option Value} {base : Heap}
theorem ok_part {C CO fO f fP : Addr} {fd fdP fdO : FuncData} (F : Fun K "parting" "Machine.parting" sMPart f fd) (M : Tm K mg C) (T : Bt2 mg)
    (DP : Df K mg "first_parting" sFP pFP fP fdP) (GP : FnOk P w K mg base CX0 2 fP fdP pFP (spFP K C)) (O : OOtherDeeds K mg CO fO fdO) : FnOk P w K mg base (L2.CX P w) 3 f fd pPt (spPart K C CO) := by
  refine F.okX scPt (fun vs H Q E h => ?_) (fun cdv A outer s H vs Q E hr h => ?_)
  · obtain ⟨x, y, ws1, rs1, ss1, st1, ws2, rs2, ss2, st2, rfl, _⟩ := h
    rfl
  · obtain ⟨x, y, ws1, rs1, ss1, st1, ws2, rs2, ss2, st2, rfl, mx, my, px, py, ow1, ow2, kE, kk⟩ := h
    refine ⟨_, pss_cons (ps_if (pt_cmpR (op_neD hr.units) (pe_fld (pv 0) rfl) (pe_fld (pv 1) rfl) (nomark _))
        (pss_one (ps_raise rfl (takes_of rfl rfl rfl rfl) (pmk_oex O.T O.ini O.tI (ini_OtherDeeds O) (hr.mono (by decide)) O.b .nil pass0 rfl O.g (pa_cons (pe_fld (pv 0) rfl) (pa_cons (pe_fld (pv 1) rfl) pa_nil))))) pss_nil)
      (pss_one (ps_ret (pe_call GP hr rfl DP.g DP.F.kp DP.b .nil pass0 (pa_cons (pv 0) (pa_cons (pe_fld (pv 0) rfl) (pa_cons (pv 1) (pa_cons (pe_fld (pv 1) rfl) pa_nil))))))), ?_⟩
    obtain ⟨dx, t, r, l, as, hx, ht, hr', hR, hl⟩ := id mx
    obtain ⟨dy, t2, r2, l2, as2, hy, ht2, hr2, hR2, hl2⟩ := id my
    refine ⟨_, rfl, x, C, dx, _, _, rfl, hx, M.cl, M.nD, mf_deeds _ _ _ _, _, rfl, y, C, dy, _, _, rfl, hy, M.cl, M.nD, mf_deeds _ _ _ _, _, _, .tup ht.sq (dp_strs ws1), .tup ht2.sq (dp_strs ws2), shaped_strs ow1, shaped_strs ow2, _, rfl, ?_⟩
    rw [PyData.eqv, eqv_strs]
    refine ite2 (fun h => ?_) (fun h => ?_)
    · have hne : ws1 ≠ ws2 := by simpa using h
      refine ⟨_, rfl, x, C, dx, _, _, rfl, hx, M.cl, M.nD, mf_deeds _ _ _ _, _, rfl, y, C, dy, _, _, rfl, hy, M.cl, M.nD, mf_deeds _ _ _ _, ?_⟩
      exact err_read (fs := ["have", "want"]) (by decide) rfl (kE hne t t2 ht ht2)
    · have e1 : ws1 = ws2 := by simpa using h
      subst e1
      obtain ⟨kS, kN⟩ := kk rfl
      refine ⟨_, rfl, _, rfl, x, C, dx, _, _, rfl, hx, M.cl, M.nS, mf_start _ _ _ _, _, rfl, _, rfl, y, C, dy, _, _, rfl, hy, M.cl, M.nS, mf_start _ _ _ _, x, y, st1, st2, ws1, rs1, ss1, st1, rs2, ss2, st2, rfl, mx, my, px, py, px.st.1, px.st.2, py.st.1, py.st.2, kS, kN⟩
end
end K1
set_option Elab.async false
set_option linter.all false
set_option maxRecDepth 100000
/-! what a law that makes machines wants (out of BfP) -/
namespace K1
open PySem L2 LamX
theorem made_pre {H : Hp} {x dx C : Addr} (hx : H x = none) (hd : H dx = none) : Same H (upd (upd H dx (.own x)) x (.ins C dx [])) := fun b o e => by
  rw [upd_ne (ne_of_none e hx), upd_ne (ne_of_none e hd)]; exact e
theorem made_same {H G : Hp} {x dx C : Addr} (hx : H x = none) (hd : H dx = none) (k : Kept x (upd (upd H dx (.own x)) x (.ins C dx [])) G) : Same H G := fun b o e => by
  have n1 : b ≠ x := ne_of_none e hx
  have n2 : b ≠ dx := ne_of_none e hd
  exact k b o (by rw [upd_ne n1, upd_ne n2]; exact e) n1
theorem MachAt.kd {K : PySem.W.Frag} {C d : Addr} {kv : List (Key × V)} {H H' : Hp} {x : Addr} {ws : List Str} {rs : List (List Int)} {ss : List Str} {st : Int} (h : MachAt K C H x ws rs ss st) (hd : H d = some (.dK kv)) (k : Kept d H H') : MachAt K C H' x ws rs ss st := by
  obtain ⟨dx, t2, r2, l2, as2, f1, f2, f3, f4, f5⟩ := h
  have ne : ∀ {a : Addr} {u : HO}, H a = some u → (∀ kv, u ≠ .dK kv) → a ≠ d := fun e n z => by rw [z, hd] at e; cases e; exact n _ rfl
  have kt : ∀ {a : Addr} {u : HO}, H a = some u → (∀ kv, u ≠ .dK kv) → H' a = some u := fun h n => k _ _ h (ne h n)
  exact ⟨dx, t2, r2, l2, as2, kt f1 (fun _ z => by cases z), k.seqF hd (fun o ys e => by cases e) f2, kt f3 (fun _ z => by cases z), ⟨f4.1, fun i a r g1 g2 => kt (f4.2 i a r g1 g2) (fun _ z => by cases z)⟩, kt f5 (fun _ z => by cases z)⟩
theorem PenAt.dk {H : Hp} {d c : Addr} {n : Nat} (h : PenAt H d c n) : ∃ kv, H d = some (.dK kv) := by
  obtain ⟨_, _, _, hd, _⟩ := h
  exact ⟨_, hd⟩
theorem names_rep (ws : List Str) (n : Nat) : names ws (List.replicate n 0) = (List.replicate n (ws.getD 0 "")).map V.str := by
  rw [names, List.map_replicate, List.map_replicate]
theorem names_str (ws : List Str) (u : List Nat) : names ws u = (u.map fun k => ws.getD k "").map V.str := by rw [names, List.map_map]; rfl
theorem repA_any {K : PySem.W.Frag} {H : Hp} {Q : VK} {t : Addr} {j : Nat} {xs : List V} (ht : SqT K H t xs) (hne : xs ≠ []) (hj : j ≤ 1000) (hl : xs.length ≤ 1000) (k : ∀ q H', SqT K H' q (List.replicate j xs).flatten → Same H H' → Q (.ref q) H') : rRepA K (.ref t) (.int (j : Int)) H Q := by
  refine ⟨t, j, xs, rfl, rfl, ht, hne, hj, hl, fun e p hp => ?_, fun e => ?_, fun _ p hp => k p _ (SqT.of upd_same) (same_upd hp)⟩
  · subst e
    exact k p _ (SqT.of upd_same) (same_upd hp)
  · subst e
    exact k t H (by simpa using ht) (Same.refl H)
theorem RowsAt.app {H : Hp} {as bs : List Addr} {rs qs : List (List Int)} (h : RowsAt H as rs) (e : RowsAt H bs qs) : RowsAt H (as ++ bs) (rs ++ qs) := by
  refine ⟨by simp [h.1, e.1], fun i b q e1 e2 => ?_⟩
  by_cases hi : i < as.length
  · rw [List.getElem?_append_left hi] at e1
    rw [List.getElem?_append_left (by rw [← h.1]; exact hi)] at e2
    exact h.2 i b q e1 e2
  · rw [List.getElem?_append_right (by omega)] at e1
    rw [List.getElem?_append_right (by rw [← h.1]; omega), ← h.1] at e2
    exact e.2 _ b q e1 e2
/-- a list of lists of ints, one more made -/
theorem rows_turn {H H1 : Hp} {D l : Addr} {ds : List Addr} {f : Nat → List Int} {m i : Nat} (hi : i < m) (zD : H D = none) (s : Same H H1) (hD : H1 D = some (.lst (ds.map V.ref))) (hR : RowsAt H1 ds (((List.range m).map f).take i)) (hne : ∀ a ∈ ds, a ≠ D) (hl : H1 l = none) {ys : List V} (ey : ys = (f i).map V.int) :
    upd H1 l (.lst ys) D = some (.lst (ds.map V.ref)) ∧ Same H (upd (upd H1 l (.lst ys)) D (.lst (ds.map V.ref ++ [V.ref l]))) ∧ upd (upd H1 l (.lst ys)) D (.lst (ds.map V.ref ++ [V.ref l])) D = some (.lst ((ds ++ [l]).map V.ref)) ∧
    RowsAt (upd (upd H1 l (.lst ys)) D (.lst (ds.map V.ref ++ [V.ref l]))) (ds ++ [l]) (((List.range m).map f).take (i + 1)) ∧ ∀ a ∈ ds ++ [l], a ≠ D := by
  have nlD : l ≠ D := (ne_of_none hD hl).symm
  have hn2 : ∀ a ∈ ds ++ [l], a ≠ D := fun a ha => by
    rcases List.mem_append.mp ha with h | h
    · exact hne a h
    · rw [List.mem_singleton.mp h]; exact nlD
  refine ⟨by rw [upd_ne nlD.symm]; exact hD, fun b o e => by rw [upd_ne (ne_of_none e zD)]; exact same_upd hl _ _ (s b o e), by rw [upd_same, List.map_append]; rfl, ?_, hn2⟩
  have e1 : ((List.range m).map f).take (i + 1) = ((List.range m).map f).take i ++ [f i] := by
    rw [List.take_add_one, List.getElem?_map, List.getElem?_range hi]; rfl
  rw [e1]
  have h1 := (hR.same (same_upd (o := .lst ys) hl)).snoc (a := l) (r := f i) (by rw [upd_same, ey])
  refine ⟨h1.1, fun j a r f1 f2 => ?_⟩
  rw [upd_ne (hn2 a (List.mem_of_getElem? f1))]
  exact h1.2 j a r f1 f2
/-- a machine stays while a list changes -/
theorem MachAt.kl {K : PySem.W.Frag} {C D : Addr} {xs ys : List V} {H : Hp} {x : Addr} {ws : List Str} {rs : List (List Int)} {ss : List Str} {st : Int} (h : MachAt K C H x ws rs ss st) (hD : H D = some (.lst xs)) : MachAt K C (upd H D (.lst ys)) x ws rs ss st := by
  obtain ⟨dx, t2, r2, l2, as2, f1, f2, f3, f4, f5⟩ := h
  have kt : ∀ {a : Addr} {u : HO}, H a = some u → (∀ zs, u ≠ .lst zs) → upd H D (.lst ys) a = some u := fun {a u} e n => by
    have : a ≠ D := fun z => by rw [z, hD] at e; cases e; exact n _ rfl
    rw [upd_ne this]; exact e
  obtain ⟨o, ho, hd⟩ := f2
  exact ⟨dx, t2, r2, l2, as2, kt f1 (fun _ z => by cases z), ⟨o, kt ho (fun _ z => by cases z), hd⟩, kt f3 (fun _ z => by cases z), ⟨f4.1, fun i a r g1 g2 => kt (f4.2 i a r g1 g2) (fun _ z => by cases z)⟩, kt f5 (fun _ z => by cases z)⟩
/-- a slice of a tuple, whichever -/
theorem slA_any {K : PySem.W.Frag} {H : Hp} {Q : VK} {a : Addr} {xs : List V} {lo hi : Option Int} (ha : SqT K H a xs) (k : ∀ p H', SqT K H' p (cutV xs lo hi) → Same H H' → Q (.ref p) H') : rSlA K (.ref a) lo hi H Q := by
  refine ⟨a, xs, rfl, ha, fun e => k a H ?_ (Same.refl H), fun _ p hp => k p _ (SqT.of upd_same) (same_upd hp)⟩
  have : cutV xs lo hi = xs := by
    unfold cutV
    rw [e.1, e.2]; simp
  rw [this]; exact ha
theorem cut_toA {xs : List V} {k : Nat} (h : k ≤ xs.length) : cutV xs none (some (k : Int)) = xs.take k := by
  have e : HT.sIx xs.length xs.length (some (k : Int)) = min k xs.length := HT.sIx_nat xs.length xs.length k
  unfold cutV
  rw [HT.sIx_none, e, Nat.min_eq_left h]; simp
theorem cut_from {xs : List V} {k : Nat} (h : k ≤ xs.length) : cutV xs (some (k : Int)) none = xs.drop k := by
  have e : HT.sIx xs.length 0 (some (k : Int)) = min k xs.length := HT.sIx_nat xs.length 0 k
  unfold cutV
  rw [HT.sIx_none, e, Nat.min_eq_left h]
  rw [List.take_of_length_le (by simp)]
theorem cut_last {xs : List V} (h : 1 ≤ xs.length) : cutV xs none (some (-1)) = xs.dropLast := by
  have e : HT.sIx xs.length xs.length (some (-1)) = xs.length - 1 := by
    show (if (-1 : Int) < 0 then ((-1 : Int) + (xs.length : Int)).toNat else min (-1 : Int).toNat xs.length) = _
    rw [if_pos (by decide)]; omega
  unfold cutV
  rw [HT.sIx_none, e]; simp [List.dropLast_eq_take]
theorem first_one {w : Nat} {r : List Nat → List Int} {s1 s2 : List Str} {u v : List Nat} (hu : FirstW w r s1 s2 u) (hv : FirstW w r s1 s2 v) : u = v := by
  unfold FirstW at hu hv
  by_cases h : u.length ≤ v.length
  · obtain ⟨R, e⟩ := allU_pre w h
    rw [e, List.find?_append, hu] at hv
    exact Option.some.inj hv
  · obtain ⟨R, e⟩ := allU_pre w (show v.length ≤ u.length by omega)
    rw [e, List.find?_append, hv] at hu
    exact (Option.some.inj hu).symm
end K1
set_option Elab.async false
set_option linter.all false
set_option maxRecDepth 100000
/-! tuples that are known to have no dict: of + and of displays -/
namespace L2
open PySem PySem.Spec PyProof.Rows
section
variable {X : Cx}
def rCatF (K : PySem.W.Frag) : R2 := fun x y H Q => ∃ a b xs ys, x = .ref a ∧ y = .ref b ∧ SqT K H a xs ∧ SqT K H b ys ∧ xs.length + ys.length ≤ sizeLine ∧
  (xs = [] → Q (.ref b) H) ∧ (xs ≠ [] → ys = [] → Q (.ref a) H) ∧ (xs ≠ [] → ys ≠ [] → ∀ p o, H p = none → o.dict = none → Q (.ref p) (upd H p (.frz o (.tup (xs ++ ys)))))
theorem op_catF : OpR X (binaryOp .Add) (rCatF X.K) := by
  intro pins s σ H x y v u Q I rx ry h
  obtain ⟨a, b, xs, ys, rfl, rfl, ha, hb, hz, q0, q1, q2⟩ := h
  by_cases hx : xs = []
  · subst hx
    cases rx
    cases ry
    obtain ⟨its, r1, p1, _⟩ := I.tuple ha
    obtain ⟨its2, r2, p2, _⟩ := I.tuple hb
    cases r1
    exact cat_tup0 p1 p2 ⟨.ref b, H, I, rfl, q0 rfl⟩
  · cases rx
    cases ry
    obtain ⟨its, r1, p1, _⟩ := I.tuple ha
    obtain ⟨its2, r2, p2, _⟩ := I.tuple hb
    refine HT.cat_tup p1 p2 (fun z => hx (r1.nil_iff.mp z)) (fun z => ⟨.ref a, H, I, rfl, q1 hx (r2.nil_iff.mp z)⟩) (fun z => ?_) (by rw [← r1.length, ← r2.length]; exact hz)
    refine ⟨.ref s.heap.objs.size, _, I.laid (t' := s.toks) (o := .frz { cls := .type "tuple", data := .seq (its ++ its2).toArray } (.tup (xs ++ ys))) (fun b ob q => Heap.get?_push_of_some _ q) (Nat.le_refl _) ?_, rfl, q2 hx (fun w => z (r2.nil_iff.mpr w)) _ _ (I.hok.fresh (Nat.le_refl _)) rfl⟩
    exact ⟨Heap.get?_push_size _ rfl, by rw [List.length_append]; exact hz, _, r1.append r2, IsTup.new _ _⟩
def tTupF (t : TA) : TE := fun σ H Q => t σ H fun xs H1 => xs.length ≤ sizeLine ∧ ∀ p o, H1 p = none → o.dict = none → Q (.ref p) (upd H1 p (.frz o (.tup xs)))
theorem pe_tupF {es : List Expr} {t : TA} {pos : Pos} {x1} (h : PA X es t) : PE X (.Tuple es x1 pos) (tTupF t) := by
  refine ⟨fun pins s σ H Q I hq => ?_⟩
  refine wpAny_Tuple_spliced (thn (h.run pos pins s σ H _ I hq) fun us s1 ⟨xs, H1, I1, r, z, q⟩ => ⟨by rw [← r.length]; exact z, ?_⟩)
  have hf : H1 s1.heap.objs.size = none := I1.hok.fresh (Nat.le_refl _)
  refine ⟨.ref s1.heap.objs.size, upd H1 s1.heap.objs.size (.frz { cls := .type "tuple", data := .seq us.toArray } (.tup xs)), I1.laid (t' := s1.toks) (fun b u e => Heap.get?_push_of_some _ e) (Nat.le_refl _) ?_, rfl, q _ _ hf rfl⟩
  exact ⟨Heap.get?_push_size _ rfl, z, us, r, ⟨_, Heap.get?_push_size _ rfl, rfl, _, rfl⟩⟩
end
end L2
namespace K1
open PySem L2
theorem sqF_new {H : Hp} {p : Addr} {o : Obj} {xs : List V} (h : o.dict = none) : SqF (upd H p (.frz o (.tup xs))) p xs := ⟨o, upd_same, h⟩
theorem catF_any {K : PySem.W.Frag} {H : Hp} {Q : VK} {a b : Addr} {xs ys : List V} (ha : SqT K H a xs) (hb : SqT K H b ys) (fa : ys = [] → SqF H a xs) (fb : xs = [] → SqF H b ys) (hz : xs.length + ys.length ≤ 1000) (k : ∀ p H', SqF H' p (xs ++ ys) → Same H H' → Q (.ref p) H') : rCatF K (.ref a) (.ref b) H Q :=
  ⟨a, b, xs, ys, rfl, rfl, ha, hb, Nat.le_of_lt (small1000 (by omega)), fun e => k b H (by rw [e]; exact fb e) (Same.refl H), fun _ e => k a H (by rw [e, List.append_nil]; exact fa e) (Same.refl H), fun _ _ p o hp ho => k p _ (sqF_new ho) (same_upd hp)⟩
/-- a slice of a tuple, whichever; the whole is the tuple itself -/
theorem slA_anyW {K : PySem.W.Frag} {H : Hp} {Q : VK} {a : Addr} {xs : List V} {lo hi : Option Int} (ha : SqT K H a xs) (k : ∀ p H', SqT K H' p (cutV xs lo hi) → (HT.sIx xs.length 0 lo = 0 ∧ HT.sIx xs.length xs.length hi = xs.length → p = a) → Same H H' → Q (.ref p) H') : rSlA K (.ref a) lo hi H Q := by
  refine ⟨a, xs, rfl, ha, fun e => k a H ?_ (fun _ => rfl) (Same.refl H), fun n p hp => k p _ (SqT.of upd_same) (fun e => absurd e n) (same_upd hp)⟩
  have : cutV xs lo hi = xs := by
    unfold cutV
    rw [e.1, e.2]; simp
  rw [this]; exact ha
end K1
set_option Elab.async false
set_option linter.all false
set_option maxRecDepth 100000
/-! a queue of words: the mathematics -/
namespace K1
open PySem L2 LamX
section
variable {r : List Nat → List Int} {w : Nat}
theorem exts_allU (w : Nat) : ∀ m, allU w (m + 1) = [] :: exts w (allU w m)
  | 0 => rfl
  | m + 1 => by
    show allU w (m + 1) ++ allW w (m + 2) = [] :: exts w (allU w m ++ allW w (m + 1))
    rw [exts_app, exts_allU w m]; rfl
theorem dd_one (l : List (List Nat)) : dd r [] ([] :: l) = dd r [[]] l := by rw [dd_cons]; rfl
theorem len_bound : ∀ M : List (List Nat), ∃ n0, ∀ u ∈ M, u.length ≤ n0
  | [] => ⟨0, fun u h => nomatch h⟩
  | a :: M => by
    obtain ⟨n, h⟩ := len_bound M
    refine ⟨max a.length n, fun u hu => ?_⟩
    rcases List.mem_cons.mp hu with rfl | hu
    · exact Nat.le_max_left _ _
    · exact Nat.le_trans (h u hu) (Nat.le_max_right _ _)
/-- a queue that has taken all its words' followers is all that is met -/
theorem queue_dd (hr : ∀ u v k, r u = r v → r (u ++ [k]) = r (v ++ [k])) {M : List (List Nat)} (hM : M = dd r [[]] (exts w M)) (hlt : ∀ u ∈ M, ∀ k ∈ u, k < w) : ∃ n0, ∀ m, n0 ≤ m → dd r [] (allU w m) = M := by
  obtain ⟨n0, hn0⟩ := len_bound M
  have hnd : (M.map r).Nodup := by rw [hM]; exact dd_nodup (by simp)
  have step : ∀ m, dd r [] (allU w (m + 1)) = dd r [[]] (exts w (dd r [] (allU w m))) := fun m => by
    rw [exts_allU, dd_one]
    exact exts_dd hr (allU w m) [] [[]] _ (by rw [List.nil_append]) (fun u hu => nomatch hu)
  have pre : ∀ m, ∃ N, M = dd r [] (allU w m) ++ N := by
    intro m
    induction m with
    | zero =>
      obtain ⟨N, e⟩ := dd_pre (r := r) (exts w M) [[]]
      exact ⟨N, by rw [← hM] at e; exact e⟩
    | succ m ih =>
      obtain ⟨N, e⟩ := ih
      have h1 : M = dd r [[]] (exts w (dd r [] (allU w m) ++ N)) := by rw [← e]; exact hM
      rw [exts_app, dd_app, ← step] at h1
      obtain ⟨N', e'⟩ := dd_pre (r := r) (exts w N) (dd r [] (allU w (m + 1)))
      exact ⟨N', h1.trans e'⟩
  refine ⟨n0, fun m hm => ?_⟩
  obtain ⟨N, e⟩ := pre m
  have hN : N = [] := by
    cases N with
    | nil => rfl
    | cons u N =>
      exfalso
      have hu : u ∈ M := by rw [e]; exact List.mem_append_right _ (List.mem_cons_self ..)
      have h1 : r u ∈ (dd r [] (allU w m)).map r := dd_mem ((allU_mem w m u).mpr ⟨Nat.le_trans (hn0 u hu) hm, hlt u hu⟩)
      rw [e, List.map_append] at hnd
      exact (List.nodup_append.mp hnd).2.2 _ h1 (r u) (by rw [List.map_cons]; exact List.mem_cons_self ..) rfl
  rw [hN, List.append_nil] at e
  exact e.symm
/-- .. and is what the layers end with -/
theorem queue_bfs (hr : ∀ u v k, r u = r v → r (u ++ [k]) = r (v ++ [k])) {M : List (List Nat)} (hM : M = dd r [[]] (exts w M)) (hlt : ∀ u ∈ M, ∀ k ∈ u, k < w) : ∃ n, bfs r w n = (M, []) := by
  obtain ⟨n0, h⟩ := queue_dd hr hM hlt
  have h1 : (bfs r w n0).1 = M := (bfs_ok hr w n0).all.trans (h n0 (Nat.le_refl _))
  have h2 : (bfs r w (n0 + 1)).1 = M := (bfs_ok hr w (n0 + 1)).all.trans (h _ (by omega))
  have h3 : (bfs r w (n0 + 1)).2 = [] := by
    show (dd r (bfs r w n0).1 (exts w (bfs r w n0).2)).drop (bfs r w n0).1.length = []
    have : dd r (bfs r w n0).1 (exts w (bfs r w n0).2) = M := h2
    rw [this, h1, List.drop_length]
  exact ⟨n0 + 1, Prod.ext h2 h3⟩
/-- a queue in the midst of it -/
structure Qu (r : List Nat → List Int) (w : Nat) (M : List (List Nat)) (i j : Nat) : Prop where
  eq : M = dd r [[]] (exts w (M.take i) ++ (ext w (M.getD i [])).take j)
  lt : ∀ u ∈ M, ∀ k ∈ u, k < w
  nd : (M.map r).Nodup
  hd : ∃ T, M = [] :: T
theorem Qu.init : Qu r w [[]] 0 0 := by
  refine ⟨by simp [exts, dd_nil], fun u hu k hk => ?_, by simp, ⟨[], rfl⟩⟩
  rw [List.mem_singleton.mp hu] at hk
  exact nomatch hk
theorem Qu.step {M : List (List Nat)} {i j : Nat} (q : Qu r w M i j) (hi : i < M.length) (hj : j < w) : Qu r w (dd r M [M.getD i [] ++ [j]]) i (j + 1) ∧ (dd r M [M.getD i [] ++ [j]]).take (i + 1) = M.take (i + 1) := by
  obtain ⟨N, e⟩ := dd_pre (r := r) [M.getD i [] ++ [j]] M
  have ht : ∀ n, n ≤ i + 1 → (M ++ N).take n = M.take n := fun n hn => by rw [List.take_append_of_le_length (by omega)]
  have hg : (M ++ N).getD i [] = M.getD i [] := by rw [List.getD_eq_getElem?_getD, List.getElem?_append_left hi, ← List.getD_eq_getElem?_getD]
  have hex : (ext w (M.getD i [])).take (j + 1) = (ext w (M.getD i [])).take j ++ [M.getD i [] ++ [j]] := by
    rw [List.take_add_one]
    unfold ext
    rw [List.getElem?_map, List.getElem?_range hj]; rfl
  refine ⟨⟨?_, ?_, dd_nodup q.nd, ?_⟩, by rw [e]; exact ht _ (Nat.le_refl _)⟩
  · rw [e, ht i (by omega), hg, hex, ← List.append_assoc, dd_app, ← q.eq, e]
  · intro u hu k hk
    rcases dd_sub hu with h | h
    · exact q.lt u h k hk
    · rw [List.mem_singleton.mp h] at hk
      rcases List.mem_append.mp hk with hk | hk
      · exact q.lt _ (List.mem_of_getElem? (getD_get ([] : List Nat) hi)) k hk
      · rw [List.mem_singleton.mp hk]; exact hj
  · obtain ⟨T, eT⟩ := q.hd
    exact ⟨T ++ N, by rw [e, eT]; rfl⟩
theorem Qu.next {M : List (List Nat)} {i : Nat} (q : Qu r w M i w) (hi : i < M.length) : Qu r w M (i + 1) 0 := by
  refine ⟨?_, q.lt, q.nd, q.hd⟩
  have h1 : (ext w (M.getD i [])).take w = ext w (M.getD i []) := List.take_of_length_le (by unfold ext; rw [List.length_map, List.length_range]; exact Nat.le_refl _)
  have h2 : M.take (i + 1) = M.take i ++ [M.getD i []] := by rw [List.take_add_one, getD_get ([] : List Nat) hi]; rfl
  have e := q.eq
  rw [h1] at e
  rw [h2, exts_app, List.take_zero, List.append_nil]
  rw [show exts w [M.getD i []] = ext w (M.getD i []) from by rw [exts_cons]; simp [exts]]
  exact e
theorem Qu.skip {M : List (List Nat)} {i : Nat} (q : Qu r w M i 0) (hi : M.length ≤ i) : Qu r w M (i + 1) 0 := by
  refine ⟨?_, q.lt, q.nd, q.hd⟩
  have e := q.eq
  rw [List.take_of_length_le hi] at e
  rw [List.take_of_length_le (by omega)]
  rw [List.take_zero] at e ⊢
  exact e
theorem Qu.fin {M : List (List Nat)} {i : Nat} (q : Qu r w M i 0) (hi : M.length ≤ i) : M = dd r [[]] (exts w M) := by
  have e := q.eq
  rw [List.take_of_length_le hi, List.take_zero, List.append_nil] at e
  exact e
end
/-- a search for the fixed point of alike ends -/
theorem fix_ex (rs : List (List Nat)) (zs : List Str) (hz : zs.length = rs.length) : ∃ t, stepG rs (gT rs zs t) = gT rs zs t := by
  have key : ∀ t, (∃ s, s < t ∧ stepG rs (gT rs zs s) = gT rs zs s) ∨ t ≤ (gT rs zs t).sum := by
    intro t
    induction t with
    | zero => exact .inr (Nat.zero_le _)
    | succ t ih =>
      rcases ih with ⟨s, hs, e⟩ | h
      · exact .inl ⟨s, by omega, e⟩
      · by_cases e : stepG rs (gT rs zs t) = gT rs zs t
        · exact .inl ⟨t, by omega, e⟩
        · obtain ⟨h1, h2⟩ := stepG_sum (gT_len hz t) (gT_num rs zs t)
          have h3 : (gT rs zs t).sum ≠ (stepG rs (gT rs zs t)).sum := fun z => e (h2 z).symm
          refine .inr ?_
          show t + 1 ≤ (stepG rs (gT rs zs t)).sum
          omega
  rcases key (rs.length * rs.length + 1) with ⟨s, _, e⟩ | h
  · exact ⟨s, e⟩
  · have := gT_sum hz (rs.length * rs.length + 1)
    omega
end K1
set_option Elab.async false
set_option linter.all false
set_option maxRecDepth 100000
set_option maxHeartbeats 1000000
/-! _law_first_rows -/
namespace K1
open PySem L2 LamX
abbrev sFirst : Stmt := top 50
def entQ (xs : List Int) (as : List Addr) : List (Key × V) := (xs.zip as).map fun p => (Sum.inl p.1, V.ref p.2)
theorem entQ_len {xs : List Int} {as : List Addr} (h : xs.length = as.length) : (entQ xs as).length = xs.length := by unfold entQ; rw [List.length_map, List.length_zip]; omega
theorem entQ_keys {xs : List Int} {as : List Addr} (h : xs.length = as.length) : (entQ xs as).map (·.1) = xs.map (fun z => (Sum.inl z : Key)) := by
  unfold entQ
  rw [List.map_map]
  have : ((fun p => p.1) ∘ fun p : Int × Addr => ((Sum.inl p.1 : Key), V.ref p.2)) = (fun z => (Sum.inl z : Key)) ∘ Prod.fst := rfl
  rw [this, ← List.map_map, List.map_fst_zip (by omega)]
theorem entQ_no {xs : List Int} {as : List Addr} (h : xs.length = as.length) {z : Int} (hz : z ∉ xs) : valV (entQ xs as) (Sum.inl z) = none := by
  refine valV_no fun hm => hz ?_
  rw [entQ_keys h] at hm
  obtain ⟨y, hy, e⟩ := List.mem_map.mp hm
  exact Sum.inl.inj e ▸ hy
theorem entQ_get {xs : List Int} {as : List Addr} (h : xs.length = as.length) (nd : xs.Nodup) {i : Nat} {z : Int} {a : Addr} (h1 : xs[i]? = some z) (h2 : as[i]? = some a) : valV (entQ xs as) (Sum.inl z) = some (.ref a) := by
  refine valV_mem ?_ ?_
  · rw [entQ_keys h]
    exact List.pairwise_map.mpr (nd.imp fun hne e => hne (Sum.inl.inj e))
  · refine List.mem_map.mpr ⟨(z, a), List.mem_of_getElem? (i := i) (List.getElem?_zip_eq_some.mpr ⟨h1, h2⟩), rfl⟩
theorem entQ_snoc {xs : List Int} {as : List Addr} (h : xs.length = as.length) (z : Int) (a : Addr) : entQ (xs ++ [z]) (as ++ [a]) = entQ xs as ++ [(Sum.inl z, V.ref a)] := by
  unfold entQ
  rw [List.zip_append h, List.map_append]; rfl
theorem RowsQ.updD {K : PySem.W.Frag} {H : Hp} {as : List Addr} {us : List (List Nat)} {D : Addr} {kv : List (Key × V)} {o : HO} (h : RowsQ K H as us) (hD : H D = some (.dK kv)) : RowsQ K (upd H D o) as us := by
  refine ⟨h.1, fun i a u e1 e2 => ?_⟩
  rcases h.2 i a u e1 e2 with (h1 | ⟨o', h1⟩) | h1
  · exact .inl (.inl (by rw [upd_ne (ne_of h1 hD (by intro z; cases z))]; exact h1))
  · exact .inl (.inr ⟨o', by rw [upd_ne (ne_of h1 hD (by intro z; cases z))]; exact h1⟩)
  · exact .inr h1
/-- the states of words -/
def stW (rs : List (List Int)) (st : Int) (M : List (List Nat)) : List Int := M.map fun u => ld rs u st
theorem stW_r (rs : List (List Int)) (st : Int) (M : List (List Nat)) : M.map (runT [rs] [st]) = (stW rs st M).map fun s => [s] := by
  unfold stW
  rw [List.map_map]
  exact List.map_congr_left fun u _ => run_led1 rs st u
theorem stW_mem {rs : List (List Int)} {st : Int} {M : List (List Nat)} {v : List Nat} : runT [rs] [st] v ∈ M.map (runT [rs] [st]) ↔ ld rs v st ∈ stW rs st M := by
  rw [stW_r, run_led1, List.mem_map]
  constructor
  · rintro ⟨x, hx, e⟩; cases e; exact hx
  · intro hx; exact ⟨_, hx, rfl⟩
theorem stW_nd {rs : List (List Int)} {st : Int} {M : List (List Nat)} (h : (M.map (runT [rs] [st])).Nodup) : (stW rs st M).Nodup := by
  rw [stW_r] at h
  exact (List.pairwise_map.mp h).imp fun h e => h (by rw [e])
theorem stW_stsL (rs : List (List Int)) (st : Int) (M : List (List Nat)) : stsL (runT [rs] [st]) M = stW rs st M := by
  unfold stsL stW
  exact List.map_congr_left fun u _ => by rw [run_led1]; rfl
theorem ld_snoc (rs : List (List Int)) (u : List Nat) (k : Nat) (s : Int) : ld rs (u ++ [k]) s = (rs.getD (ld rs u s).toNat []).getD k 0 := by rw [ld_app]; rfl
/-- the rows told with their states -/
def FirstAt (K : PySem.W.Frag) (H : Hp) (as : List Addr) (rs : List (List Int)) (st : Int) (M : List (List Nat)) : Prop :=
  as.length = M.length ∧ ∀ (i : Nat) (a : Addr) (u : List Nat), as[i]? = some a → M[i]? = some u → ∃ t, H a = some (.tup [.int (ld rs u st), .ref t]) ∧ SqT K H t ((toI u).map V.int)
theorem FirstAt.same {K : PySem.W.Frag} {H H' : Hp} {as : List Addr} {rs : List (List Int)} {st : Int} {M : List (List Nat)} (h : FirstAt K H as rs st M) (s : Same H H') : FirstAt K H' as rs st M :=
  ⟨h.1, fun i a u e1 e2 => by
    obtain ⟨t, h1, h2⟩ := h.2 i a u e1 e2
    exact ⟨t, s _ _ h1, h2.ext s⟩⟩
def spFirst (K : PySem.W.Frag) : Sp := fun vs H Q _ => ∃ (p : Addr) (ws : List Str) (rs : List (List Int)) (ss : List Str) (st : Int), vs = [.ref p] ∧ PlainAt H p ws rs ss st ∧ Parts ws rs ss st ∧
  ∀ (l : Addr) (as : List Addr) (M : List (List Nat)) (n : Nat) (H' : Hp), bfs (runT [rs] [st]) ws.length n = (M, []) → H l = none → Same H H' → H' l = some (.lst (as.map V.ref)) → FirstAt K H' as rs st M → Q (.ref l) H'
/-- the search's two lists -/
structure QuAt (K : PySem.W.Frag) (H : Hp) (f q : Addr) (as : List Addr) (rs : List (List Int)) (st : Int) (M : List (List Nat)) : Prop where
  la : as.length = M.length
  hf : H f = some (.dK (entQ (stW rs st M) as))
  hq : H q = some (.lst ((stW rs st M).map V.int))
  rq : RowsQ K H as M
theorem QuAt.same {K : PySem.W.Frag} {H H' : Hp} {f q : Addr} {as : List Addr} {rs : List (List Int)} {st : Int} {M : List (List Nat)} (h : QuAt K H f q as rs st M) (s : Same H H') : QuAt K H' f q as rs st M :=
  ⟨h.la, s _ _ h.hf, s _ _ h.hq, h.rq.same s⟩
theorem QuAt.more {K : PySem.W.Frag} {H : Hp} {f q a : Addr} {as : List Addr} {rs : List (List Int)} {st : Int} {M : List (List Nat)} {v : List Nat} (h : QuAt K H f q as rs st M) (hn : ld rs v st ∉ stW rs st M) (ha : SqT K H a ((toI v).map V.int)) :
    QuAt K (upd (upd H f (.dK (putK (entQ (stW rs st M) as) (Sum.inl (ld rs v st)) (.ref a)))) q (.lst ((stW rs st M).map V.int ++ [.int (ld rs v st)]))) f q (as ++ [a]) rs st (M ++ [v]) := by
  have nfq : f ≠ q := ne_of h.hf h.hq (by intro z; cases z)
  have hl : (stW rs st M).length = as.length := by unfold stW; rw [List.length_map, h.la]
  have es : stW rs st (M ++ [v]) = stW rs st M ++ [ld rs v st] := by unfold stW; rw [List.map_append]; rfl
  have hq1 : upd H f (.dK (putK (entQ (stW rs st M) as) (Sum.inl (ld rs v st)) (.ref a))) q = some (.lst ((stW rs st M).map V.int)) := by rw [upd_ne nfq.symm]; exact h.hq
  refine ⟨by simp [h.la], ?_, ?_, ?_⟩
  · rw [upd_ne nfq, upd_same, putK_new _ (entQ_no hl hn), es, entQ_snoc hl]
  · rw [upd_same, es, List.map_append]; rfl
  · exact ((h.rq.app (RowsQ.one ha)).updD h.hf).updL hq1
section
variable {P : Program} {w : World} {K : PySem.W.Frag} {mg : Str → Option Value} {base : Heap}
abbrev nFirst : List Str := ["_law_plain_here", "_law_found", "_law_queue", "_law_turn", "_law_k", "_law_other", "_law_spot"]
theorem scFirst : FnScope nFirst ["_law_plain_here"] (defScope sFirst) := ⟨rfl, rfl, rfl, by decide +kernel, rfl, by decide +kernel, by decide +kernel⟩
theorem ok_first {f : Addr} {fd : FuncData} (D : Df K mg "_law_first_rows" sFirst ["_law_plain_here"] f fd) (T : Bt mg) : FnOk P w K mg base CX0 1 f fd ["_law_plain_here"] (spFirst K) := by
  refine D.F.ok scFirst (fun vs H Q E h => ?_) (fun cdv A outer s H vs Q E hr h => ?_)
  · obtain ⟨p, ws, rs, ss, st, rfl, _⟩ := h
    rfl
  · obtain ⟨p, ws, rs, ss, st, rfl, hp, pt, k⟩ := h
    have hu := hu_of hr
    refine ⟨_, pss_cons (ps_asg (pe_tup (pa_cons (pe_disp (pps_cons (pe_dget hu (pv 0) pe_str (fun _ _ => rfl)) (pe_tup pa_nil) pps_nil) (by rfl) (by rfl) (fun z => by cases z) (by decide))
          (pa_cons (pe_lst (pa_cons (pe_dget hu (pv 0) pe_str (fun _ _ => rfl)) pa_nil)) pa_nil)))
          (pg_tup (by rfl) (pgs_cons (pg_name (i := 1) scFirst.nd rfl (Or.inr rfl)) (pgs_cons (pg_name (i := 2) scFirst.nd rfl (Or.inl rfl)) pgs_nil))))
      (pss_cons (ps_for PassesOwn.never rfl (pi_range1 rfl T.range (pa_cons (pe_callB call_len (by rfl) T.len PySem.boot_len (pa_cons (pe_dget hu (pv 0) pe_str (fun _ _ => rfl)) pa_nil)) pa_nil)) (pg_name (i := 3) scFirst.nd rfl (Or.inl rfl))
        (pss_one (ps_if (pt_cmpR op_lt (pv 3) (pe_callB call_len (by rfl) T.len PySem.boot_len (pa_cons (pv 2) pa_nil)) (nomark _))
          (pss_one (ps_for PassesOwn.never rfl (pi_range1 rfl T.range (pa_cons (pe_callB call_len (by rfl) T.len PySem.boot_len (pa_cons (pe_dget hu (pv 0) pe_str (fun _ _ => rfl)) pa_nil)) pa_nil)) (pg_name (i := 4) scFirst.nd rfl (Or.inl rfl))
            (pss_cons (ps_set (i := 5) scFirst.nd rfl (Or.inl rfl) (pe_ix ix_list (pe_ix ix_list (pe_dget hu (pv 0) pe_str (fun _ _ => rfl)) (pe_ix ix_list (pv 2) (pv 3) (fun _ _ => rfl)) (fun _ _ => rfl)) (pv 4) (fun _ _ => rfl)))
            (pss_one (ps_if (pt_cmp (pc_dnotin hu (pv 5) (pv 1)))
              (pss_cons (ps_dput hu (pv 1) (pv 5) (pe_op (r := rCatA K) op_catA (pe_dget hu (pv 1) (pe_ix ix_list (pv 2) (pv 3) (fun _ _ => rfl)) (fun _ _ => rfl)) (pe_tup (pa_cons (pv 4) pa_nil))) rfl)
              (pss_one (ps_expr (pe_bm PySem.F.plainAttrs_list PySem.F.slot_list_append PySem.F.type_list_append mt_append (pv 2) (pa_cons (pv 5) pa_nil))))) pss_nil))))) pss_nil)))
      (pss_one (ps_ret (pe_lc (own := [("_law_spot", 6)]) (g := gName 6) (by rfl) scFirst.nd (pi_list (pv 2))
          (blkOk_by (own := [("_law_spot", 6)]) (N := nFirst) (sc := defScope sFirst) (by decide +kernel)) (fun _ _ _ _ _ => pg_name (i := 6) scFirst.nd rfl (Or.inl rfl)) (fun _ _ _ _ _ => pts_nil)
          (fun _ _ _ _ _ => pe_tup (pa_cons (pv 6) (pa_cons (pe_dget hu (pv 1) (pv 6) (fun _ _ => rfl)) pa_nil))))))), ?_⟩
    obtain ⟨t, r, l, rl, ep, et, er, el, hR⟩ := id hp
    obtain ⟨st0, st1⟩ := pt.st
    have n60 := pt.many.2
    have w6 := pt.gd.len.2
    have hs0 : StOk [rs] [st] := ⟨rfl, fun i t v e1 e2 => by
      match i, e1, e2 with
      | 0, e1, e2 => cases e1; cases e2; exact pt.st
      | _ + 1, e1, _ => simp at e1⟩
    have htab : ∀ t ∈ [rs], TabOk ws.length t := fun t ht => by rw [List.mem_singleton.mp ht]; exact pt.tab
    have hml : ∀ {M : List (List Nat)}, (M.map (runT [rs] [st])).Nodup → (∀ u ∈ M, ∀ k ∈ u, k < ws.length) → M.length ≤ rs.length := fun nd lt => by
      have := met_len hs0 htab nd lt
      have : prodN [rs] = rs.length := Nat.mul_one _
      omega
    -- found, queue
    intro f hf
    have s1 := same_upd (o := .dK []) hf
    have ef1 : upd H f (.dK []) f = some (.dK []) := upd_same
    generalize upd H f (.dK []) = H1 at s1 ef1 ⊢
    refine ⟨_, rfl, p, _, rfl, gStart (s1 _ _ ep), Nat.le_of_ble_eq_true rfl, fun e0 he0 => ?_⟩
    have s2 := same_upd (o := .tup []) he0
    have ee2 : upd H1 e0 (.tup []) e0 = some (.tup []) := upd_same
    have ef2 := s2 _ _ ef1
    generalize upd H1 e0 (.tup []) = H2 at s2 ee2 ef2 ⊢
    refine ⟨ef2, [(Sum.inl st, .ref e0)], rfl, Nat.le_of_ble_eq_true rfl, ?_⟩
    have s02 := s1.trans s2
    have k3 : ∀ b o, H b = some o → upd H2 f (.dK (mergeK [] [(Sum.inl st, .ref e0)])) b = some o := fun b o e => by rw [upd_ne (ne_of_none e hf)]; exact s02 b o e
    have ef3 : upd H2 f (.dK (mergeK [] [(Sum.inl st, .ref e0)])) f = some (.dK (entQ [st] [e0])) := upd_same
    have ee3 : upd H2 f (.dK (mergeK [] [(Sum.inl st, .ref e0)])) e0 = some (.tup []) := by rw [upd_ne (ne_of ee2 ef2 (by intro z; cases z))]; exact ee2
    generalize upd H2 f (.dK (mergeK [] [(Sum.inl st, .ref e0)])) = H3 at k3 ef3 ee3 ⊢
    refine ⟨_, rfl, p, _, rfl, gStart (k3 _ _ ep), Nat.le_of_ble_eq_true rfl, fun q hq => ⟨Nat.le_of_ble_eq_true rfl, fun tp htp => ?_⟩⟩
    have s4 := same_upd (o := .lst [V.int st]) hq
    have eq4 : upd H3 q (.lst [V.int st]) q = some (.lst [V.int st]) := upd_same
    generalize upd H3 q (.lst [V.int st]) = H4 at s4 eq4 htp ⊢
    have s5 := same_upd (o := .tup [V.ref f, V.ref q]) htp
    have ep5 : upd H4 tp (.tup [V.ref f, V.ref q]) tp = some (.tup [V.ref f, V.ref q]) := upd_same
    generalize upd H4 tp (.tup [V.ref f, V.ref q]) = H5 at s5 ep5 ⊢
    refine ⟨tp, _, rfl, SqT.of ep5, rfl, _, _, rfl, _, _, rfl, rfl, ?_⟩
    dsimp only
    have s05 : Same H H5 := fun b o e => s5 _ _ (s4 _ _ (k3 b o e))
    have zq : H q = none := by
      cases z : H q with
      | none => rfl
      | some o => have := k3 _ _ z; rw [hq] at this; cases this
    have qa5 : QuAt K H5 f q [e0] rs st [[]] := ⟨rfl, s5 _ _ (s4 _ _ ef3), s5 _ _ eq4, RowsQ.one (SqT.of (s5 _ _ (s4 _ _ ee3)))⟩
    refine ⟨_, rfl, p, _, rfl, gRows (s05 _ _ ep), _, rs.length, rfl, .inl ⟨_, SqL.of (s05 _ _ er), by rw [List.length_map, hR.1]⟩, (rs.length : Int), rfl, by omega, by omega, ?_⟩
    rw [Int.toNat_natCast]
    refine for_range (lo := 0) (n := rs.length) (fun i σ H' => ∃ (v3 v4 v5 : Option V) (M : List (List Nat)) (as : List Addr), σ = [some (.ref p), some (.ref f), some (.ref q), v3, v4, v5, none] ∧ Same H H' ∧ Qu (runT [rs] [st]) ws.length M i 0 ∧ QuAt K H' f q as rs st M ∧ ∀ u ∈ M, u.length ≤ i) ?_ ?_ ?_
    · exact ⟨_, _, _, [[]], [e0], rfl, s05, Qu.init, qa5, fun u hu => by rw [List.mem_singleton.mp hu]; exact Nat.le_refl _⟩
    · rintro i σ H6 hi ⟨v3, v4, v5, M, as, rfl, s6, qu, qa, hle⟩
      have hM := hml qu.nd qu.lt
      have lst : (stW rs st M).length = M.length := List.length_map _
      refine ⟨_, rfl, _, rfl, _, M.length, rfl, .inl ⟨_, SqL.of qa.hq, by rw [List.length_map, lst]⟩, _, _, rfl, rfl, _, rfl, ?_⟩
      refine ite2 (fun hlt => ?_) (fun hge => ?_)
      · have hlt' : i < M.length := by simpa using hlt
        refine ⟨_, rfl, p, _, rfl, gDeeds (s6 _ _ ep), _, ws.length, rfl, .inr ⟨_, (et.same s6).sq, (List.length_map _).symm⟩, (ws.length : Int), rfl, by omega, by omega, ?_⟩
        rw [Int.toNat_natCast]
        refine for_range (lo := 0) (n := ws.length) (fun j σ H' => ∃ (v4 v5 : Option V) (M : List (List Nat)) (as : List Addr), σ = [some (.ref p), some (.ref f), some (.ref q), some (.int (0 + (i : Int))), v4, v5, none] ∧ Same H H' ∧ Qu (runT [rs] [st]) ws.length M i j ∧ QuAt K H' f q as rs st M ∧ i < M.length ∧ (∀ u ∈ M, u.length ≤ i + 1) ∧ (M.getD i []).length ≤ i) ?_ ?_ ?_
        · exact ⟨_, _, M, as, rfl, s6, qu, qa, hlt', fun u hu => Nat.le_succ_of_le (hle u hu), hle _ (List.mem_of_getElem? (getD_get ([] : List Nat) hlt'))⟩
        · rintro j σ H7 hj ⟨v4, v5, M, as, rfl, s7, qu, qa, hlt, hle, hli⟩
          have lst : (stW rs st M).length = M.length := List.length_map _
          have hM := hml qu.nd qu.lt
          have egi : M[i]? = some (M.getD i []) := getD_get ([] : List Nat) hlt
          have hun := qu.lt _ (List.mem_of_getElem? egi)
          have hld : 0 ≤ ld rs (M.getD i []) st ∧ ld rs (M.getD i []) st < (rs.length : Int) := pt.led (ix_toI hun) st0 st1
          have eqi : atI ((stW rs st M).map V.int) (0 + (i : Int)) = some (.int (ld rs (M.getD i []) st)) := by
            rw [Int.zero_add]
            exact atI_nat (by rw [List.getElem?_map, stW, List.getElem?_map, egi]; rfl)
          have hsn : (ld rs (M.getD i []) st).toNat < rs.length := by omega
          have erow : rs[(ld rs (M.getD i []) st).toNat]? = some (rs.getD (ld rs (M.getD i []) st).toNat []) := getD_get ([] : List Int) hsn
          have hrow := pt.row _ (List.mem_of_getElem? erow)
          obtain ⟨ra, era, ata⟩ := at_ref (as := rl) hld.1 (by rw [hR.1]; exact hld.2)
          have hra := s7 _ _ (hR.2 _ ra _ era erow)
          refine ⟨_, rfl, p, _, rfl, gRows (s7 _ _ ep), _, rfl, _, rfl, q, _, _, _, rfl, rfl, SqL.of qa.hq, eqi, r, _, _, _, rfl, rfl, SqL.of (s7 _ _ er), ata, _, rfl, ra, _, _, _, rfl, rfl, SqL.of hra, at_int (k := 0 + (j : Int)) (by omega) (by rw [hrow.1]; omega), ?_⟩
          have ez : (rs.getD (ld rs (M.getD i []) st).toNat []).getD (0 + (j : Int)).toNat 0 = ld rs (M.getD i [] ++ [j]) st := by
            rw [ld_snoc, Int.zero_add, Int.toNat_natCast]
          rw [ez]
          have hdd : dd (runT [rs] [st]) M [M.getD i [] ++ [j]] = if ld rs (M.getD i [] ++ [j]) st ∈ stW rs st M then M else M ++ [M.getD i [] ++ [j]] := by
            rw [dd_cons, dd_nil]
            by_cases h : ld rs (M.getD i [] ++ [j]) st ∈ stW rs st M
            · rw [if_pos h, if_pos (stW_mem.mpr h)]
            · rw [if_neg h, if_neg (fun z => h (stW_mem.mp z))]
          obtain ⟨qs, qt⟩ := qu.step hlt hj
          rw [hdd] at qs qt
          have hla : (stW rs st M).length = as.length := by rw [lst, qa.la]
          have hnd := stW_nd qu.nd
          have lenE := entQ_len hla
          refine ⟨_, rfl, _, rfl, f, _, rfl, DGet.k (k := Sum.inl (ld rs (M.getD i [] ++ [j]) st)) qa.hf, ?_⟩
          by_cases hz : ld rs (M.getD i [] ++ [j]) st ∈ stW rs st M
          · rw [if_pos hz] at qs qt
            obtain ⟨m, hm⟩ := List.getElem?_of_mem hz
            have hml := (List.getElem?_eq_some_iff.mp hm).1
            have eam : as[m]? = some as[m] := List.getElem?_eq_getElem (by omega)
            rw [entQ_get hla hnd hm eam]
            refine ⟨false, rfl, iteF ?_⟩
            exact ⟨_, _, M, as, rfl, s7, qs, qa, hlt, hle, hli⟩
          · rw [if_neg hz] at qs qt
            rw [entQ_no hla hz]
            refine ⟨true, rfl, iteT ?_⟩
            have eai : as[i]? = some as[i] := List.getElem?_eq_getElem (by rw [qa.la]; exact hlt)
            have eget : valV (entQ (stW rs st M) as) (Sum.inl (ld rs (M.getD i []) st)) = some (.ref as[i]) := entQ_get hla hnd (by rw [stW, List.getElem?_map, egi]; rfl) eai
            have hti := qa.rq.2 i _ _ eai egi
            refine ⟨_, rfl, _, rfl, _, rfl, q, _, _, _, rfl, rfl, SqL.of qa.hq, eqi, f, V.ref as[i], rfl, by rw [← eget]; exact DGet.k (k := Sum.inl (ld rs (M.getD i []) st)) qa.hf, _, rfl, Nat.le_of_ble_eq_true rfl, fun tk htk => ?_⟩
            have s8 := same_upd (o := .tup [V.int (0 + (j : Int))]) htk
            have ek8 : upd H7 tk (.tup [V.int (0 + (j : Int))]) tk = some (.tup [V.int (j : Int)]) := by rw [upd_same, Int.zero_add]
            generalize upd H7 tk (.tup [V.int (0 + (j : Int))]) = H8 at s8 ek8 ⊢
            refine catA_any (hti.ext s8) (SqT.of ek8) (by rw [List.length_map, toI, List.length_map]; show (M.getD i []).length + 1 ≤ 1000; omega) fun tn H9 htn s9 => ?_
            have qa9 := (qa.same s8).same s9
            have s79 := (s7.trans s8).trans s9
            have htn' : SqT K H9 tn ((toI (M.getD i [] ++ [j])).map V.int) := by rw [toI_snoc, List.map_append]; exact htn
            refine ⟨_, rfl, _, rfl, f, _, rfl, DPut.k (k := Sum.inl (ld rs (M.getD i [] ++ [j]) st)) qa9.hf (by rw [lenE, sizeLine_eq]; omega), ?_⟩
            have nfq : q ≠ f := ne_of qa9.hq qa9.hf (by intro z; cases z)
            refine ⟨_, rfl, .inl ⟨rfl, _, SqL.of (by rw [upd_ne nfq]; exact qa9.hq)⟩, _, rfl, q, _, _, rfl, rfl, by rw [upd_ne nfq]; exact qa9.hq, by rw [List.length_map, lst, sizeLine_eq]; omega, ?_⟩
            have em : M ++ [M.getD i [] ++ [j]] = M ++ [M.getD i [] ++ [j]] := rfl
            refine ⟨_, _, M ++ [M.getD i [] ++ [j]], as ++ [tn], rfl, fun b o e => ?_, qs, qa9.more hz htn', by rw [List.length_append]; omega, fun u hu => ?_, ?_⟩
            · rw [upd_ne (ne_of_none e zq), upd_ne (ne_of_none e hf)]; exact s79 b o e
            · rcases List.mem_append.mp hu with h | h
              · exact hle u h
              · rw [List.mem_singleton.mp h, List.length_append, List.length_singleton]; omega
            · rw [List.getD_eq_getElem?_getD, List.getElem?_append_left hlt, ← List.getD_eq_getElem?_getD]; exact hli
        · rintro σ H7 ⟨v4, v5, M, as, rfl, s7, qu, qa, hlt, hle, hli⟩
          exact ⟨_, _, _, M, as, rfl, s7, qu.next hlt, qa, hle⟩
      · have hge' : M.length ≤ i := by simpa using hge
        exact ⟨_, _, _, M, as, rfl, s6, qu.skip hge', qa, fun u hu => Nat.le_succ_of_le (hle u hu)⟩
    · rintro σ H6 ⟨v3, v4, v5, M, as, rfl, s6, qu, qa, hle⟩
      have hM := hml qu.nd qu.lt
      have lst : (stW rs st M).length = M.length := List.length_map _
      have hla : (stW rs st M).length = as.length := by rw [lst, qa.la]
      have hnd := stW_nd qu.nd
      obtain ⟨n, eb⟩ := queue_bfs (runT_c [rs] [st]) (qu.fin hM) qu.lt
      refine ⟨_, rfl, q, rfl, ⟨_, SqL.of qa.hq⟩, fun D hD => ?_⟩
      refine lc_list (K := K) (a := q) (xs := (stW rs st M).map V.int) (fun i H' => Same H6 H' ∧ ∃ bs : List Addr, H' D = some (.lst (bs.map V.ref)) ∧ FirstAt K H' bs rs st (M.take i) ∧ ∀ b ∈ bs, b ≠ D) ?_ ?_ ?_ ?_
      · exact ⟨same_upd hD, [], upd_same, ⟨by simp, fun i a u e => by simp at e⟩, by simp⟩
      · exact fun i H' _ z => SqL.of (z.1 _ _ qa.hq)
      · rintro i y H7 hi ⟨s7, bs, hD7, fa, hne⟩
        rw [List.getElem?_map] at hi
        obtain ⟨z, ez, rfl⟩ := Option.map_eq_some_iff.mp hi
        have hil : i < M.length := by rw [← lst]; exact (List.getElem?_eq_some_iff.mp ez).1
        have eu : M[i]? = some (M.getD i []) := getD_get ([] : List Nat) hil
        have ezu : z = ld rs (M.getD i []) st := by
          rw [stW, List.getElem?_map, eu] at ez
          exact (Option.some.inj ez).symm
        have eai : as[i]? = some as[i] := List.getElem?_eq_getElem (by rw [qa.la]; exact hil)
        have eget := entQ_get hla hnd ez eai
        have lbs := fa.1
        rw [List.length_take] at lbs
        refine ⟨rfl, _, rfl, _, rfl, _, rfl, f, V.ref as[i], rfl, by rw [← eget]; exact DGet.k (k := Sum.inl z) (s7 _ _ qa.hf), Nat.le_of_ble_eq_true rfl, fun b hb => ?_⟩
        have nbD : b ≠ D := (ne_of_none hD7 hb).symm
        have s8 := same_upd (o := .tup [V.int z, V.ref as[i]]) hb
        refine ⟨_, s8 _ _ hD7, ?_, fun x o e => ?_, bs ++ [b], by rw [upd_same]; simp, ?_, ?_⟩
        · rw [List.length_map, sizeLine_eq]; omega
        · rw [upd_ne (ne_of_none e hD)]; exact s8 _ _ (s7 x o e)
        · have e1 : M.take (i + 1) = M.take i ++ [M.getD i []] := by rw [List.take_add_one, eu]; rfl
          rw [e1]
          refine ⟨by simp [fa.1], fun m a u g1 g2 => ?_⟩
          by_cases hm : m < bs.length
          · rw [List.getElem?_append_left hm] at g1
            rw [List.getElem?_append_left (by rw [← fa.1]; exact hm)] at g2
            obtain ⟨t', h1, h2⟩ := fa.2 m a u g1 g2
            have n1 : a ≠ D := hne a (List.mem_of_getElem? g1)
            refine ⟨t', by rw [upd_ne n1]; exact s8 _ _ h1, ?_⟩
            have h3 := h2.ext s8
            have hD8 : upd H7 b (.tup [V.int z, V.ref as[i]]) D = some (.lst (bs.map V.ref)) := s8 _ _ hD7
            exact (RowsQ.updL (as := [t']) (us := [u]) (RowsQ.one h3) hD8).2 0 t' u rfl rfl
          · have hm2 : m = bs.length := by
              have := (List.getElem?_eq_some_iff.mp g1).1
              rw [List.length_append, List.length_singleton] at this; omega
            subst hm2
            rw [List.getElem?_append_right (Nat.le_refl _), Nat.sub_self] at g1
            rw [List.getElem?_append_right (by rw [← fa.1]; exact Nat.le_refl _), ← fa.1, Nat.sub_self] at g2
            obtain rfl := Option.some.inj g1
            obtain rfl := Option.some.inj g2
            refine ⟨as[i], by rw [upd_ne nbD, upd_same, ezu], ?_⟩
            have h3 := ((qa.rq.2 i _ _ eai eu).ext s7).ext s8
            have hD8 : upd H7 b (.tup [V.int z, V.ref as[i]]) D = some (.lst (bs.map V.ref)) := s8 _ _ hD7
            exact (RowsQ.updL (as := [as[i]]) (us := [M.getD i []]) (RowsQ.one h3) hD8).2 0 _ _ rfl rfl
        · intro x hx
          rcases List.mem_append.mp hx with h | h
          · exact hne x h
          · rw [List.mem_singleton.mp h]; exact nbD
      · rintro H7 ⟨s7, bs, hD7, fa, hne⟩
        rw [List.length_map, lst, List.take_length] at fa
        exact k D bs M n H7 eb (s6.free hD) (s6.trans s7) hD7 fa
end
end K1
set_option Elab.async false
set_option linter.all false
set_option maxRecDepth 100000
/-! _law_signs; signs tell states apart as rows do -/
namespace K1
open PySem L2 LamX
abbrev sSigns : Stmt := top 49
/-- what is told after all rows with fewer letters than states -/
def sgn (rs : List (List Int)) (ss : List Str) (w n : Nat) (s : Int) : List Str := (allU w (n - 1)).map fun u => twM rs ss s u
section
variable {ws : List Str} {rs : List (List Int)} {ss : List Str} {st : Int}
theorem sgn_iff (pt : Parts ws rs ss st) {a b : Int} (a0 : 0 ≤ a) (a1 : a < (rs.length : Int)) (b0 : 0 ≤ b) (b1 : b < (rs.length : Int)) :
    sgn rs ss ws.length rs.length a = sgn rs ss ws.length rs.length b ↔ ∀ v : List Nat, (∀ k ∈ v, k < ws.length) → twM rs ss a v = twM rs ss b v := by
  constructor
  · intro h
    have h1 : ∀ v : List Nat, v.length ≤ rs.length - 1 → (∀ k ∈ v, k < ws.length) → twM rs ss a v = twM rs ss b v := fun v hl hv =>
      List.map_inj_left.mp h v ((allU_mem _ _ _).mpr ⟨hl, hv⟩)
    have key : ∀ (n : Nat) (v : List Nat), v.length = n → (∀ k ∈ v, k < ws.length) → twM rs ss a v = twM rs ss b v := by
      intro n
      induction n using Nat.strongRecOn with
      | ind n ih =>
        intro v hn hv
        by_cases e : twM rs ss a v = twM rs ss b v
        · exact e
        · have h2 := first_short (w := ws.length) (rs := rs) (ss := ss) (n := rs.length) (fun u hu x x0 x1 => pt.led (ix_toI hu) x0 x1) a0 a1 b0 b1 hv e fun u hu hl ht => ht (ih u.length (by omega) u rfl hu)
          exact h1 v (by omega) hv
    exact fun v hv => key v.length v rfl hv
  · intro h
    exact List.map_congr_left fun u hu => h u ((allU_mem _ _ _).mp hu).2
/-- the fixed point of alike numbers the signs -/
theorem gT_sgn (pt : Parts ws rs ss st) {sts : List Int} (R : Rch ws.length rs st sts) {t : Nat} (hf : stepG (renR rs sts) (gT (renR rs sts) (renT ss sts) t) = gT (renR rs sts) (renT ss sts) t) :
    gT (renR rs sts) (renT ss sts) t = num (sts.map (sgn rs ss ws.length rs.length)) := by
  have ok := ren_ok pt R
  have hrl : (renR rs sts).length = sts.length := List.length_map _
  have hz : (renT ss sts).length = (renR rs sts).length := by unfold renT renR; rw [List.length_map, List.length_map]
  have gl := gT_len hz t
  rw [← gT_num (renR rs sts) (renT ss sts) t]
  refine num_same (by rw [gl, List.length_map, hrl]) fun i j hi hj => ?_
  rw [gl, hrl] at hi hj
  have e1 : ∀ q, q < sts.length → (gT (renR rs sts) (renT ss sts) t)[q]? = some ((gT (renR rs sts) (renT ss sts) t).getD q 0) := fun q hq => getD_get (0 : Nat) (by rw [gl, hrl]; exact hq)
  have e2 : ∀ q, q < sts.length → (sts.map (sgn rs ss ws.length rs.length))[q]? = some (sgn rs ss ws.length rs.length (sts.getD q 0)) := fun q hq => by rw [List.getElem?_map, getD_get (0 : Int) hq]; rfl
  have hm : ∀ q, q < sts.length → 0 ≤ sts.getD q 0 ∧ sts.getD q 0 < (rs.length : Int) := fun q hq => R.rg _ (List.mem_of_getElem? (getD_get (0 : Int) hq))
  have e3 : ∀ q, q < sts.length → ∀ v : List Nat, (∀ k ∈ v, k < ws.length) → (renT ss sts).getD (lN (renR rs sts) v q) "" = twM rs ss (sts.getD q 0) v := fun q hq v hv => by
    obtain ⟨h1, h2⟩ := ren_run pt R v hq hv
    rw [renT_get h1, h2]; rfl
  rw [e1 i hi, e1 j hj, e2 i hi, e2 j hj, Option.some_inj, Option.some_inj, fix_iff ok hz hf (by rw [hrl]; exact hi) (by rw [hrl]; exact hj), sgn_iff pt (hm i hi).1 (hm i hi).2 (hm j hj).1 (hm j hj).2]
  constructor
  · intro h v hv
    rw [← e3 i hi v hv, ← e3 j hj v hv]; exact h v hv
  · intro h v hv
    rw [e3 i hi v hv, e3 j hj v hv]; exact h v hv
end
def spSigns (K : PySem.W.Frag) : Sp := fun vs H Q _ => ∃ (p : Addr) (s0 : Int) (ws : List Str) (rs : List (List Int)) (ss : List Str) (st : Int), vs = [.ref p, .int s0] ∧ PlainAt H p ws rs ss st ∧ Parts ws rs ss st ∧ 0 ≤ s0 ∧ s0 < (rs.length : Int) ∧ (allU ws.length (rs.length - 1)).length ≤ 900 ∧
  ∀ (q : Addr) (H' : Hp), H q = none → Same H H' → H' q = some (.tup ((sgn rs ss ws.length rs.length s0).map V.str)) → Q (.ref q) H'
section
variable {P : Program} {w : World} {K : PySem.W.Frag} {mg : Str → Option Value} {base : Heap}
abbrev pSigns : List Str := ["_law_plain_here", "_law_spot"]
abbrev nSigns : List Str := ["_law_plain_here", "_law_spot", "_law_rows_here", "_law_row"]
theorem scSigns : FnScope nSigns pSigns (defScope sSigns) := ⟨rfl, rfl, rfl, by decide +kernel, rfl, by decide +kernel, by decide +kernel⟩
theorem ok_signs {f fR fL : Addr} {fd fdR fdL : FuncData} (D : Df K mg "_law_signs" sSigns pSigns f fd) (DR : Df K mg "_law_rows" sRowsL pRowsL fR fdR) (DL : Df K mg "_law_led" sLed pLed fL fdL) (T : Bt mg) : FnOk P w K mg base CX0 2 f fd pSigns (spSigns K) := by
  have GR : FnOk P w K mg base CX0 1 fR fdR pRowsL (spRowsL K) := ok_rowsl DR T
  have GL : FnOk P w K mg base CX0 1 fL fdL pLed (spLed K) := ok_led DL
  refine D.F.ok scSigns (fun vs H Q E h => ?_) (fun cdv A outer s H vs Q E hr h => ?_)
  · obtain ⟨p, s0, ws, rs, ss, st, rfl, _⟩ := h
    rfl
  · obtain ⟨p, s0, ws, rs, ss, st, rfl, hp, pt, a0, a1, hle, k⟩ := h
    have hu := hu_of hr
    have w6 := pt.gd.len.2
    have n60 := pt.many
    refine ⟨_, pss_cons (ps_set (i := 2) scSigns.nd rfl (Or.inl rfl) (pe_call GR hr rfl DR.g DR.F.kp DR.b .nil pass0 (pa_cons (pe_callB call_len (by rfl) T.len PySem.boot_len (pa_cons (pe_dget hu (pv 0) pe_str (fun _ _ => rfl)) pa_nil))
          (pa_cons (pe_op op_sub (pe_callB call_len (by rfl) T.len PySem.boot_len (pa_cons (pe_dget hu (pv 0) pe_str (fun _ _ => rfl)) pa_nil)) pe_int) pa_nil))))
      (pss_one (ps_ret (pe_callTy (r := rTu K) call_tuple_of (by rfl) T.tuple PyProof.Rows.boot_tuple (pa_cons (pe_lc (own := [("_law_row", 3)]) (g := gName 3) (by rfl) scSigns.nd (pi_list (pv 2))
        (blkOk_by (own := [("_law_row", 3)]) (N := nSigns) (sc := defScope sSigns) (by decide +kernel)) (fun _ _ _ _ _ => pg_name (i := 3) scSigns.nd rfl (Or.inl rfl)) (fun _ _ _ _ _ => pts_nil)
        (fun _ _ _ _ _ => pe_ix (r := rIxL K) ix_list (pe_dget hu (pv 0) pe_str (fun _ _ => rfl)) (pe_call GL hr rfl DL.g DL.F.kp DL.b .nil pass0 (pa_cons (pv 0) (pa_cons (pv 3) (pa_cons (pv 1) pa_nil)))) (fun _ _ => rfl))) pa_nil)))), ?_⟩
    obtain ⟨t, r, l, as, ep, et, er, el, hR⟩ := id hp
    refine ⟨_, rfl, p, _, rfl, gDeeds ep, _, ws.length, rfl, .inr ⟨_, et.sq, (List.length_map _).symm⟩, ?_⟩
    refine ⟨_, rfl, p, _, rfl, gRows ep, _, rs.length, rfl, .inl ⟨_, SqL.of er, by rw [List.length_map, hR.1]⟩, _, _, rfl, rfl, ?_⟩
    refine ⟨ws.length, rs.length - 1, by show [V.int (ws.length : Int), V.int ((rs.length : Int) - 1)] = _; rw [show ((rs.length : Int) - 1) = ((rs.length - 1 : Nat) : Int) by omega], w6, by omega, hle, fun lq aq H1 hlq s1 elq hRq => ?_⟩
    have hall := allU_mem ws.length (rs.length - 1)
    have esg : sgn rs ss ws.length rs.length s0 = (allU ws.length (rs.length - 1)).map fun u => twM rs ss s0 u := rfl
    rw [esg] at k
    generalize allU ws.length (rs.length - 1) = us at hRq hall k hle
    refine ⟨_, rfl, lq, rfl, ⟨_, SqL.of elq⟩, fun D1 hD1 => ?_⟩
    refine lc_list (K := K) (a := lq) (xs := aq.map V.ref) (fun i H' => Same H1 H' ∧ H' D1 = some (.lst (((us.take i).map fun u => twM rs ss s0 u).map V.str))) ?_ ?_ ?_ ?_
    · exact ⟨same_upd hD1, upd_same⟩
    · exact fun i H' _ q => SqL.of (q.1 _ _ elq)
    · rintro i y H2 hi ⟨s2, hD⟩
      rw [List.getElem?_map] at hi
      obtain ⟨q, eq, rfl⟩ := Option.map_eq_some_iff.mp hi
      have hil : i < us.length := by rw [← hRq.1]; exact (List.getElem?_eq_some_iff.mp eq).1
      have eu : us[i]? = some us[i] := List.getElem?_eq_getElem hil
      have hm := (hall _).mp (List.getElem_mem hil)
      have etk : us.take (i + 1) = us.take i ++ [us[i]] := by rw [List.take_add_one, eu]; rfl
      generalize us[i] = u at eu hm etk
      have hix := ix_toI hm.2
      have s02 := s1.trans s2
      have e1 : 0 ≤ ld rs u s0 ∧ ld rs u s0 < (rs.length : Int) := pt.led hix a0 a1
      refine ⟨rfl, _, rfl, p, _, rfl, gTells (s02 _ _ ep), _, rfl, _, rfl, _, rfl, p, q, s0, ws, rs, ss, st, toI u, rfl, hp.same s02, pt, (hRq.2 i q u eq eu).ext s2, hix, a0, a1, fun H3 s3 => ?_⟩
      refine ⟨l, _, _, _, rfl, rfl, SqL.of (s3 _ _ (s02 _ _ el)), at_deed e1.1 (by rw [pt.tl.1]; exact e1.2), ?_⟩
      refine ⟨_, s3 _ _ hD, ?_, fun b o e => ?_, ?_⟩
      · rw [List.length_map, List.length_map, List.length_take]; exact small1000 (by omega)
      · rw [upd_ne (ne_of_none e hD1)]; exact s3 _ _ (s2 b o e)
      · rw [upd_same, etk, List.map_append, List.map_append]; rfl
    · rintro H2 ⟨s2, hD⟩
      rw [List.length_map, hRq.1, List.take_length] at hD
      refine ⟨D1, _, rfl, .inl ⟨SqL.of hD, fun q hq => ?_⟩⟩
      exact k q _ (s1.free (s2.free hq)) ((s1.trans s2).trans (same_upd hq)) upd_same
end
end K1
set_option Elab.async false
set_option linter.all false
set_option maxRecDepth 100000
set_option maxHeartbeats 1000000
/-! _law_core -/
namespace K1
open PySem L2 LamX
abbrev sCoreL : Stmt := top 51
section
variable {α : Type} [DecidableEq α]
/-- a place in a list, by the equality that is decided -/
def idxD (U : List α) (x : α) : Nat := U.idxOf x
theorem idxD_lt {U : List α} {x : α} (h : x ∈ U) : idxD U x < U.length := List.idxOf_lt_length_of_mem h
theorem idxD_get {U : List α} {x : α} (h : x ∈ U) : U[idxD U x]'(idxD_lt h) = x := List.getElem_idxOf (idxD_lt h)
theorem idxD_last {U : List α} {x : α} (h : x ∉ U) : idxD (U ++ [x]) x = U.length := by unfold idxD; rw [idx_not h]; simp
theorem num_take {L : List α} (i : Nat) : uq [] ((num L).take i) = (uq [] (L.take i)).map fun x => idxD (uq [] L) x := by
  have e : (num L).take i = (L.take i).map fun x => idxD (uq [] L) x := by rw [List.map_take]; rfl
  have hm : ∀ x ∈ L.take i, x ∈ uq [] L := fun x hx => (uq_mem L [] x).mpr (.inr (List.mem_of_mem_take hx))
  rw [e]
  have := uq_map (f := fun x => idxD (uq [] L) x) (L.take i) [] fun x hx y hy e => idx_inj (hm x (by simpa using hx)) (hm y (by simpa using hy)) e
  simpa using this
/-- what numbering a list keeps -/
theorem num_new {L : List α} {i : Nat} {x : α} (ei : L[i]? = some x) : ((num L).getD i 0 = (keptT (num L) i).length ↔ x ∉ uq [] (L.take i)) ∧ (keptT (num L) i).length = (uq [] (L.take i)).length ∧
    (num L).getD i 0 = idxD (uq [] (L.take (i + 1))) x := by
  have hi : i < L.length := (List.getElem?_eq_some_iff.mp ei).1
  have hg := num_num L
  have gl : (num L).length = L.length := num_len L
  obtain ⟨h1, h2⟩ := kept_len hg i (by omega)
  have h2 := h2 (by omega)
  have en : (num L)[i]? = some (idxD (uq [] L) x) := by unfold num; rw [List.getElem?_map, ei]; rfl
  have eg : (num L).getD i 0 = idxD (uq [] L) x := by rw [List.getD_eq_getElem?_getD, en]; rfl
  have hmL : x ∈ uq [] L := (uq_mem L [] _).mpr (.inr (List.mem_of_getElem? ei))
  have e3 : (num L).take i = (L.take i).map fun x => idxD (uq [] L) x := by rw [List.map_take]; rfl
  refine ⟨?_, ?_, ?_⟩
  · rw [h2, eg, e3]
    refine not_congr ?_
    rw [uq_mem, List.mem_map]
    constructor
    · rintro ⟨y, hy, e⟩
      have := idx_inj ((uq_mem L [] y).mpr (.inr (List.mem_of_mem_take hy))) hmL e
      exact .inr (this ▸ hy)
    · rintro (h | h)
      · exact nomatch h
      · exact ⟨_, h, rfl⟩
  · rw [h1, num_take, List.length_map]
  · rw [eg]
    obtain ⟨N, e⟩ := uq_pre (L.drop (i + 1)) (uq [] (L.take (i + 1)))
    rw [← uq_app, List.take_append_drop] at e
    have hm : x ∈ uq [] (L.take (i + 1)) := (uq_mem _ [] _).mpr (.inr (List.mem_of_getElem? (i := i) (by rw [List.getElem?_take, if_pos (by omega), ei])))
    show (uq [] L).idxOf x = (uq [] (L.take (i + 1))).idxOf x
    rw [e, idx_pre hm]
end
abbrev keyS (x : List Str) : List Key := x.map Sum.inr
theorem keyS_V (x : List Str) : (keyS x).map kV = x.map V.str := by rw [keyS, List.map_map]; rfl
theorem keyS_inj {x y : List Str} (e : keyS x = keyS y) : x = y := List.map_inj_right (f := Sum.inr) (fun a b h => Sum.inr.inj h) |>.mp e
/-- the entries of a dict of signs -/
def entT (U : List (List Str)) : List (List Key × V) := (List.range U.length).map fun i => (keyS (U.getD i []), V.int (i : Int))
theorem entT_len (U : List (List Str)) : (entT U).length = U.length := by unfold entT; rw [List.length_map, List.length_range]
theorem valV_entT {U : List (List Str)} (hn : U.Nodup) {z : List Str} : valV (entT U) (keyS z) = if z ∈ U then some (V.int (idxD U z : Nat)) else none := by
  by_cases h : z ∈ U
  · rw [if_pos h]
    have hlt := idxD_lt h
    refine valV_mem ?_ ?_
    · unfold entT
      rw [List.map_map]
      refine List.pairwise_map.mpr (List.Pairwise.imp_of_mem (fun {x y} hx hy hne e => ?_) (List.nodup_range (n := U.length)))
      have hx' := List.mem_range.mp hx
      have hy' := List.mem_range.mp hy
      have e' : U.getD x [] = U.getD y [] := keyS_inj e
      rw [List.getD_eq_getElem?_getD, List.getElem?_eq_getElem hx', List.getD_eq_getElem?_getD, List.getElem?_eq_getElem hy'] at e'
      exact hne ((List.getElem_inj hn).mp e')
    · refine List.mem_map.mpr ⟨idxD U z, List.mem_range.mpr hlt, ?_⟩
      rw [List.getD_eq_getElem?_getD, List.getElem?_eq_getElem hlt]
      show (keyS U[idxD U z], _) = _
      rw [idxD_get h]
  · rw [if_neg h]
    refine valV_no fun hm => h ?_
    unfold entT at hm
    rw [List.map_map] at hm
    obtain ⟨i, hi, e⟩ := List.mem_map.mp hm
    have hi' := List.mem_range.mp hi
    have e' : U.getD i [] = z := keyS_inj e
    rw [← e', List.getD_eq_getElem?_getD, List.getElem?_eq_getElem hi']
    exact List.getElem_mem hi'
theorem entT_snoc (U : List (List Str)) (z : List Str) : entT (U ++ [z]) = entT U ++ [(keyS z, V.int (U.length : Nat))] := by
  unfold entT
  rw [List.length_append, List.length_singleton, List.range_succ, List.map_append]
  congr 1
  · refine List.map_congr_left fun i hi => ?_
    have := List.mem_range.mp hi
    rw [List.getD_eq_getElem?_getD, List.getElem?_append_left this, ← List.getD_eq_getElem?_getD]
  · rw [List.map_singleton, List.getD_eq_getElem?_getD, List.getElem?_append_right (Nat.le_refl _), Nat.sub_self]; rfl
/-- the entries of a dict of numbers -/
def entG (sts : List Int) (g : List Nat) (n : Nat) : List (Key × V) := (List.range n).map fun i => (Sum.inl (sts.getD i 0), V.int (g.getD i 0 : Nat))
theorem entG_len (sts : List Int) (g : List Nat) (n : Nat) : (entG sts g n).length = n := by unfold entG; rw [List.length_map, List.length_range]
theorem entG_succ (sts : List Int) (g : List Nat) (n : Nat) : entG sts g (n + 1) = entG sts g n ++ [(Sum.inl (sts.getD n 0), V.int (g.getD n 0 : Nat))] := by
  unfold entG
  rw [List.range_succ, List.map_append]; rfl
theorem nd_inj {sts : List Int} (nd : sts.Nodup) {i j : Nat} (hi : i < sts.length) (hj : j < sts.length) (e : sts.getD i 0 = sts.getD j 0) : i = j := by
  rw [List.getD_eq_getElem?_getD, List.getElem?_eq_getElem hi, List.getD_eq_getElem?_getD, List.getElem?_eq_getElem hj] at e
  exact (List.getElem_inj nd).mp e
theorem entG_no {sts : List Int} {g : List Nat} {n : Nat} (nd : sts.Nodup) (h : n < sts.length) : valV (entG sts g n) (Sum.inl (sts.getD n 0)) = none := by
  refine valV_no fun hm => ?_
  unfold entG at hm
  rw [List.map_map] at hm
  obtain ⟨i, hi, e⟩ := List.mem_map.mp hm
  have hi' := List.mem_range.mp hi
  have := nd_inj nd (by omega) h (Sum.inl.inj e)
  omega
theorem entG_get {sts : List Int} {g : List Nat} (nd : sts.Nodup) {z : Int} (hz : z ∈ sts) : valV (entG sts g sts.length) (Sum.inl z) = some (V.int (g.getD (sts.idxOf z) 0 : Nat)) := by
  have hlt := List.idxOf_lt_length_of_mem hz
  refine valV_mem ?_ ?_
  · unfold entG
    rw [List.map_map]
    refine List.pairwise_map.mpr (List.Pairwise.imp_of_mem (fun {x y} hx hy hne e => ?_) (List.nodup_range (n := sts.length)))
    exact hne (nd_inj nd (List.mem_range.mp hx) (List.mem_range.mp hy) (Sum.inl.inj e))
  · refine List.mem_map.mpr ⟨sts.idxOf z, List.mem_range.mpr hlt, ?_⟩
    show (Sum.inl (sts.getD (sts.idxOf z) 0), _) = _
    rw [idx_get hz]
def spCoreL (K : PySem.W.Frag) : Sp := fun vs H Q _ => ∃ (p : Addr) (ws : List Str) (rs : List (List Int)) (ss : List Str) (st : Int), vs = [.ref p] ∧ PlainAt H p ws rs ss st ∧ Parts ws rs ss st ∧ (allU ws.length (rs.length - 1)).length ≤ 900 ∧
  ∀ (q : Addr) (H' : Hp) (lr : List (List Nat)) (lt : List Str), LM ws.length lr lt (twM rs ss st) → Parts ws (lr.map intL) lt 0 → H q = none → Same H H' → PlainAt H' q ws (lr.map intL) lt 0 → Q (.ref q) H'
section
variable {P : Program} {w : World} {K : PySem.W.Frag} {mg : Str → Option Value} {base : Heap}
abbrev nCoreL : List Str := ["_law_plain_here", "_law_signs_here", "_law_numbers", "_law_heads", "_law_spot", "_law_row", "_law_sign", "_law_rows_here", "_law_to"]
theorem scCoreL : FnScope nCoreL ["_law_plain_here"] (defScope sCoreL) := ⟨rfl, rfl, rfl, by decide +kernel, rfl, by decide +kernel, by decide +kernel⟩
abbrev eCore2 : Expr := valOf (stOf sCoreL 2)
abbrev scCore2 : Scope := compScope eCore2
theorem ok_corel {f fF fS fR fL : Addr} {fd fdF fdS fdR fdL : FuncData} (D : Df K mg "_law_core" sCoreL ["_law_plain_here"] f fd) (DF : Df K mg "_law_first_rows" sFirst ["_law_plain_here"] fF fdF) (DS : Df K mg "_law_signs" sSigns pSigns fS fdS)
    (DR : Df K mg "_law_rows" sRowsL pRowsL fR fdR) (DL : Df K mg "_law_led" sLed pLed fL fdL) (T : Bt mg) : FnOk P w K mg base CX0 3 f fd ["_law_plain_here"] (spCoreL K) := by
  have GF : FnOk P w K mg base CX0 1 fF fdF ["_law_plain_here"] (spFirst K) := ok_first DF T
  have GS : FnOk P w K mg base CX0 2 fS fdS pSigns (spSigns K) := ok_signs DS DR DL T
  refine D.F.ok scCoreL (fun vs H Q E h => ?_) (fun cdv A outer s H vs Q E hr h => ?_)
  · obtain ⟨p, ws, rs, ss, st, rfl, _⟩ := h
    rfl
  · obtain ⟨p, ws, rs, ss, st, rfl, hp, pt, hle, k⟩ := h
    have hu := hu_of hr
    have hr1 : Room 1 (cxOf CX0 P w K mg base nCoreL "_law_core" (defScope sCoreL) f cdv A outer s H E).nox.A := hr.mono (by decide)
    have hin : ∀ (s' : Shared) (H' : Hp) (C' : Addr) (cl' : List (Str × Addr)) (fp' : List Addr), PE (Cx.blk (cxOf CX0 P w K mg base nCoreL "_law_core" (defScope sCoreL) f cdv A outer s H E).nox s' H' scCore2 (compEnvC scCore2 cl' C' (cxOf CX0 P w K mg base nCoreL "_law_core" (defScope sCoreL) f cdv A outer s H E).nox.env) fp')
        (eltOf eCore2) (tLc (iList K (tOp (rIxL K) (tDGet (tVar 0) (tC (.str "rows"))) (tVar 4))) (gName 8) tYes (tDGet (tVar 2) (tVar 8)) [8]) := fun s' H' C' cl' fp' =>
      pe_lc (own := [("_law_to", 8)]) (g := gName 8) (by rfl) scCoreL.nd (pi_list (pe_ix (r := rIxL K) ix_list (pe_dget hu (pv 0) pe_str (fun _ _ => rfl)) (pv 4) (fun _ _ => rfl)))
          (blkOk_by (own := [("_law_to", 8)]) (N := nCoreL) (sc := relS scCore2 (defScope sCoreL)) (by decide +kernel)) (fun _ _ _ _ _ => pg_name (i := 8) scCoreL.nd rfl (Or.inl rfl)) (fun _ _ _ _ _ => pts_nil)
          (fun _ _ _ _ _ => pe_dget hu (pv 2) (pv 8) (fun _ _ => rfl))
    refine ⟨_, pss_cons (ps_asg (pe_tup (pa_cons pe_dnewT (pa_cons pe_dnewK (pa_cons (pe_lst pa_nil) pa_nil))))
          (pg_tup (by rfl) (pgs_cons (pg_name (i := 1) scCoreL.nd rfl (Or.inl rfl)) (pgs_cons (pg_name (i := 2) scCoreL.nd rfl (Or.inr rfl)) (pgs_cons (pg_name (i := 3) scCoreL.nd rfl (Or.inl rfl)) pgs_nil)))))
      (pss_cons (ps_for PassesOwn.never rfl (pi_list (pe_call GF hr1 rfl DF.g DF.F.kp DF.b .nil pass0 (pa_cons (pv 0) pa_nil))) (pg_tup (by rfl) (pgs_cons (pg_name (i := 4) scCoreL.nd rfl (Or.inl rfl)) (pgs_cons (pg_name (i := 5) scCoreL.nd rfl (Or.inl rfl)) pgs_nil)))
        (pss_cons (ps_set (i := 6) scCoreL.nd rfl (Or.inl rfl) (pe_call GS hr rfl DS.g DS.F.kp DS.b .nil pass0 (pa_cons (pv 0) (pa_cons (pv 4) pa_nil))))
        (pss_cons (ps_if (pt_cmp (pc_dnotin hu (pv 6) (pv 1)))
            (pss_cons (ps_dput hu (pv 1) (pv 6) (pe_callB call_len (by rfl) T.len PySem.boot_len (pa_cons (pv 3) pa_nil)) rfl)
            (pss_one (ps_expr (pe_bm PySem.F.plainAttrs_list PySem.F.slot_list_append PySem.F.type_list_append mt_append (pv 3) (pa_cons (pv 4) pa_nil))))) pss_nil)
        (pss_one (ps_dput hu (pv 2) (pv 4) (pe_dget hu (pv 1) (pv 6) (fun _ _ => rfl)) rfl)))))
      (pss_cons (ps_setLc (i := 7) (own := [("_law_spot", 4)]) (g := gName 4) (by rfl) scCoreL.nd rfl rfl (sw_true rfl rfl rfl (by decide +kernel)) (pi_list (pv 3)) (blkOk_by (own := [("_law_spot", 4)]) (N := nCoreL) (sc := defScope sCoreL) (by decide +kernel)) (fun _ _ _ _ _ => pg_name (i := 4) scCoreL.nd rfl (Or.inl rfl)) (fun _ _ _ _ _ => pts_nil) hin)
      (pss_one (ps_ret (pe_disp (pps_cons pe_str (pe_dget hu (pv 0) pe_str (fun _ _ => rfl)) (pps_cons pe_str (pv 7)
          (pps_cons pe_str (pe_lc (own := [("_law_spot", 4)]) (g := gName 4) (by rfl) scCoreL.nd (pi_list (pv 3)) (blkOk_by (own := [("_law_spot", 4)]) (N := nCoreL) (sc := defScope sCoreL) (by decide +kernel)) (fun _ _ _ _ _ => pg_name (i := 4) scCoreL.nd rfl (Or.inl rfl)) (fun _ _ _ _ _ => pts_nil)
              (fun _ _ _ _ _ => pe_ix (r := rIxL K) ix_list (pe_dget hu (pv 0) pe_str (fun _ _ => rfl)) (pv 4) (fun _ _ => rfl)))
          (pps_cons pe_str pe_int pps_nil)))) (by rfl) (by rfl) (fun z => by cases z) (by decide)))))), ?_⟩
    obtain ⟨t, r, l, rl, ep, et, er, el, hR⟩ := id hp
    have n60 := pt.many
    -- two dicts, a list
    intro sg hsg
    have s1 := same_upd (o := .dT []) hsg
    have es1 : upd H sg (.dT []) sg = some (.dT []) := upd_same
    generalize upd H sg (.dT []) = H1 at s1 es1 ⊢
    intro nu hnu
    have s2 := same_upd (o := .dK []) hnu
    have en2 : upd H1 nu (.dK []) nu = some (.dK []) := upd_same
    generalize upd H1 nu (.dK []) = H2 at s2 en2 ⊢
    refine ⟨Nat.le_of_ble_eq_true rfl, fun hd hhd => ⟨Nat.le_of_ble_eq_true rfl, fun tp htp => ?_⟩⟩
    have s3 := same_upd (o := .lst []) hhd
    have eh3 : upd H2 hd (.lst []) hd = some (.lst []) := upd_same
    generalize upd H2 hd (.lst []) = H3 at s3 eh3 htp ⊢
    have s4 := same_upd (o := .tup [V.ref sg, V.ref nu, V.ref hd]) htp
    have et4 : upd H3 tp (.tup [V.ref sg, V.ref nu, V.ref hd]) tp = some (.tup [V.ref sg, V.ref nu, V.ref hd]) := upd_same
    generalize upd H3 tp (.tup [V.ref sg, V.ref nu, V.ref hd]) = H4 at s4 et4 ⊢
    refine ⟨tp, _, rfl, SqT.of et4, rfl, _, _, rfl, _, _, rfl, _, _, rfl, rfl, ?_⟩
    dsimp only
    have es4 := s4 _ _ (s3 _ _ (s2 _ _ es1))
    have en4 := s4 _ _ (s3 _ _ en2)
    have eh4 := s4 _ _ eh3
    have s04 := ((s1.trans s2).trans s3).trans s4
    have znu : H nu = none := s1.free hnu
    have zhd : H hd = none := (s1.trans s2).free hhd
    have n12 : sg ≠ nu := ne_of es4 en4 (by intro z; cases z)
    have n13 : sg ≠ hd := ne_of es4 eh4 (by intro z; cases z)
    have n23 : nu ≠ hd := ne_of en4 eh4 (by intro z; cases z)
    -- the first rows
    refine ⟨_, rfl, p, ws, rs, ss, st, rfl, hp.same s04, pt, fun lq aq M n H5 eb hlq s5 elq fa => ?_⟩
    have R := rch_of pt eb
    rw [stW_stsL] at R
    have s05 := s04.trans s5
    have es5 := s5 _ _ es4
    have en5 := s5 _ _ en4
    have eh5 := s5 _ _ eh4
    have nlq : ∀ b, b = sg ∨ b = nu ∨ b = hd → lq ≠ b := fun b hb z => by
      rcases hb with rfl | rfl | rfl
      · rw [z, es5] at elq; cases elq
      · rw [z, en5] at elq; cases elq
      · rw [← z] at eh4; exact absurd eh4 (by rw [hlq]; simp)
    obtain ⟨tt, hf⟩ := fix_ex (renR rs (stW rs st M)) (renT ss (stW rs st M)) (by unfold renT renR; rw [List.length_map, List.length_map])
    have eg := gT_sgn pt R hf
    have lm := lm_of pt eb (stW_stsL rs st M).symm hf
    have ptL := parts_least pt R tt
    have gl := gT_len (rs := renR rs (stW rs st M)) (zs := renT ss (stW rs st M)) (by unfold renT renR; rw [List.length_map, List.length_map]) tt
    have gn := gT_num (renR rs (stW rs st M)) (renT ss (stW rs st M)) tt
    have kk : ∀ (q : Addr) (H' : Hp), H q = none → Same H H' → PlainAt H' q ws ((shR (renR rs (stW rs st M)) (gT (renR rs (stW rs st M)) (renT ss (stW rs st M)) tt)).map intL) (shT (renT ss (stW rs st M)) (gT (renR rs (stW rs st M)) (renT ss (stW rs st M)) tt)) 0 → Q (.ref q) H' := fun q H' h1 h2 h3 => k q H' _ _ lm ptL h1 h2 h3
    clear k lm ptL hf
    generalize gT (renR rs (stW rs st M)) (renT ss (stW rs st M)) tt = g at eg gl gn kk
    have lren : (renR rs (stW rs st M)).length = (stW rs st M).length := List.length_map _
    have fa2 : ∀ (i : Nat) (a : Addr), aq[i]? = some a → ∃ s q, (stW rs st M)[i]? = some s ∧ H5 a = some (.tup [.int s, .ref q]) := fun i a ea => by
      have hil : i < M.length := by rw [← fa.1]; exact (List.getElem?_eq_some_iff.mp ea).1
      obtain ⟨q, g1, _⟩ := fa.2 i a _ ea (List.getElem?_eq_getElem hil)
      exact ⟨_, q, by unfold stW; rw [List.getElem?_map, List.getElem?_eq_getElem hil]; rfl, g1⟩
    have lst : (stW rs st M).length = aq.length := by unfold stW; rw [List.length_map, fa.1]
    generalize stW rs st M = sts at R eg gl gn kk lren fa2 lst
    have slen := R.len
    have klt := keptT_lt g
    rw [lren] at gl
    refine ⟨lq, rfl, ⟨_, SqL.of elq⟩, ?_⟩
    refine for_list (K := K) (a := lq) (xs := aq.map V.ref) (fun i σ H' => (∀ b o, b ≠ sg → b ≠ nu → b ≠ hd → H5 b = some o → H' b = some o) ∧ H' sg = some (.dT (entT (uq [] ((sts.map (sgn rs ss ws.length rs.length)).take i)))) ∧ H' nu = some (.dK (entG sts g i)) ∧
      H' hd = some (.lst (((keptT g i).map fun s => sts.getD s 0).map V.int)) ∧ ∃ v4 v5 v6, σ = [some (.ref p), some (.ref sg), some (.ref nu), some (.ref hd), v4, v5, v6, none, none]) ⟨fun b o _ _ _ e => e, es5, en5, eh5, _, _, _, rfl⟩
      (fun i σ H' _ q => SqL.of (q.1 _ _ (nlq _ (.inl rfl)) (nlq _ (.inr (.inl rfl))) (nlq _ (.inr (.inr rfl))) elq)) ?_ ?_
    · rintro i y σ H6 hi ⟨kx, hs6, hn6, hh6, v4, v5, v6, rfl⟩
      rw [List.getElem?_map] at hi
      obtain ⟨a, ea, rfl⟩ := Option.map_eq_some_iff.mp hi
      obtain ⟨s', qq, es, ga⟩ := fa2 i a ea
      have hil := (List.getElem?_eq_some_iff.mp es).1
      have esD : sts.getD i 0 = s' := by rw [List.getD_eq_getElem?_getD, es]; rfl
      obtain ⟨b0, b1⟩ := R.rg s' (List.mem_of_getElem? es)
      have nsg : a ≠ sg := ne_of ga es5 (by intro z; cases z)
      have nnu : a ≠ nu := ne_of ga en5 (by intro z; cases z)
      have nhd : a ≠ hd := ne_of ga eh5 (by intro z; cases z)
      have ga6 := kx _ _ nsg nnu nhd ga
      have s06 : Same H H6 := fun b o e => kx b o (ne_of_none e hsg) (ne_of_none e znu) (ne_of_none e zhd) (s05 _ _ e)
      refine ⟨a, _, rfl, SqT.of ga6, rfl, _, _, rfl, _, _, rfl, rfl, ?_⟩
      dsimp only
      refine ⟨_, rfl, _, rfl, p, s', ws, rs, ss, st, rfl, hp.same s06, pt, b0, b1, hle, fun q H7 hq s7 eq => ?_⟩
      have ex : (sts.map (sgn rs ss ws.length rs.length))[i]? = some (sgn rs ss ws.length rs.length s') := by rw [List.getElem?_map, es]; rfl
      generalize sgn rs ss ws.length rs.length s' = x at ex eq
      generalize hL : sts.map (sgn rs ss ws.length rs.length) = L at eg ex hs6
      have lL : L.length = sts.length := by rw [← hL, List.length_map]
      obtain ⟨g1, g2, g3⟩ := num_new ex
      rw [← eg] at g1 g2 g3
      have etk : L.take (i + 1) = L.take i ++ [x] := by rw [List.take_add_one, ex]; rfl
      rw [etk, uq_snoc] at g3
      have hndU : (uq [] (L.take i)).Nodup := uq_nodup _ _ List.nodup_nil
      have hUl : (uq [] (L.take i)).length ≤ i := by have := uq_len (L.take i); rw [List.length_take] at this; omega
      have hs7 := s7 _ _ hs6
      have hn7 := s7 _ _ hn6
      have hh7 := s7 _ _ hh6
      have ekey : H7 q = some (.tup ((keyS x).map kV)) := by rw [keyS_V]; exact eq
      have ev := valV_entT hndU (z := x)
      have kx7 : ∀ b o, b ≠ sg → b ≠ nu → b ≠ hd → H5 b = some o → H7 b = some o := fun b o n1 n2 n3 e => s7 _ _ (kx b o n1 n2 n3 e)
      have kl := klt i
      have nqs : q ≠ sg := ne_of eq hs7 (by intro z; cases z)
      have nqn : q ≠ nu := ne_of eq hn7 (by intro z; cases z)
      have nqh : q ≠ hd := ne_of eq hh7 (by intro z; cases z)
      refine ⟨_, rfl, _, rfl, sg, _, rfl, DGet.t (k := keyS x) hs7 ekey, ?_⟩
      have hno := entG_no (g := g) R.nd hil
      rw [esD] at hno
      by_cases hx : x ∈ uq [] (L.take i)
      · rw [if_pos hx] at g3 ev
        rw [ev]
        refine ⟨false, rfl, iteF ?_⟩
        refine ⟨_, rfl, _, rfl, sg, V.int (idxD (uq [] (L.take i)) x : Nat), rfl, by rw [← ev]; exact DGet.t (k := keyS x) hs7 ekey, _, rfl, _, rfl, nu, _, rfl, DPut.k (k := Sum.inl s') hn7 (by rw [entG_len, sizeLine_eq]; omega), ?_⟩
        refine ⟨fun b o n1 n2 n3 e => by rw [upd_ne n2]; exact kx7 b o n1 n2 n3 e, ?_, ?_, ?_, _, _, _, rfl⟩
        · rw [upd_ne n12, etk, uq_snoc, if_pos hx]; exact hs7
        · rw [upd_same, putK_new _ hno, entG_succ, esD, g3]
        · rw [upd_ne n23.symm, keptT_succ, if_neg (fun z => (g1.mp z) hx)]; exact hh7
      · rw [if_neg hx] at g3 ev
        rw [ev]
        refine ⟨true, rfl, iteT ?_⟩
        have hlk : (((keptT g i).map fun s => sts.getD s 0).map V.int).length = (keptT g i).length := by rw [List.length_map, List.length_map]
        refine ⟨_, rfl, _, (keptT g i).length, rfl, .inl ⟨_, SqL.of hh7, hlk.symm⟩, _, rfl, _, rfl, sg, _, rfl, DPut.t (k := keyS x) hs7 ekey (by rw [entT_len, sizeLine_eq]; omega), ?_⟩
        have hh8 : upd H7 sg (.dT (putK (entT (uq [] (L.take i))) (keyS x) (V.int ((keptT g i).length : Int)))) hd = some (.lst (((keptT g i).map fun s => sts.getD s 0).map V.int)) := by rw [upd_ne n13.symm]; exact hh7
        have hn8 : upd H7 sg (.dT (putK (entT (uq [] (L.take i))) (keyS x) (V.int ((keptT g i).length : Int)))) nu = some (.dK (entG sts g i)) := by rw [upd_ne n12.symm]; exact hn7
        have hs8 : upd H7 sg (.dT (putK (entT (uq [] (L.take i))) (keyS x) (V.int ((keptT g i).length : Int)))) sg = some (.dT (entT (uq [] (L.take i) ++ [x]))) := by rw [upd_same, putK_new _ ev, entT_snoc, g2]
        have ek8 : upd H7 sg (.dT (putK (entT (uq [] (L.take i))) (keyS x) (V.int ((keptT g i).length : Int)))) q = some (.tup ((keyS x).map kV)) := by rw [upd_ne nqs]; exact ekey
        have kx8 : ∀ b o, b ≠ sg → b ≠ nu → b ≠ hd → H5 b = some o → upd H7 sg (.dT (putK (entT (uq [] (L.take i))) (keyS x) (V.int ((keptT g i).length : Int)))) b = some o := fun b o n1 n2 n3 e => by rw [upd_ne n1]; exact kx7 b o n1 n2 n3 e
        generalize upd H7 sg (.dT (putK (entT (uq [] (L.take i))) (keyS x) (V.int ((keptT g i).length : Int)))) = H8 at hh8 hn8 hs8 ek8 kx8 ⊢
        refine ⟨_, rfl, .inl ⟨rfl, _, SqL.of hh8⟩, _, rfl, hd, _, _, rfl, rfl, hh8, by rw [hlk, sizeLine_eq]; omega, ?_⟩
        have hndU2 : (uq [] (L.take i) ++ [x]).Nodup := by have := uq_nodup (L.take i ++ [x]) [] List.nodup_nil; rw [uq_snoc, if_neg hx] at this; exact this
        have ev2 := valV_entT hndU2 (z := x)
        rw [if_pos (by simp)] at ev2
        have hn9 : upd H8 hd (.lst (((keptT g i).map fun s => sts.getD s 0).map V.int ++ [V.int s'])) nu = some (.dK (entG sts g i)) := by rw [upd_ne n23]; exact hn8
        have hs9 : upd H8 hd (.lst (((keptT g i).map fun s => sts.getD s 0).map V.int ++ [V.int s'])) sg = some (.dT (entT (uq [] (L.take i) ++ [x]))) := by rw [upd_ne n13]; exact hs8
        have ek9 : upd H8 hd (.lst (((keptT g i).map fun s => sts.getD s 0).map V.int ++ [V.int s'])) q = some (.tup ((keyS x).map kV)) := by rw [upd_ne nqh]; exact ek8
        refine ⟨_, rfl, _, rfl, sg, V.int (idxD (uq [] (L.take i) ++ [x]) x : Nat), rfl, by rw [← ev2]; exact DGet.t (k := keyS x) hs9 ek9, _, rfl, _, rfl, nu, _, rfl, DPut.k (k := Sum.inl s') hn9 (by rw [entG_len, sizeLine_eq]; omega), ?_⟩
        refine ⟨fun b o n1 n2 n3 e => by rw [upd_ne n2, upd_ne n3]; exact kx8 b o n1 n2 n3 e, ?_, ?_, ?_, _, _, _, rfl⟩
        · rw [upd_ne n12, hs9, etk, uq_snoc, if_neg hx]
        · rw [upd_same, putK_new _ hno, entG_succ, esD, g3]
        · rw [upd_ne n23.symm, upd_same, keptT_succ, if_pos (g1.mpr hx), List.map_append, List.map_append, List.map_singleton, esD]; rfl
    · rintro σ H6 ⟨kx, hs6, hn6, hh6, v4, v5, v6, rfl⟩
      rw [List.length_map, ← lst] at hs6 hn6 hh6
      have s06 : Same H H6 := fun b o e => kx b o (ne_of_none e hsg) (ne_of_none e znu) (ne_of_none e zhd) (s05 _ _ e)
      have kl := klt sts.length
      have hkm : ∀ {i : Nat} {y : V}, (((keptT g sts.length).map fun s => sts.getD s 0).map V.int)[i]? = some y → ∃ s, (keptT g sts.length)[i]? = some s ∧ s < sts.length ∧ y = .int (sts.getD s 0) := fun {i y} h => by
        rw [List.getElem?_map, List.getElem?_map] at h
        obtain ⟨z, hz, rfl⟩ := Option.map_eq_some_iff.mp h
        obtain ⟨s, hs, rfl⟩ := Option.map_eq_some_iff.mp hz
        exact ⟨s, hs, kl.1 s (List.mem_of_getElem? hs), rfl⟩
      -- the rows
      refine ⟨_, rfl, hd, rfl, ⟨_, SqL.of hh6⟩, fun D hD => ?_⟩
      refine lc_list (K := K) (a := hd) (xs := ((keptT g sts.length).map fun s => sts.getD s 0).map V.int) (fun i H' => Same H6 H' ∧ ∃ bs : List Addr, bs.length = i ∧ H' D = some (.lst (bs.map V.ref)) ∧ (∀ b ∈ bs, b ≠ D) ∧
          RowsAt H' bs ((((keptT g sts.length).map fun s => ((renR rs sts).getD s []).map fun k => g.getD k 0).take i).map intL)) ?_ ?_ ?_ ?_
      · exact ⟨same_upd hD, [], rfl, upd_same, (fun b h => nomatch h), by simp, fun j b r e => by simp at e⟩
      · exact fun i H' _ q => SqL.of (q.1 _ _ hh6)
      · rintro i y H7 hi ⟨s7, bs, hbs, hD7, hbD, hRb⟩
        obtain ⟨κ, eκ, hκ, rfl⟩ := hkm hi
        have hsm : sts.getD κ 0 ∈ sts := List.mem_of_getElem? (getD_get (0 : Int) hκ)
        have ern := renR_get (rs := rs) hκ
        have hcl := R.cl _ hsm
        obtain ⟨b0, b1⟩ := R.rg _ hsm
        generalize hz : sts.getD κ 0 = z at hsm ern hcl b0 b1 hi ⊢
        have erow : rs[z.toNat]? = some (rs.getD z.toNat []) := getD_get ([] : List Int) (by omega)
        obtain ⟨ra, era, ata⟩ := at_ref (as := rl) b0 (by rw [hR.1]; exact b1)
        have s07 := s06.trans s7
        have hra := s07 _ _ (hR.2 _ ra _ era erow)
        have hrl := (pt.row _ (List.mem_of_getElem? erow)).1
        have w6 := pt.gd.len.2
        generalize rs.getD z.toNat [] = row at ern hcl hra hrl
        have hil : i < (keptT g sts.length).length := (List.getElem?_eq_some_iff.mp eκ).1
        refine ⟨rfl, _, rfl, p, _, rfl, gRows (s07 _ _ ep), _, rfl, r, _, z, _, rfl, rfl, SqL.of (s07 _ _ er), ata, ra, rfl, ⟨_, SqL.of hra⟩, fun D2 hD2 => ?_⟩
        refine lc_list (K := K) (a := ra) (xs := row.map V.int) (fun j H' => Same H7 H' ∧ H' D2 = some (.lst (numV ((row.map fun x => g.getD (sts.idxOf x) 0).take j)))) ?_ ?_ ?_ ?_
        · exact ⟨same_upd hD2, upd_same⟩
        · exact fun j H' _ q => SqL.of (q.1 _ _ hra)
        · rintro j y H8 hj ⟨s8, hD8⟩
          rw [List.getElem?_map] at hj
          obtain ⟨x, ex, rfl⟩ := Option.map_eq_some_iff.mp hj
          have hx := hcl x (List.mem_of_getElem? ex)
          have ev := entG_get (g := g) R.nd hx
          refine ⟨rfl, _, rfl, _, rfl, nu, V.int (g.getD (sts.idxOf x) 0 : Nat), rfl, by rw [← ev]; exact DGet.k (k := Sum.inl x) (s8 _ _ (s7 _ _ hn6)), ?_⟩
          refine ⟨_, hD8, ?_, fun b o e => by rw [upd_ne (ne_of_none e hD2)]; exact s8 b o e, ?_⟩
          · unfold numV; rw [List.length_map, List.length_take, List.length_map, sizeLine_eq]; omega
          · have en : (row.map fun x => g.getD (sts.idxOf x) 0)[j]? = some (g.getD (sts.idxOf x) 0) := by rw [List.getElem?_map, ex]; rfl
            rw [upd_same, List.take_add_one, en]
            unfold numV
            rw [List.map_append]; rfl
        · rintro H8 ⟨s8, hD8⟩
          have elen : (row.map V.int).length = (row.map fun x => g.getD (sts.idxOf x) 0).length := by rw [List.length_map, List.length_map]
          rw [elen, List.take_length] at hD8
          have nDD : D2 ≠ D := (ne_of_none hD7 hD2).symm
          have eN : ((keptT g sts.length).map fun s => ((renR rs sts).getD s []).map fun k => g.getD k 0)[i]? = some (row.map fun x => g.getD (sts.idxOf x) 0) := by
            rw [List.getElem?_map, eκ]
            show some (((renR rs sts).getD κ []).map fun k => g.getD k 0) = _
            rw [ern, List.map_map]; rfl
          refine ⟨_, s8 _ _ hD7, ?_, fun c o e => by rw [upd_ne (ne_of_none e hD)]; exact s8 _ _ (s7 _ _ e), bs ++ [D2], by simp [hbs], by rw [upd_same]; simp, fun b hb => ?_, ?_⟩
          · rw [List.length_map, hbs, sizeLine_eq]; omega
          · rcases List.mem_append.mp hb with z | z
            · exact hbD b z
            · rw [List.mem_singleton.mp z]; exact nDD
          · rw [List.take_add_one, eN]
            have e7 := (hRb.same s8).snoc (a := D2) (r := intL (row.map fun x => g.getD (sts.idxOf x) 0)) (by rw [← numV_int]; exact hD8)
            rw [List.map_append]
            refine ⟨e7.1, fun j a u f1 f2 => ?_⟩
            have : a ≠ D := by
              rcases List.mem_append.mp (List.mem_of_getElem? f1) with z | z
              · exact hbD a z
              · rw [List.mem_singleton.mp z]; exact nDD
            rw [upd_ne this]
            exact e7.2 j a u f1 f2
      · rintro H7 ⟨s7, bs, hbs, hD7, hbD, hRb⟩
        rw [List.length_map, List.length_map] at hRb
        rw [List.take_of_length_le (by rw [List.length_map]; exact Nat.le_refl _)] at hRb
        have s07 := s06.trans s7
        -- the dict
        intro q hq
        have s8 := same_upd (o := .dK []) hq
        have eq8 : upd H7 q (.dK []) q = some (.dK []) := upd_same
        generalize upd H7 q (.dK []) = H8 at s8 eq8 ⊢
        have s08 := s07.trans s8
        have hh8 := s8 _ _ (s7 _ _ hh6)
        refine ⟨_, rfl, p, _, rfl, gDeeds (s08 _ _ ep), _, rfl, _, rfl, hd, rfl, ⟨_, SqL.of hh8⟩, fun D3 hD3 => ?_⟩
        refine lc_list (K := K) (a := hd) (xs := ((keptT g sts.length).map fun s => sts.getD s 0).map V.int) (fun i H' => Same H8 H' ∧ H' D3 = some (.lst ((((keptT g sts.length).map fun s => (renT ss sts).getD s "").take i).map V.str))) ?_ ?_ ?_ ?_
        · exact ⟨same_upd hD3, upd_same⟩
        · exact fun i H' _ z => SqL.of (z.1 _ _ hh8)
        · rintro i y H9 hi ⟨s9, hD9⟩
          obtain ⟨κ, eκ, hκ, rfl⟩ := hkm hi
          have hsm : sts.getD κ 0 ∈ sts := List.mem_of_getElem? (getD_get (0 : Int) hκ)
          have ezt := renT_get (ss := ss) hκ
          obtain ⟨b0, b1⟩ := R.rg _ hsm
          have hil : i < (keptT g sts.length).length := (List.getElem?_eq_some_iff.mp eκ).1
          have s09 := s08.trans s9
          refine ⟨rfl, _, rfl, p, _, rfl, gTells (s09 _ _ ep), _, rfl, l, _, _, _, rfl, rfl, SqL.of (s09 _ _ el), at_deed b0 (by rw [pt.tl.1]; exact b1), ?_⟩
          refine ⟨_, hD9, ?_, fun b o e => by rw [upd_ne (ne_of_none e hD3)]; exact s9 b o e, ?_⟩
          · rw [List.length_map, List.length_take, List.length_map, sizeLine_eq]; omega
          · have eN : ((keptT g sts.length).map fun s => (renT ss sts).getD s "")[i]? = some (ss.getD (sts.getD κ 0).toNat "") := by
              rw [List.getElem?_map, eκ]
              show some ((renT ss sts).getD κ "") = _
              rw [ezt]
            rw [upd_same, List.take_add_one, eN, List.map_append]; rfl
        · rintro H9 ⟨s9, hD9⟩
          rw [List.length_map, List.length_map, List.take_of_length_le (by rw [List.length_map]; exact Nat.le_refl _)] at hD9
          have s09 := s08.trans s9
          have eq9 := s9 _ _ eq8
          refine ⟨eq9, plainK t D D3 0, rfl, Nat.le_of_ble_eq_true rfl, ?_⟩
          rw [plainK_merge]
          have s79 := s8.trans s9
          have zq : H q = none := s07.free hq
          have nD : D ≠ q := ne_of_none hD7 hq
          have nD3 : D3 ≠ q := ne_of hD9 eq9 (by intro z; cases z)
          have et9 := et.same s09
          have ntq : t ≠ q := by
            obtain ⟨o, ho, _⟩ := et9
            exact ne_of ho eq9 (by intro z; cases z)
          have lk : g.length = sts.length := gl
          refine kk q _ zq (fun b o e => by rw [upd_ne (ne_of_none e zq)]; exact s09 _ _ e) ⟨t, D, D3, bs, upd_same, et9.upd ntq, by rw [upd_ne nD]; exact s79 _ _ hD7, ?_, ?_⟩
          · rw [upd_ne nD3, hD9, shT, lk]
          · rw [shR, lk]
            have h1 := hRb.same s79
            refine ⟨h1.1, fun j a u f1 f2 => ?_⟩
            have h2 := h1.2 j a u f1 f2
            rw [upd_ne (ne_of h2 eq9 (by intro z; cases z))]
            exact h2
end
end K1
set_option Elab.async false
set_option linter.all false
set_option maxRecDepth 100000
/-! _law_shuffled; a machine built otherwise: the mathematics -/
namespace K1
open PySem L2 LamX
abbrev sShuf : Stmt := top 43
theorem map_erase {α β : Type} (f : α → β) : ∀ (l : List α) (j : Nat), (l.map f).eraseIdx j = (l.eraseIdx j).map f
  | [], _ => rfl
  | _ :: _, 0 => rfl
  | a :: l, j + 1 => by
    show f a :: (l.map f).eraseIdx j = f a :: (l.eraseIdx j).map f
    rw [map_erase f l j]
theorem erase_perm {α : Type} : ∀ (l : List α) (j : Nat) (h : j < l.length), (l[j] :: l.eraseIdx j).Perm l
  | a :: l, 0, _ => List.Perm.refl _
  | a :: l, j + 1, h => (List.Perm.swap a (l[j]'(by simpa using h)) (l.eraseIdx j)).trans ((erase_perm l j (by simpa using h)).cons a)
/-- two machines whose states go along with one another -/
theorem twM_bis {rs rs' : List (List Int)} {ss ss' : List Str} {w : Nat} (R : Int → Int → Prop) (hs : ∀ y x k, R y x → k < w → R ((rs'.getD y.toNat []).getD k 0) ((rs.getD x.toNat []).getD k 0)) (ht : ∀ y x, R y x → ss'.getD y.toNat "" = ss.getD x.toNat "") :
    ∀ (v : List Nat) (y x : Int), (∀ k ∈ v, k < w) → R y x → twM rs' ss' y v = twM rs ss x v
  | [], y, x, _, h => ht y x h
  | k :: v, y, x, hv, h => twM_bis R hs ht v _ _ (fun j hj => hv j (List.mem_cons_of_mem _ hj)) (hs y x k h (hv k (List.mem_cons_self ..)))
/-- an entry, or the twin of an entry -/
def EntT (n twin : Nat) (e x : Int) : Prop := e = x ∨ (x = (twin : Int) ∧ e = (n : Int))
/-- rows with one state doubled -/
structure Twin (w : Nat) (rs : List (List Int)) (twin : Nat) (rs1 : List (List Int)) : Prop where
  len : rs1.length = rs.length + 1
  row : ∀ i < rs.length + 1, (rs1.getD i []).length = w ∧ ∀ k < w, EntT rs.length twin ((rs1.getD i []).getD k 0) ((rs.getD (if i = rs.length then twin else i) []).getD k 0)
section
variable {ws : List Str} {rs : List (List Int)} {ss : List Str} {st : Int} {twin : Nat}
theorem rows_len (pt : Parts ws rs ss st) {i : Nat} (h : i < rs.length) : (rs.getD i []).length = ws.length ∧ ∀ k < ws.length, 0 ≤ (rs.getD i []).getD k 0 ∧ (rs.getD i []).getD k 0 < (rs.length : Int) := by
  have h1 := pt.row _ (List.mem_of_getElem? (getD_get ([] : List Int) h))
  refine ⟨h1.1, fun k hk => h1.2 _ (List.mem_of_getElem? (getD_get (0 : Int) (by omega)))⟩
theorem Twin.init (pt : Parts ws rs ss st) (ht : twin < rs.length) : Twin ws.length rs twin (rs ++ [rs.getD twin []]) := by
  refine ⟨by simp, fun i hi => ?_⟩
  by_cases e : i = rs.length
  · rw [if_pos e, e]
    have e1 : (rs ++ [rs.getD twin []]).getD rs.length [] = rs.getD twin [] := by
      rw [List.getD_eq_getElem?_getD, List.getElem?_append_right (Nat.le_refl _), Nat.sub_self]; rfl
    rw [e1]
    exact ⟨(rows_len pt ht).1, fun k hk => .inl rfl⟩
  · rw [if_neg e]
    have e1 : (rs ++ [rs.getD twin []]).getD i [] = rs.getD i [] := by
      rw [List.getD_eq_getElem?_getD, List.getElem?_append_left (by omega), ← List.getD_eq_getElem?_getD]
    rw [e1]
    exact ⟨(rows_len pt (by omega)).1, fun k hk => .inl rfl⟩
theorem getD_set {α : Type} (l : List α) (i j : Nat) (x d : α) (hi : i < l.length) : (l.set i x).getD j d = if i = j then x else l.getD j d := by
  rw [List.getD_eq_getElem?_getD, List.getElem?_set]
  by_cases e : i = j
  · rw [if_pos e, if_pos e, if_pos (by omega)]; rfl
  · rw [if_neg e, if_neg e, List.getD_eq_getElem?_getD]
theorem Twin.turn (pt : Parts ws rs ss st) (ht : twin < rs.length) {rs1 : List (List Int)} (h : Twin ws.length rs twin rs1) {i k : Nat} (hi : i < rs.length + 1) (hk : k < ws.length) (he : (rs1.getD i []).getD k 0 = (twin : Int)) :
    Twin ws.length rs twin (rs1.set i ((rs1.getD i []).set k (rs.length : Int))) := by
  refine ⟨by rw [List.length_set]; exact h.len, fun j hj => ?_⟩
  rw [getD_set _ _ _ _ _ (by rw [h.len]; exact hi)]
  by_cases e : i = j
  · subst e
    rw [if_pos rfl, List.length_set]
    refine ⟨(h.row i hi).1, fun q hq => ?_⟩
    rw [getD_set _ _ _ _ _ (by rw [(h.row i hi).1]; exact hk)]
    by_cases e2 : k = q
    · subst e2
      rw [if_pos rfl]
      rcases (h.row i hi).2 k hk with h1 | ⟨_, h1⟩
      · exact .inr ⟨by rw [← h1, he], rfl⟩
      · rw [he] at h1; omega
    · rw [if_neg e2]; exact (h.row i hi).2 q hq
  · rw [if_neg e]; exact h.row j hj
theorem Twin.ent (pt : Parts ws rs ss st) (ht : twin < rs.length) {rs1 : List (List Int)} (h : Twin ws.length rs twin rs1) {i k : Nat} (hi : i < rs.length + 1) (hk : k < ws.length) : 0 ≤ (rs1.getD i []).getD k 0 ∧ (rs1.getD i []).getD k 0 < (rs.length : Int) + 1 := by
  have hα : (if i = rs.length then twin else i) < rs.length := by split <;> omega
  have h1 := (rows_len pt hα).2 k hk
  rcases (h.row i hi).2 k hk with e | ⟨_, e⟩
  · rw [e]; omega
  · rw [e]; omega
/-- the doubled machine, one more state, all states under other numbers: it tells the same -/
theorem other_tells (pt : Parts ws rs ss st) (ht : twin < rs.length) {rs1 : List (List Int)} (h : Twin ws.length rs twin rs1) {lost : List Int} {π : List Int} (hp : π.length = rs.length + 2) (hr : ∀ x ∈ π, 0 ≤ x ∧ x < (rs.length : Int) + 2)
    {rs2 : List (List Int)} {ss2 : List Str} (h2 : ∀ i < rs.length + 2, rs2.getD (π.getD i 0).toNat [] = ((rs1 ++ [lost]).getD i []).map (fun (e : Int) => π.getD e.toNat 0) ∧ ss2.getD (π.getD i 0).toNat "" = ((ss ++ [ss.getD twin ""]) ++ [("lost" : Str)]).getD i "")
    {s1 : Nat} (hs1 : s1 < rs.length + 1) (hst : (if s1 = rs.length then twin else s1) = st.toNat) : ∀ v : List Nat, (∀ k ∈ v, k < ws.length) → twM rs2 ss2 (π.getD s1 0) v = twM rs ss st v := by
  have key := twM_bis (rs := rs) (rs' := rs2) (ss := ss) (ss' := ss2) (w := ws.length) (fun y x => ∃ i < rs.length + 1, y = π.getD i 0 ∧ x.toNat = (if i = rs.length then twin else i)) ?_ ?_
  · exact fun v hv => key v _ _ hv ⟨s1, hs1, rfl, hst.symm⟩
  · rintro y x k ⟨i, hi, rfl, hx⟩ hk
    have hα : (if i = rs.length then twin else i) < rs.length := by split <;> omega
    have e1 : (rs1 ++ [lost]).getD i [] = rs1.getD i [] := by rw [List.getD_eq_getElem?_getD, List.getElem?_append_left (by rw [h.len]; omega), ← List.getD_eq_getElem?_getD]
    have hrow := h.row i hi
    have hen := h.ent pt ht hi hk
    rw [(h2 i (by omega)).1, e1, hx]
    have e2 : ((rs1.getD i []).map (fun (e : Int) => π.getD e.toNat 0)).getD k 0 = π.getD ((rs1.getD i []).getD k 0).toNat 0 := by
      rw [List.getD_eq_getElem?_getD, List.getElem?_map, getD_get (0 : Int) (xs := rs1.getD i []) (n := k) (by rw [hrow.1]; exact hk)]; rfl
    rw [e2]
    refine ⟨((rs1.getD i []).getD k 0).toNat, by omega, rfl, ?_⟩
    have hx2 := (rows_len pt hα).2 k hk
    have hr2 := hrow.2 k hk
    generalize (if i = rs.length then twin else i) = a at hα hr2 hx2 ⊢
    rcases hr2 with e | ⟨e3, e⟩
    · rw [e, if_neg (by omega)]
    · rw [e, e3, if_pos (by omega)]; simp
  · rintro y x ⟨i, hi, rfl, hx⟩
    rw [(h2 i (by omega)).2, hx]
    have hl := pt.tl.1
    by_cases e : i = rs.length
    · rw [if_pos e, e]
      rw [List.getD_eq_getElem?_getD, List.getElem?_append_left (by simp; omega), List.getElem?_append_right (by omega), hl, Nat.sub_self]; rfl
    · rw [if_neg e]
      rw [List.getD_eq_getElem?_getD, List.getElem?_append_left (by simp; omega), List.getElem?_append_left (by omega), ← List.getD_eq_getElem?_getD]
end
def spShuf (K : PySem.W.Frag) : Sp := fun vs H Q _ => ∃ (d c p : Addr) (n : Nat) (xs : List Int), vs = [.ref d, .ref p] ∧ PenAt H d c n ∧ n ≤ 800000 ∧ p ≠ d ∧ SqL K H p (xs.map V.int) ∧ xs.length ≤ 100 ∧
  ∀ (q : Addr) (ys : List Int) (H' : Hp), ys.Perm xs → H q = none → H' q = some (.lst (ys.map V.int)) → PenAt H' d c (n + xs.length) → Kept d H H' → Q (.ref q) H'
section
variable {P : Program} {w : World} {K : PySem.W.Frag} {mg : Str → Option Value} {base : Heap}
abbrev pShuf : List Str := ["_law_pen_here", "_law_some"]
abbrev nShuf : List Str := ["_law_pen_here", "_law_some", "_law_left", "_law_found", "_law_k"]
theorem scShuf : FnScope nShuf pShuf (defScope sShuf) := ⟨rfl, rfl, rfl, by decide +kernel, rfl, by decide +kernel, by decide +kernel⟩
theorem ok_shuf {f fD : Addr} {fd fdD : FuncData} (D : Df K mg "_law_shuffled" sShuf pShuf f fd) (DD : Df K mg "_law_draw" sDraw pDraw fD fdD) (T : Bt mg) : FnOk P w K mg base CX0 2 f fd pShuf (spShuf K) := by
  have GD : FnOk P w K mg base CX0 1 fD fdD pDraw spDraw := ok_draw DD.F T
  refine D.F.ok scShuf (fun vs H Q E h => ?_) (fun cdv A outer s H vs Q E hr h => ?_)
  · obtain ⟨d, c, p, n, xs, rfl, _⟩ := h
    rfl
  · obtain ⟨d, c, p, n, xs, rfl, hpen, hn, npd, hx, hl, k⟩ := h
    refine ⟨_, pss_cons (ps_par (i := 2) (j := 3) (by rfl) scShuf.nd rfl rfl (by decide) rfl rfl
          (pa_cons (pe_callTy call_list_of (by rfl) T.list PyProof.Rows.boot_list (pa_cons (pv 1) pa_nil)) (pa_cons (pe_lst pa_nil) pa_nil)) (by rfl))
      (pss_cons (ps_for PassesOwn.never rfl (pi_range1 rfl T.range (pa_cons (pe_callB call_len (by rfl) T.len PySem.boot_len (pa_cons (pv 2) pa_nil)) pa_nil)) (pg_name (i := 4) scShuf.nd rfl (Or.inl rfl))
        (pss_one (ps_expr (pe_bm PySem.F.plainAttrs_list PySem.F.slot_list_append PySem.F.type_list_append mt_append (pv 3)
          (pa_cons (pe_bm PySem.F.plainAttrs_list PySem.F.slot_list_pop PySem.F.type_list_pop mt_popAt (pv 2) (pa_cons (pe_call GD hr rfl DD.g DD.F.kp DD.b .nil pass0 (pa_cons (pv 0) (pa_cons (pe_callB call_len (by rfl) T.len PySem.boot_len (pa_cons (pv 2) pa_nil)) pa_nil))) pa_nil)) pa_nil)))))
      (pss_one (ps_ret (pv 3)))), ?_⟩
    refine ⟨_, rfl, p, _, rfl, .inl hx, fun l1 hl1 => ⟨Nat.le_of_ble_eq_true rfl, fun l2 hl2 => ⟨_, _, rfl, ?_⟩⟩⟩
    have s1 := same_upd (o := .lst (xs.map V.int)) hl1
    have e1 : upd H l1 (.lst (xs.map V.int)) l1 = some (.lst (xs.map V.int)) := upd_same
    generalize upd H l1 (.lst (xs.map V.int)) = H1 at s1 e1 hl2 ⊢
    have s2 := same_upd (o := .lst []) hl2
    have e2 : upd H1 l2 (.lst []) l2 = some (.lst (([] : List Int).map V.int)) := upd_same
    have e12 := s2 _ _ e1
    generalize upd H1 l2 (.lst []) = H2 at s2 e2 e12 ⊢
    have s02 := s1.trans s2
    have zl2 : H l2 = none := s1.free hl2
    have n12 : l1 ≠ l2 := ne_of_none e1 hl2
    have n1d := (hpen.ne hl1)
    have n2d := (hpen.ne zl2)
    refine ⟨_, rfl, _, xs.length, rfl, .inl ⟨_, SqL.of e12, (List.length_map _).symm⟩, (xs.length : Int), rfl, by omega, by omega, ?_⟩
    rw [Int.toNat_natCast]
    refine for_range (lo := 0) (n := xs.length) (fun i σ H' => ∃ (v4 : Option V) (as bs : List Int), σ = [some (.ref d), some (.ref p), some (.ref l1), some (.ref l2), v4] ∧ PenAt H' d c (n + i) ∧ Kept d H H' ∧ H' l1 = some (.lst (as.map V.int)) ∧ H' l2 = some (.lst (bs.map V.int)) ∧ (bs ++ as).Perm xs ∧ bs.length = i) ?_ ?_ ?_
    · exact ⟨_, xs, [], rfl, hpen.same s02, .same s02, e12, e2, List.Perm.refl _, rfl⟩
    · rintro i σ H3 hi ⟨v4, as, bs, rfl, pen3, k3, ea, eb, hperm, hbl⟩
      have hlen := hperm.length_eq
      rw [List.length_append] at hlen
      have hpos : 0 < as.length := by omega
      refine ⟨_, rfl, .inl ⟨rfl, _, SqL.of eb⟩, _, rfl, .inl ⟨rfl, _, SqL.of ea⟩, _, rfl, _, rfl, _, as.length, rfl, .inl ⟨_, SqL.of ea, (List.length_map _).symm⟩, d, c, _, (as.length : Int), rfl, pen3, by omega, by omega, by omega, fun x H4 x0 x1 pen4 k4 => ?_⟩
      obtain ⟨j, rfl, hj⟩ : ∃ j : Nat, x = (j : Int) ∧ j < as.length := ⟨x.toNat, by omega, by omega⟩
      have ea4 := k4 _ _ ea n1d.1
      have eb4 := k4 _ _ eb n2d.1
      have ej : as[j]? = some as[j] := List.getElem?_eq_getElem hj
      refine ⟨l1, _, _, j, V.int as[j], rfl, rfl, ea4, by omega, by omega, ?_, by rw [List.getElem?_map, ej]; rfl, ?_⟩
      · rw [List.length_map]
        exact (ixN_seq (n := as.length) (i := (j : Int)) (j := j) (by unfold ixN; rw [if_pos (by omega), if_pos (by omega)]; rfl)).1
      refine ⟨l2, _, _, rfl, rfl, by rw [upd_ne n12.symm]; exact eb4, by rw [List.length_map, sizeLine_eq]; omega, ?_⟩
      refine ⟨_, as.eraseIdx j, bs ++ [as[j]], rfl, ?_, ?_, ?_, ?_, ?_, by simp [hbl]⟩
      · exact ((pen4.upd n1d.1 n1d.2).upd n2d.1 n2d.2).mono (by omega)
      · exact ((k3.trans k4).upd hl1).upd zl2
      · rw [upd_ne n12, upd_same, map_erase]
      · rw [upd_same, List.map_append]; rfl
      · refine List.Perm.trans ?_ hperm
        rw [List.append_assoc]
        refine List.Perm.append_left bs ?_
        exact erase_perm as j hj
    · rintro σ H3 ⟨v4, as, bs, rfl, pen3, k3, ea, eb, hperm, hbl⟩
      have hlen := hperm.length_eq
      rw [List.length_append] at hlen
      have : as = [] := List.length_eq_zero_iff.mp (by omega)
      subst this
      rw [List.append_nil] at hperm
      exact ⟨_, rfl, k l2 bs H3 hperm zl2 eb pen3 k3⟩
end
end K1
set_option Elab.async false
set_option linter.all false
set_option maxRecDepth 100000
/-! a == b of two dicts whose values are data: both answers -/
namespace L2
open PySem PySem.Spec PyProof.Rows
/-- two values, told as data; are they equal -/
def EqD (K : PySem.W.Frag) (H : Hp) (x y : V) (b : Bool) : Prop := ∃ d e, Dp K H x d ∧ Dp K H y e ∧ d.canLay0 = true ∧ e.canLay0 = true ∧ d.depth ≤ 60 ∧ b = PyData.eqv d e
inductive HitsD (K : PySem.W.Frag) (H : Hp) (ls : List (Key × V)) : List (Key × V) → Bool → Prop
  | nil : HitsD K H ls [] true
  | cons {k : Key} {x u : V} {r : List (Key × V)} {e b : Bool} : valV ls k = some u → EqD K H x u e → HitsD K H ls r b → HitsD K H ls ((k, x) :: r) (e && b)
def rEqDk (K : PySem.W.Frag) : R2 := fun x y H Q => ∃ a b ks ls r, x = .ref a ∧ y = .ref b ∧ H a = some (.dK ks) ∧ H b = some (.dK ls) ∧ ks.length = ls.length ∧ HitsD K H ls ks r ∧ Q (.bl r) H
section
variable {X : Cx} {pins : List (Addr × Obj)} {σ : St} {H : Hp} {s : Shared}
theorem eqD_run (I : Inv X pins σ H s) {A : Around} (hu : A.units + 60 < cLine) {x y : V} {v u : Value} {b : Bool} (h : EqD X.K H x y b) (rx : RelV x v) (ry : RelV y u) : SeqAt.EqP X.prog X.w A s v u b := by
  obtain ⟨d, e, hd, he, ld, le, dd, rfl⟩ := h
  obtain ⟨as, r1⟩ := Dp.reads I d x v hd rx
  obtain ⟨bs, r2⟩ := Dp.reads I e y u he ry
  exact (SeqAt.eqAt_reads d e A s v u as bs r1 r2 ld le (by have := Nat.min_le_left d.depth e.depth; omega)).eqP
theorem hitsD_run (I : Inv X pins σ H s) {A : Around} (hu : A.units + 60 < cLine) {ls : List (Key × V)} {vb : List (Key × Value)} (rb : KV ls vb) {ks : List (Key × V)} {r : Bool} (h : HitsD X.K H ls ks r) :
    ∀ {va : List (Key × Value)}, KV ks va → PySem.W.KeqHitsP X.prog X.w A s vb va r := by
  induction h with
  | nil =>
    intro va ra
    unfold KV at ra
    cases ra
    exact .nil
  | @cons k x u r e b hv he hr ih =>
    intro va ra
    unfold KV at ra
    cases ra with
    | @cons _ q _ qs h t =>
      obtain ⟨h1, h2⟩ := h
      have rr : RelO (some u) (valueAt vb k) := by rw [← hv]; exact rb.val k
      obtain ⟨y, hy, ry⟩ := rr.some_of
      obtain ⟨key, v⟩ := q
      have h1' : k = key := h1
      subst h1'
      exact .hit hy (eqD_run I hu he h2 ry) (ih t)
end
section
variable {X : Cx}
theorem op_eqDk (hu : X.A.units + 64 < cLine) : OpR X (compareOp .Eq) (rEqDk X.K) := by
  intro pins s σ H x y v u Q I rx ry h
  obtain ⟨a, b, ks, ls, r, rfl, rfl, ha, hb, hl, hh, q⟩ := h
  cases (show v = Value.ref a from rx)
  cases (show u = Value.ref b from ry)
  obtain ⟨_, ya, va, ra, da⟩ := (show ObjOk X.prog X.w H s.heap a (.dK ks) from I.hok a _ ha)
  obtain ⟨_, yb, vb, rb, db⟩ := (show ObjOk X.prog X.w H s.heap b (.dK ls) from I.hok b _ hb)
  refine PySem.W.rcP_dicts (knd := mixKind X.prog X.w) (r := r) ya yb da db (by omega) (fun _ => hitsD_run I (A := X.A.in1) (by show X.A.units + 1 + 60 < cLine; omega) rb hh ra) _ _ ?_
  have e : va.length = vb.length := by rw [← ra.length, ← rb.length]; exact hl
  rw [show (va.length == vb.length && r) = r from by rw [e]; simp]
  exact ⟨.bl r, H, I, rfl, q⟩
end
end L2
set_option Elab.async false
set_option linter.all false
set_option maxRecDepth 100000
set_option maxHeartbeats 4000000
/-! _law_other_way -/
namespace K1
open PySem L2 LamX
abbrev sOtherW : Stmt := top 53
theorem no_tl : Tl "no" := by show 1 ≤ ("no" : Str).cps.toList.length ∧ ("no" : Str).cps.toList.length ≤ 60 ∧ ∀ x ∈ ("no" : Str).cps.toList, x ∈ TL'; decide +kernel
theorem yes_tl : Tl "yes" := by show 1 ≤ ("yes" : Str).cps.toList.length ∧ ("yes" : Str).cps.toList.length ≤ 60 ∧ ∀ x ∈ ("yes" : Str).cps.toList, x ∈ TL'; decide +kernel
theorem lost_tl : Tl "lost" := by show 1 ≤ ("lost" : Str).cps.toList.length ∧ ("lost" : Str).cps.toList.length ≤ 60 ∧ ∀ x ∈ ("lost" : Str).cps.toList, x ∈ TL'; decide +kernel
def menu : List Str := ["yes", "no"]
theorem menu_tl {z : Str} (h : z ∈ menu) : Tl z := by
  simp only [menu, List.mem_cons, List.not_mem_nil, or_false] at h
  rcases h with rfl | rfl
  · exact yes_tl
  · exact no_tl
/-- the rows and tells of a bent machine, while they are bent -/
structure BentAt (H : Hp) (D lt : Addr) (bs : List Addr) (rs : List (List Int)) (ss : List Str) : Prop where
  hD : H D = some (.lst (bs.map V.ref))
  hl : H lt = some (.lst (ss.map V.str))
  hR : RowsAt H bs rs
theorem BentAt.upd {H : Hp} {D lt q : Addr} {o : HO} {bs : List Addr} {rs : List (List Int)} {ss : List Str} (h : BentAt H D lt bs rs ss) (n1 : D ≠ q) (n2 : lt ≠ q) (n3 : ∀ b ∈ bs, b ≠ q) : BentAt (L2.upd H q o) D lt bs rs ss :=
  ⟨by rw [upd_ne n1]; exact h.hD, by rw [upd_ne n2]; exact h.hl, ⟨h.hR.1, fun i a r e1 e2 => by rw [upd_ne (n3 a (List.mem_of_getElem? e1))]; exact h.hR.2 i a r e1 e2⟩⟩
theorem BentAt.kept {H H' : Hp} {D lt d : Addr} {bs : List Addr} {rs : List (List Int)} {ss : List Str} (h : BentAt H D lt bs rs ss) (k : Kept d H H') (n1 : D ≠ d) (n2 : lt ≠ d) (n3 : ∀ b ∈ bs, b ≠ d) : BentAt H' D lt bs rs ss :=
  ⟨k _ _ h.hD n1, k _ _ h.hl n2, h.hR.kept k n3⟩
/-- a tell is drawn anew -/
theorem BentAt.tell {H : Hp} {D lt : Addr} {bs : List Addr} {rs : List (List Int)} {ss : List Str} (h : BentAt H D lt bs rs ss) (n1 : D ≠ lt) (n3 : ∀ b ∈ bs, b ≠ lt) (j : Nat) (z : Str) : BentAt (L2.upd H lt (.lst ((ss.map V.str).set j (.str z)))) D lt bs rs (ss.set j z) :=
  ⟨by rw [upd_ne n1]; exact h.hD, by rw [upd_same, List.map_set], ⟨h.hR.1, fun i a r e1 e2 => by rw [upd_ne (n3 a (List.mem_of_getElem? e1))]; exact h.hR.2 i a r e1 e2⟩⟩
/-- an entry is drawn anew -/
theorem BentAt.entry {H : Hp} {D lt b : Addr} {bs : List Addr} {rs : List (List Int)} {ss : List Str} (h : BentAt H D lt bs rs ss) (nd : bs.Nodup) (n1 : D ≠ b) (n2 : lt ≠ b) {i : Nat} (hb : bs[i]? = some b) (j : Nat) (z : Int) :
    BentAt (L2.upd H b (.lst (((rs.getD i []).map V.int).set j (.int z)))) D lt bs (rs.set i ((rs.getD i []).set j z)) ss := by
  refine ⟨by rw [upd_ne n1]; exact h.hD, by rw [upd_ne n2]; exact h.hl, ⟨by rw [List.length_set]; exact h.hR.1, fun k a r e1 e2 => ?_⟩⟩
  have hi : i < bs.length := (List.getElem?_eq_some_iff.mp hb).1
  have hk : k < bs.length := (List.getElem?_eq_some_iff.mp e1).1
  by_cases e : i = k
  · subst e
    obtain rfl : b = a := by rw [hb] at e1; exact Option.some.inj e1
    rw [List.getElem?_set_self (by rw [← h.hR.1]; exact hi)] at e2
    rw [upd_same, ← Option.some.inj e2, List.map_set]
  · rw [List.getElem?_set_ne e] at e2
    have hn : a ≠ b := fun z => by
      subst z
      have h1 := (List.getElem?_eq_some_iff.mp hb).2
      have h2 := (List.getElem?_eq_some_iff.mp e1).2
      exact e ((List.getElem_inj nd).mp (h1.trans h2.symm))
    rw [upd_ne hn]
    exact h.hR.2 k a r e1 e2
theorem mem_set {α : Type} {l : List α} {i : Nat} {x y : α} (h : y ∈ l.set i x) : y = x ∨ y ∈ l := by
  rcases List.mem_or_eq_of_mem_set h with h | h
  · exact .inr h
  · exact .inl h
theorem RowsAt.set {H : Hp} {bs : List Addr} {rs : List (List Int)} {b : Addr} {r : List Int} (h : RowsAt H bs rs) (e : H b = some (.lst (r.map V.int))) (i : Nat) : RowsAt H (bs.set i b) (rs.set i r) := by
  refine ⟨by rw [List.length_set, List.length_set]; exact h.1, fun j a q e1 e2 => ?_⟩
  have hj : j < bs.length := by have := (List.getElem?_eq_some_iff.mp e1).1; rwa [List.length_set] at this
  by_cases z : i = j
  · subst z
    rw [List.getElem?_set_self hj] at e1
    rw [List.getElem?_set_self (by rw [← h.1]; exact hj)] at e2
    rw [← Option.some.inj e1, ← Option.some.inj e2]; exact e
  · rw [List.getElem?_set_ne z] at e1 e2
    exact h.2 j a q e1 e2
/-- the rows and tells are lists that are no others -/
structure BentN (H0 : Hp) (D lt : Addr) (bs : List Addr) : Prop where
  nd : bs.Nodup
  nb : ∀ b ∈ bs, b ≠ D ∧ b ≠ lt ∧ H0 b = none
  nl : D ≠ lt
  zD : H0 D = none
  zl : H0 lt = none
theorem BentN.d {H0 : Hp} {D lt d c : Addr} {n : Nat} {bs : List Addr} (h : BentN H0 D lt bs) (p : PenAt H0 d c n) : (D ≠ d ∧ D ≠ c) ∧ (lt ≠ d ∧ lt ≠ c) ∧ ∀ b ∈ bs, b ≠ d ∧ b ≠ c :=
  ⟨p.ne h.zD, p.ne h.zl, fun b hb => p.ne (h.nb b hb).2.2⟩
/-- one more row -/
theorem BentAt.more {H0 H : Hp} {D lt q : Addr} {bs : List Addr} {rs : List (List Int)} {ss : List Str} {r : List Int} (h : BentAt H D lt bs rs ss) (N : BentN H0 D lt bs) (hq : H q = some (.lst (r.map V.int))) (nq : q ∉ bs) (nD : q ≠ D) (nl : q ≠ lt) (zq : H0 q = none) :
    BentAt (L2.upd H D (.lst (bs.map V.ref ++ [V.ref q]))) D lt (bs ++ [q]) (rs ++ [r]) ss ∧ BentN H0 D lt (bs ++ [q]) := by
  have N2 : BentN H0 D lt (bs ++ [q]) := by
    refine ⟨List.nodup_append.mpr ⟨N.nd, by simp, fun a ha b hb e => ?_⟩, fun b hb => ?_, N.nl, N.zD, N.zl⟩
    · rw [List.mem_singleton.mp hb] at e
      exact nq (e ▸ ha)
    · rcases List.mem_append.mp hb with z | z
      · exact N.nb b z
      · rw [List.mem_singleton.mp z]; exact ⟨nD, nl, zq⟩
  have e := h.hR.snoc hq
  refine ⟨⟨by rw [upd_same, List.map_append]; rfl, by rw [upd_ne N.nl.symm]; exact h.hl, e.1, fun i a r e1 e2 => ?_⟩, N2⟩
  rw [upd_ne (N2.nb a (List.mem_of_getElem? e1)).1]
  exact e.2 i a r e1 e2
/-- one more tell -/
theorem BentAt.more_tell {H0 H : Hp} {D lt : Addr} {bs : List Addr} {rs : List (List Int)} {ss : List Str} (h : BentAt H D lt bs rs ss) (N : BentN H0 D lt bs) (z : Str) : BentAt (L2.upd H lt (.lst (ss.map V.str ++ [V.str z]))) D lt bs rs (ss ++ [z]) :=
  ⟨by rw [upd_ne N.nl]; exact h.hD, by rw [upd_same, List.map_append]; rfl, h.hR.1, fun i a r e1 e2 => by rw [upd_ne (N.nb a (List.mem_of_getElem? e1)).2.1]; exact h.hR.2 i a r e1 e2⟩
theorem BentAt.live {H : Hp} {D lt : Addr} {bs : List Addr} {rs : List (List Int)} {ss : List Str} (h : BentAt H D lt bs rs ss) : ∀ b ∈ bs, ∃ r : List Int, H b = some (.lst (r.map V.int)) := fun b hb => by
  obtain ⟨j, hj, rfl⟩ := List.mem_iff_getElem.mp hb
  exact ⟨_, h.hR.2 j _ _ (List.getElem?_eq_getElem hj) (List.getElem?_eq_getElem (by rw [← h.hR.1]; exact hj))⟩
theorem BentAt.new {H : Hp} {D lt q : Addr} {bs : List Addr} {rs : List (List Int)} {ss : List Str} (h : BentAt H D lt bs rs ss) (hq : H q = none) : q ∉ bs ∧ q ≠ D ∧ q ≠ lt :=
  by
  refine ⟨fun hb => ?_, (ne_of_none h.hD hq).symm, (ne_of_none h.hl hq).symm⟩
  obtain ⟨r, e⟩ := h.live q hb
  rw [hq] at e
  cases e
theorem BentAt.same {H H' : Hp} {D lt : Addr} {bs : List Addr} {rs : List (List Int)} {ss : List Str} (h : BentAt H D lt bs rs ss) (s : Same H H') : BentAt H' D lt bs rs ss := ⟨s _ _ h.hD, s _ _ h.hl, h.hR.same s⟩
/-- numbers in another order -/
theorem perm_nums {ys : List Int} {m : Nat} (h : ys.Perm ((List.range m).map fun (i : Nat) => (i : Int))) : ys.length = m ∧ (∀ x ∈ ys, 0 ≤ x ∧ x < (m : Int)) ∧ ys.Nodup ∧ ∀ j < m, ∃ i < m, (ys.getD i 0).toNat = j := by
  have hl : ys.length = m := by rw [h.length_eq, List.length_map, List.length_range]
  refine ⟨hl, fun x hx => ?_, ?_, fun j hj => ?_⟩
  · have := h.mem_iff.mp hx
    obtain ⟨i, hi, rfl⟩ := List.mem_map.mp this
    have := List.mem_range.mp hi
    omega
  · refine h.nodup_iff.mpr ?_
    exact List.pairwise_map.mpr ((List.nodup_range (n := m)).imp fun hne e => hne (by omega))
  · have : (j : Int) ∈ ys := h.mem_iff.mpr (List.mem_map.mpr ⟨j, List.mem_range.mpr hj, rfl⟩)
    obtain ⟨i, hi, e⟩ := List.mem_iff_getElem.mp this
    refine ⟨i, by omega, ?_⟩
    rw [List.getD_eq_getElem?_getD, List.getElem?_eq_getElem hi, e]; simp
def spOtherW (K : PySem.W.Frag) : Sp := fun vs H Q _ => ∃ (d c p : Addr) (n : Nat) (ws : List Str) (rs : List (List Int)) (ss : List Str) (st : Int), vs = [.ref d, .ref p] ∧ PenAt H d c n ∧ n ≤ 700000 ∧ PlainAt H p ws rs ss st ∧ p ≠ d ∧ Parts ws rs ss st ∧ rs.length ≤ 20 ∧
  ∀ (q : Addr) (rs' : List (List Int)) (ss' : List Str) (st' : Int) (H' : Hp), H q = none → PlainAt H' q ws rs' ss' st' → Parts ws rs' ss' st' → ("lost" : Str) ∈ ss' → (∀ v : List Nat, (∀ k ∈ v, k < ws.length) → twM rs' ss' st' v = twM rs ss st v) → PenAt H' d c (n + 400) → Kept d H H' → Q (.ref q) H'
section
variable {P : Program} {w : World} {K : PySem.W.Frag} {mg : Str → Option Value} {base : Heap}
abbrev pOtherW : List Str := ["_law_pen_here", "_law_plain_here"]
abbrev nOtherW : List Str := ["_law_pen_here", "_law_plain_here", "_law_rows_here", "_law_tells", "_law_twin", "_law_many", "_law_row", "_law_k", "_law_start", "_law_places", "_law_found", "_law_told", "_law_state", "_law_deed", "_law_to"]
theorem scOtherW : FnScope nOtherW pOtherW (defScope sOtherW) := ⟨rfl, rfl, rfl, by decide +kernel, rfl, by decide +kernel, by decide +kernel⟩
theorem ok_otherw {f fD fS : Addr} {fd fdD fdS : FuncData} (D : Df K mg "_law_other_way" sOtherW pOtherW f fd) (DD : Df K mg "_law_draw" sDraw pDraw fD fdD) (DS : Df K mg "_law_shuffled" sShuf pShuf fS fdS) (T : Bt mg) : FnOk P w K mg base CX0 3 f fd pOtherW (spOtherW K) := by
  have GD : FnOk P w K mg base CX0 1 fD fdD pDraw spDraw := ok_draw DD.F T
  have GS : FnOk P w K mg base CX0 2 fS fdS pShuf (spShuf K) := ok_shuf DS DD T
  refine D.F.ok scOtherW (fun vs H Q E h => ?_) (fun cdv A outer s H vs Q E hr h => ?_)
  · obtain ⟨d, c, p, n, ws, rs, ss, st, rfl, _⟩ := h
    rfl
  · obtain ⟨d, c, p, n, ws, rs, ss, st, rfl, hpen, hn, hp, npd, pt, h20, k⟩ := h
    have hu := hu_of hr
    have hr1 : Room 1 (cxOf CX0 P w K mg base nOtherW "_law_other_way" (defScope sOtherW) f cdv A outer s H E).nox.A := hr.mono (by decide)
    refine ⟨_, pss_cons (ps_par (i := 2) (j := 3) (by rfl) scOtherW.nd rfl rfl (by decide) rfl rfl
          (pa_cons (pe_lc (own := [("_law_row", 6)]) (g := gName 6) (by rfl) scOtherW.nd (pi_list (pe_dget hu (pv 1) pe_str (fun _ _ => rfl)))
              (blkOk_by (own := [("_law_row", 6)]) (N := nOtherW) (sc := defScope sOtherW) (by decide +kernel)) (fun _ _ _ _ _ => pg_name (i := 6) scOtherW.nd rfl (Or.inl rfl)) (fun _ _ _ _ _ => pts_nil)
              (fun _ _ _ _ _ => pe_callTy (r := rLi K) call_list_of (by rfl) T.list PyProof.Rows.boot_list (pa_cons (pv 6) pa_nil)))
            (pa_cons (pe_callTy call_list_of (by rfl) T.list PyProof.Rows.boot_list (pa_cons (pe_dget hu (pv 1) pe_str (fun _ _ => rfl)) pa_nil)) pa_nil)) (by rfl))
      (pss_cons (ps_asg (pe_tup (pa_cons (pe_call GD hr1 rfl DD.g DD.F.kp DD.b .nil pass0 (pa_cons (pv 0) (pa_cons (pe_callB call_len (by rfl) T.len PySem.boot_len (pa_cons (pv 2) pa_nil)) pa_nil))) (pa_cons (pe_callB call_len (by rfl) T.len PySem.boot_len (pa_cons (pv 2) pa_nil)) pa_nil)))
          (pg_tup (by rfl) (pgs_cons (pg_name (i := 4) scOtherW.nd rfl (Or.inl rfl)) (pgs_cons (pg_name (i := 5) scOtherW.nd rfl (Or.inr rfl)) pgs_nil))))
      (pss_cons (ps_expr (pe_bm PySem.F.plainAttrs_list PySem.F.slot_list_append PySem.F.type_list_append mt_append (pv 2) (pa_cons (pe_callTy (r := rLi K) call_list_of (by rfl) T.list PyProof.Rows.boot_list (pa_cons (pe_ix ix_list (pv 2) (pv 4) (fun _ _ => rfl)) pa_nil)) pa_nil)))
      (pss_cons (ps_expr (pe_bm PySem.F.plainAttrs_list PySem.F.slot_list_append PySem.F.type_list_append mt_append (pv 3) (pa_cons (pe_ix ix_list (pv 3) (pv 4) (fun _ _ => rfl)) pa_nil)))
      (pss_cons (ps_for PassesOwn.never rfl (pi_list (pv 2)) (pg_name (i := 6) scOtherW.nd rfl (Or.inl rfl))
        (pss_one (ps_for PassesOwn.never rfl (pi_range1 rfl T.range (pa_cons (pe_callB call_len (by rfl) T.len PySem.boot_len (pa_cons (pv 6) pa_nil)) pa_nil)) (pg_name (i := 7) scOtherW.nd rfl (Or.inl rfl))
          (pss_one (ps_if (PW.pt (pw_and (pt_cmpR op_eq (pe_ix ix_list (pv 6) (pv 7) (fun _ _ => rfl)) (pv 4) (nomark _)) (pw_and1 (pt_cmpR op_eq (pe_call GD hr1 rfl DD.g DD.F.kp DD.b .nil pass0 (pa_cons (pv 0) (pa_cons pe_int pa_nil))) pe_int (nomark _)))))
            (pss_one (ps_asg (pv 5) (pg_sub (pv 6) (pv 7) set_list))) pss_nil)))))
      (pss_cons (ps_expr (pe_bm PySem.F.plainAttrs_list PySem.F.slot_list_append PySem.F.type_list_append mt_append (pv 2) (pa_cons (pe_lc (own := [("_law_deed", 13)]) (g := gName 13) (by rfl) scOtherW.nd (pi_tup (pe_dget hu (pv 1) pe_str (fun _ _ => rfl)))
              (blkOk_by (own := [("_law_deed", 13)]) (N := nOtherW) (sc := defScope sOtherW) (by decide +kernel)) (fun _ _ _ _ _ => pg_name (i := 13) scOtherW.nd rfl (Or.inl rfl)) (fun _ _ _ _ _ => pts_nil)
              (fun _ _ _ _ _ => pe_call GD hr1 rfl DD.g DD.F.kp DD.b .nil pass0 (pa_cons (pv 0) (pa_cons (pe_op op_add (pv 5) pe_int) pa_nil)))) pa_nil)))
      (pss_cons (ps_expr (pe_bm PySem.F.plainAttrs_list PySem.F.slot_list_append PySem.F.type_list_append mt_append (pv 3) (pa_cons pe_str pa_nil)))
      (pss_cons (ps_set (i := 8) scOtherW.nd rfl (Or.inl rfl) (pe_ifExp (PW.pt (pw_and (pt_cmpR op_eq (pe_dget hu (pv 1) pe_str (fun _ _ => rfl)) (pv 4) (nomark _)) (pw_and1 (pt_cmpR op_eq (pe_call GD hr1 rfl DD.g DD.F.kp DD.b .nil pass0 (pa_cons (pv 0) (pa_cons pe_int pa_nil))) pe_int (nomark _)))))
          (pv 5) (pe_dget hu (pv 1) pe_str (fun _ _ => rfl))))
      (pss_cons (ps_set (i := 9) scOtherW.nd rfl (Or.inr rfl) (pe_call GS hr rfl DS.g DS.F.kp DS.b .nil pass0 (pa_cons (pv 0) (pa_cons (pe_listRg rfl rfl T.list (prg_1 rfl T.range (pe_op op_add (pv 5) pe_int))) pa_nil))))
      (pss_cons (ps_par (i := 10) (j := 11) (by rfl) scOtherW.nd rfl rfl (by decide) rfl rfl
          (pa_cons (pe_lc (own := [("_law_row", 6)]) (g := gName 6) (by rfl) scOtherW.nd (pi_list (pv 2)) (blkOk_by (own := [("_law_row", 6)]) (N := nOtherW) (sc := defScope sOtherW) (by decide +kernel)) (fun _ _ _ _ _ => pg_name (i := 6) scOtherW.nd rfl (Or.inl rfl)) (fun _ _ _ _ _ => pts_nil)
              (fun _ _ _ _ _ => pe_lst pa_nil))
            (pa_cons (pe_lc (own := [("_law_row", 6)]) (g := gName 6) (by rfl) scOtherW.nd (pi_list (pv 2)) (blkOk_by (own := [("_law_row", 6)]) (N := nOtherW) (sc := defScope sOtherW) (by decide +kernel)) (fun _ _ _ _ _ => pg_name (i := 6) scOtherW.nd rfl (Or.inl rfl)) (fun _ _ _ _ _ => pts_nil)
              (fun _ _ _ _ _ => pe_str)) pa_nil)) (by rfl))
      (pss_cons (ps_for PassesOwn.never rfl (pi_range1 rfl T.range (pa_cons (pe_op op_add (pv 5) pe_int) pa_nil)) (pg_name (i := 12) scOtherW.nd rfl (Or.inl rfl))
        (pss_cons (ps_asg (pe_lc (own := [("_law_to", 14)]) (g := gName 14) (by rfl) scOtherW.nd (pi_list (pe_ix (r := rIxL K) ix_list (pv 2) (pv 12) (fun _ _ => rfl))) (blkOk_by (own := [("_law_to", 14)]) (N := nOtherW) (sc := defScope sOtherW) (by decide +kernel)) (fun _ _ _ _ _ => pg_name (i := 14) scOtherW.nd rfl (Or.inl rfl)) (fun _ _ _ _ _ => pts_nil)
              (fun _ _ _ _ _ => pe_ix (r := rIxL K) ix_list (pv 9) (pv 14) (fun _ _ => rfl))) (pg_sub (pv 10) (pe_ix ix_list (pv 9) (pv 12) (fun _ _ => rfl)) set_list))
        (pss_one (ps_asg (pe_ix ix_list (pv 3) (pv 12) (fun _ _ => rfl)) (pg_sub (pv 11) (pe_ix ix_list (pv 9) (pv 12) (fun _ _ => rfl)) set_list)))))
      (pss_one (ps_ret (pe_disp (pps_cons pe_str (pe_dget hu (pv 1) pe_str (fun _ _ => rfl)) (pps_cons pe_str (pv 10) (pps_cons pe_str (pv 11)
          (pps_cons pe_str (pe_ix ix_list (pv 9) (pv 8) (fun _ _ => rfl)) pps_nil)))) (by rfl) (by rfl) (fun z => by cases z) (by decide)))))))))))))), ?_⟩
    obtain ⟨t, r, l, as, ep, et, er, el, hR⟩ := id hp
    obtain ⟨kv, ed⟩ := hpen.dk
    have n1 := pt.many.1
    have w6 := pt.gd.len
    obtain ⟨st0, st1⟩ := pt.st
    have noF : ∀ o ys, HO.dK kv ≠ .frz o (.tup ys) := fun o ys e => by cases e
    -- copies
    refine ⟨_, rfl, p, _, rfl, gRows ep, r, rfl, ⟨_, SqL.of er⟩, fun D1 hD1 => ?_⟩
    refine lc_list (K := K) (a := r) (xs := as.map V.ref) (fun i H' => Same H H' ∧ ∃ bs : List Addr, H' D1 = some (.lst (bs.map V.ref)) ∧ RowsAt H' bs (rs.take i) ∧ bs.Nodup ∧ ∀ q ∈ bs, q ≠ D1 ∧ H q = none) ?_ ?_ ?_ ?_
    · exact ⟨same_upd hD1, [], upd_same, ⟨by simp, fun i a r e => by simp at e⟩, List.nodup_nil, by simp⟩
    · exact fun i H' _ q => SqL.of (q.1 _ _ er)
    · rintro i y H6 hi ⟨sm6, bs, hD6, hR6, hnd6, hn6⟩
      rw [List.getElem?_map] at hi
      obtain ⟨ai, eai, rfl⟩ := Option.map_eq_some_iff.mp hi
      have hir : i < rs.length := by rw [← hR.1]; exact (List.getElem?_eq_some_iff.mp eai).1
      have eri : rs[i]? = some rs[i] := List.getElem?_eq_getElem hir
      have ha6 := sm6 _ _ (hR.2 i ai _ eai eri)
      refine ⟨rfl, _, rfl, ai, _, rfl, .inl (SqL.of ha6), fun q hq => ?_⟩
      have nDq : D1 ≠ q := ne_of_none hD6 hq
      have hqb : ∀ b ∈ bs, b ≠ q := fun b hb => by
        obtain ⟨j, hj, rfl⟩ := List.mem_iff_getElem.mp hb
        have h1 := hR6.2 j _ _ (List.getElem?_eq_getElem hj) (List.getElem?_eq_getElem (by rw [← hR6.1]; exact hj))
        exact ne_of_none h1 hq
      refine ⟨_, (by rw [upd_ne nDq]; exact hD6), ?_, ?_, bs ++ [q], by rw [upd_same]; simp, ?_, ?_, ?_⟩
      · rw [List.length_map, hR6.1, List.length_take]; exact small1000 (by omega)
      · exact fun c o e => by rw [upd_ne (ne_of_none e hD1), upd_ne (ne_of_none (sm6 _ _ e) hq)]; exact sm6 _ _ e
      · have e7 : RowsAt (upd H6 q (.lst ((rs[i]).map V.int))) (bs ++ [q]) (rs.take i ++ [rs[i]]) := (hR6.same (same_upd hq)).snoc upd_same
        have e8 : rs.take (i + 1) = rs.take i ++ [rs[i]] := by rw [List.take_add_one, eri]; rfl
        rw [e8]
        refine ⟨e7.1, fun j a u e1 e2 => ?_⟩
        have : a ≠ D1 := by
          rcases List.mem_append.mp (List.mem_of_getElem? e1) with h | h
          · exact (hn6 a h).1
          · rw [List.mem_singleton.mp h]; exact nDq.symm
        rw [upd_ne this]
        exact e7.2 j a u e1 e2
      · refine List.nodup_append.mpr ⟨hnd6, by simp, fun a ha b hb => ?_⟩
        rw [List.mem_singleton.mp hb]
        exact hqb a ha
      · intro a ha
        rcases List.mem_append.mp ha with h | h
        · exact hn6 a h
        · rw [List.mem_singleton.mp h]
          exact ⟨nDq.symm, sm6.free hq⟩
    rintro H1 ⟨s1, bs, hD, hR1, hnd, hnew⟩
    rw [List.length_map, hR.1, List.take_length] at hR1
    refine ⟨_, rfl, p, _, rfl, gTells (s1 _ _ ep), l, _, rfl, .inl (SqL.of (s1 _ _ el)), fun lt hlt => ⟨_, _, rfl, ?_⟩⟩
    have s2 := same_upd (o := .lst (ss.map V.str)) hlt
    have zlt : H lt = none := s1.free hlt
    have nDl : D1 ≠ lt := ne_of_none hD hlt
    have nbl : ∀ b ∈ bs, b ≠ lt := fun b hb => by
      obtain ⟨j, hj, rfl⟩ := List.mem_iff_getElem.mp hb
      have h1 := hR1.2 j _ _ (List.getElem?_eq_getElem hj) (List.getElem?_eq_getElem (by rw [← hR1.1]; exact hj))
      exact ne_of_none h1 hlt
    have b2 : BentAt (upd H1 lt (.lst (ss.map V.str))) D1 lt bs rs ss := ⟨s2 _ _ hD, upd_same, hR1.same s2⟩
    have N2 : BentN H D1 lt bs := ⟨hnd, fun b hb => ⟨(hnew b hb).1, nbl b hb, (hnew b hb).2⟩, nDl, hD1, zlt⟩
    have k02 : Kept d H (upd H1 lt (.lst (ss.map V.str))) := .same (s1.trans s2)
    have pen2 := hpen.same (s1.trans s2)
    generalize upd H1 lt (.lst (ss.map V.str)) = H2 at b2 k02 pen2 ⊢
    clear hR1 hnd hnew nbl hD
    have lenb := b2.hR.1
    have lmb : (bs.map V.ref).length = rs.length := by rw [List.length_map, lenb]
    -- twin, many
    refine ⟨_, rfl, _, rfl, _, rs.length, rfl, .inl ⟨_, SqL.of b2.hD, lmb.symm⟩, d, c, n, (rs.length : Int), rfl, pen2, by omega, by omega, by omega, fun x H3 x0 x1 pen3 k3 => ?_⟩
    obtain ⟨twin, rfl, htw⟩ : ∃ j : Nat, x = (j : Int) ∧ j < rs.length := ⟨x.toNat, by omega, by omega⟩
    obtain ⟨nD, nL, nB⟩ := N2.d hpen
    have b3 := b2.kept k3 nD.1 nL.1 (fun b hb => (nB b hb).1)
    have k03 := k02.trans k3
    refine ⟨_, rfl, _, rs.length, rfl, .inl ⟨_, SqL.of b3.hD, lmb.symm⟩, Nat.le_of_ble_eq_true rfl, fun tp htp => ?_⟩
    have s4 := same_upd (o := .tup [V.int (twin : Int), V.int (rs.length : Int)]) htp
    have ztp : H tp = none := k03.free pen3 htp
    have e4 : upd H3 tp (.tup [V.int (twin : Int), V.int (rs.length : Int)]) tp = some (.tup [V.int (twin : Int), V.int (rs.length : Int)]) := upd_same
    have b4 := b3.same s4
    have pen4 := pen3.same s4
    have k04 : Kept d H (upd H3 tp (.tup [V.int (twin : Int), V.int (rs.length : Int)])) := k03.trans (.same s4)
    generalize upd H3 tp (.tup [V.int (twin : Int), V.int (rs.length : Int)]) = H4 at e4 b4 pen4 k04 ⊢
    refine ⟨tp, _, rfl, SqT.of e4, rfl, _, _, rfl, _, _, rfl, rfl, ?_⟩
    dsimp only
    -- the doubled row
    have htb : twin < bs.length := by rw [lenb]; exact htw
    have ebt : bs[twin]? = some bs[twin] := List.getElem?_eq_getElem htb
    have ert : rs[twin]? = some (rs.getD twin []) := getD_get ([] : List Int) htw
    refine ⟨_, rfl, .inl ⟨rfl, _, SqL.of b4.hD⟩, _, rfl, _, rfl, D1, _, _, .ref bs[twin], rfl, rfl, SqL.of b4.hD, atI_nat (by rw [List.getElem?_map, ebt]; rfl), bs[twin], _, rfl, .inl (SqL.of (b4.hR.2 twin _ _ ebt ert)), fun q1 hq1 => ?_⟩
    have zq1 : H q1 = none := k04.free pen4 hq1
    obtain ⟨w1, w2, w3⟩ := b4.new hq1
    have s5 := same_upd (o := .lst ((rs.getD twin []).map V.int)) hq1
    have eq1 : upd H4 q1 (.lst ((rs.getD twin []).map V.int)) q1 = some (.lst ((rs.getD twin []).map V.int)) := upd_same
    have b5 := b4.same s5
    have pen5 := pen4.same s5
    have k05 : Kept d H (upd H4 q1 (.lst ((rs.getD twin []).map V.int))) := k04.trans (.same s5)
    generalize upd H4 q1 (.lst ((rs.getD twin []).map V.int)) = H5 at eq1 b5 pen5 k05 ⊢
    refine ⟨D1, _, _, rfl, rfl, b5.hD, by rw [lmb, sizeLine_eq]; omega, ?_⟩
    obtain ⟨b6, N6⟩ := b5.more N2 eq1 w1 w2 w3 zq1
    have pen6 := pen5.upd (o := .lst (bs.map V.ref ++ [V.ref q1])) nD.1 nD.2
    have k06 := k05.upd (o := .lst (bs.map V.ref ++ [V.ref q1])) N2.zD
    generalize upd H5 D1 (.lst (bs.map V.ref ++ [V.ref q1])) = H6 at b6 pen6 k06 ⊢
    have hsl := pt.tl.1
    refine ⟨_, rfl, .inl ⟨rfl, _, SqL.of b6.hl⟩, _, rfl, _, rfl, lt, _, _, _, rfl, rfl, SqL.of b6.hl, at_deed (k := (twin : Int)) (by omega) (by omega), lt, _, _, rfl, rfl, b6.hl, by rw [List.length_map, hsl, sizeLine_eq]; omega, ?_⟩
    rw [Int.toNat_natCast]
    have b7 := b6.more_tell N6 (ss.getD twin "")
    have pen7 := pen6.upd (o := .lst (ss.map V.str ++ [V.str (ss.getD twin "")])) nL.1 nL.2
    have k07 := k06.upd (o := .lst (ss.map V.str ++ [V.str (ss.getD twin "")])) N2.zl
    generalize upd H6 lt (.lst (ss.map V.str ++ [V.str (ss.getD twin "")])) = H7 at b7 pen7 k07 ⊢
    have T7 := Twin.init pt htw
    generalize hbs1 : bs ++ [q1] = bs1 at b7 N6
    have lb1 : bs1.length = rs.length + 1 := by rw [← hbs1, List.length_append, lenb]; rfl
    generalize rs ++ [rs.getD twin []] = rsA at b7 T7
    clear b2 b3 b4 b5 b6 pen2 pen3 pen4 pen5 pen6 k02 k03 k04 k05 k06 hbs1 lenb lmb ebt htb e4 eq1 w1 w2 w3 N2 nB k3
    obtain ⟨_, _, nB⟩ := N6.d hpen
    -- entries of the twin
    refine ⟨_, rfl, D1, rfl, ⟨_, SqL.of b7.hD⟩, ?_⟩
    refine for_list (K := K) (a := D1) (xs := bs1.map V.ref) (fun i σ H' => ∃ (v6 v7 : Option V) (rs1 : List (List Int)), σ = [some (.ref d), some (.ref p), some (.ref D1), some (.ref lt), some (.int (twin : Int)), some (.int (rs.length : Int)), v6, v7, none, none, none, none, none, none, none] ∧
        PenAt H' d c (n + 1 + 6 * i) ∧ Kept d H H' ∧ BentAt H' D1 lt bs1 rs1 (ss ++ [ss.getD twin ""]) ∧ Twin ws.length rs twin rs1) ⟨_, _, rsA, rfl, pen7, k07, b7, T7⟩ ?_ ?_ ?_
    · rintro i σ H' _ ⟨v6, v7, rs1, rfl, _, _, b', _⟩
      exact SqL.of b'.hD
    · rintro i y σ H8 hi ⟨v6, v7, rs1, rfl, pen8, k8, b8, T8⟩
      rw [List.getElem?_map] at hi
      obtain ⟨b, eb, rfl⟩ := Option.map_eq_some_iff.mp hi
      have hil : i < rs.length + 1 := by rw [← lb1]; exact (List.getElem?_eq_some_iff.mp eb).1
      have hmb := List.mem_of_getElem? eb
      have er1 : rs1[i]? = some (rs1.getD i []) := getD_get ([] : List Int) (by rw [T8.len]; exact hil)
      have hbr := b8.hR.2 i b _ eb er1
      refine ⟨_, rfl, _, ws.length, rfl, .inl ⟨_, SqL.of hbr, by rw [List.length_map, (T8.row i hil).1]⟩, (ws.length : Int), rfl, by omega, by omega, ?_⟩
      rw [Int.toNat_natCast]
      refine for_range (lo := 0) (n := ws.length) (fun j σ H' => ∃ (v7 : Option V) (rs1 : List (List Int)), σ = [some (.ref d), some (.ref p), some (.ref D1), some (.ref lt), some (.int (twin : Int)), some (.int (rs.length : Int)), some (.ref b), v7, none, none, none, none, none, none, none] ∧
        PenAt H' d c (n + 1 + 6 * i + j) ∧ Kept d H H' ∧ BentAt H' D1 lt bs1 rs1 (ss ++ [ss.getD twin ""]) ∧ Twin ws.length rs twin rs1) ?_ ?_ ?_
      · exact ⟨_, rs1, rfl, pen8, k8, b8, T8⟩
      · rintro j σ H9 hj ⟨v7, rs1, rfl, pen9, k9, b9, T9⟩
        have er1 : rs1[i]? = some (rs1.getD i []) := getD_get ([] : List Int) (by rw [T9.len]; exact hil)
        have hbr := b9.hR.2 i b _ eb er1
        have hrl := (T9.row i hil).1
        refine ⟨_, rfl, _, rfl, b, _, _, _, rfl, rfl, SqL.of hbr, at_int (k := 0 + (j : Int)) (by omega) (by rw [hrl]; omega), _, rfl, rfl, _, rfl, ?_⟩
        rw [Int.zero_add, Int.toNat_natCast]
        refine ite2 (fun he => ?_) (fun _ => ?_)
        · have he' : (rs1.getD i []).getD j 0 = (twin : Int) := by
            have := of_decide_eq_true he
            injection this
          refine ⟨_, rfl, d, c, _, 2, rfl, pen9, by omega, by decide, by decide, fun r0 HA r00 r01 penA kA => ⟨rfl, _, rfl, ?_⟩⟩
          have bA := b9.kept kA nD.1 nL.1 (fun b hb => (nB b hb).1)
          have k0A := k9.trans kA
          refine ite2 (fun _ => ?_) (fun _ => ?_)
          · refine ⟨_, rfl, _, rfl, _, rfl, b, _, _, j, rfl, rfl, bA.hR.2 i b _ eb er1, ?_, ?_⟩
            · rw [List.length_map, hrl]; unfold ixN; rw [if_pos (by omega), if_pos (by omega)]; simp
            refine ⟨_, _, rfl, (penA.upd (nB b hmb).1 (nB b hmb).2).mono (by omega), k0A.upd (N6.nb b hmb).2.2, bA.entry N6.nd (N6.nb b hmb).1.symm (N6.nb b hmb).2.1.symm eb j _, T9.turn pt htw hil hj he'⟩
          · exact ⟨_, rs1, rfl, penA.mono (by omega), k0A, bA, T9⟩
        · exact ⟨_, rs1, rfl, pen9.mono (by omega), k9, b9, T9⟩
      · rintro σ H9 ⟨v7, rs1, rfl, pen9, k9, b9, T9⟩
        exact ⟨_, _, rs1, rfl, pen9.mono (by omega), k9, b9, T9⟩
    rintro σ H8 ⟨v6, v7, rs1, rfl, pen8', k8, b8, T8⟩
    have pen8 := pen8'.mono (show _ ≤ n + 1 + 126 by rw [List.length_map, lb1]; omega)
    clear pen8' pen7 k07 b7 T7
    -- the lost state
    refine ⟨_, rfl, .inl ⟨rfl, _, SqL.of b8.hD⟩, _, rfl, p, _, rfl, gDeeds (k8 _ _ ep npd), t, rfl, ⟨_, (k8.seqF ed noF et).sq⟩, fun q2 hq2 => ?_⟩
    have zq2 : H q2 = none := k8.free pen8 hq2
    obtain ⟨w1, w2, w3⟩ := b8.new hq2
    have nq2 := hpen.ne zq2
    refine lc_tup (K := K) (a := t) (xs := ws.map V.str) (fun i H' => ∃ xs : List Int, xs.length = i ∧ (∀ x ∈ xs, 0 ≤ x ∧ x < (rs.length : Int) + 2) ∧ H' q2 = some (.lst (xs.map V.int)) ∧ PenAt H' d c (n + 127 + i) ∧ Kept d H H' ∧ BentAt H' D1 lt bs1 rs1 (ss ++ [ss.getD twin ""])) ?_ ?_ ?_ ?_
    · exact ⟨[], rfl, by simp, upd_same, (pen8.upd nq2.1 nq2.2).mono (by omega), k8.upd zq2, b8.upd w2.symm w3.symm (fun b hb z => w1 (z ▸ hb))⟩
    · rintro i H' _ ⟨xs, _, _, _, _, k', _⟩
      exact (k'.seqF ed noF et).sq
    · rintro i y H9 hi ⟨xs, hxl, hxr, eq9, pen9, k9, b9⟩
      have hil : i < ws.length := by have := (List.getElem?_eq_some_iff.mp hi).1; rwa [List.length_map] at this
      refine ⟨rfl, _, rfl, _, rfl, _, _, rfl, rfl, d, c, _, (rs.length : Int) + 2, rfl, pen9, by omega, by omega, by omega, fun x HA x0 x1 penA kA => ?_⟩
      have eqA := kA _ _ eq9 nq2.1
      have bA := b9.kept kA nD.1 nL.1 (fun b hb => (nB b hb).1)
      refine ⟨_, eqA, by rw [List.length_map, hxl, sizeLine_eq]; omega, xs ++ [x], by simp [hxl], fun z hz => ?_, by rw [upd_same, List.map_append]; rfl, (penA.upd nq2.1 nq2.2).mono (by omega), (k9.trans kA).upd zq2, bA.upd w2.symm w3.symm (fun b hb z => w1 (z ▸ hb))⟩
      rcases List.mem_append.mp hz with h | h
      · exact hxr z h
      · rw [List.mem_singleton.mp h]; exact ⟨x0, x1⟩
    rintro H9 ⟨lost, hxl, hxr, eq9, pen9, k9, b9⟩
    rw [List.length_map] at hxl pen9
    have lmb1 : (bs1.map V.ref).length = rs.length + 1 := by rw [List.length_map, lb1]
    refine ⟨D1, _, _, rfl, rfl, b9.hD, by rw [lmb1, sizeLine_eq]; omega, ?_⟩
    obtain ⟨bA, NA⟩ := b9.more N6 eq9 w1 w2 w3 zq2
    have penA := pen9.upd (o := .lst (bs1.map V.ref ++ [V.ref q2])) nD.1 nD.2
    have kA := k9.upd (o := .lst (bs1.map V.ref ++ [V.ref q2])) N6.zD
    generalize upd H9 D1 (.lst (bs1.map V.ref ++ [V.ref q2])) = HA at bA penA kA ⊢
    refine ⟨_, rfl, .inl ⟨rfl, _, SqL.of bA.hl⟩, lt, _, _, rfl, rfl, bA.hl, by rw [List.length_map, List.length_append, hsl, sizeLine_eq]; show rs.length + 1 < _; omega, ?_⟩
    have bB := bA.more_tell NA "lost"
    have penB := penA.upd (o := .lst ((ss ++ [ss.getD twin ""]).map V.str ++ [V.str "lost"])) nL.1 nL.2
    have kB := kA.upd (o := .lst ((ss ++ [ss.getD twin ""]).map V.str ++ [V.str "lost"])) N6.zl
    generalize upd HA lt (.lst ((ss ++ [ss.getD twin ""]).map V.str ++ [V.str "lost"])) = HB at bB penB kB ⊢
    generalize hbs2 : bs1 ++ [q2] = bs2 at bB NA
    have lb2 : bs2.length = rs.length + 2 := by rw [← hbs2, List.length_append, lb1]; rfl
    clear b8 b9 bA pen8 pen9 penA k8 k9 kA hbs2 lmb1 eq9 w1 w2 w3 N6 nB lb1 nq2
    obtain ⟨_, _, nB⟩ := NA.d hpen
    -- the start
    have epB := kB _ _ ep npd
    refine ⟨_, rfl, p, _, rfl, gStart epB, _, rfl, rfl, _, rfl, ?_⟩
    refine ite2 (fun he => ?_) (fun hne => ?_)
    · have he' : st = (twin : Int) := by
        have := of_decide_eq_true he
        injection this
      refine ⟨_, rfl, d, c, _, 2, rfl, penB, by omega, by decide, by decide, fun r0 HC r00 r01 penC' kC => ⟨rfl, _, rfl, ?_⟩⟩
      have bC := bB.kept kC nD.1 nL.1 (fun b hb => (nB b hb).1)
      have k0C := kB.trans kC
      have penC := penC'.mono (show _ ≤ n + 140 by omega)
      refine ite2 (fun _ => ?_) (fun _ => ?_)
      · refine ⟨_, rfl, ?_⟩
        obtain ⟨s1, es1, hs1, hst⟩ : ∃ s1 : Nat, (rs.length : Int) = (s1 : Int) ∧ s1 < rs.length + 1 ∧ (if s1 = rs.length then twin else s1) = st.toNat := ⟨rs.length, rfl, by omega, by rw [if_pos rfl, he']; simp⟩
        -- the places
        refine ⟨_, rfl, _, rfl, _, _, rfl, rfl, (rs.length : Int) + 2, rfl, RgOk.of_le (by decide) (by omega) (by decide) (by omega), fun lr hlr => ?_⟩
        have nlr := hpen.ne (k0C.free penC hlr)
        have zlr := k0C.free penC hlr
        have sD := same_upd (o := .lst (rgV 0 ((rs.length : Int) + 2))) hlr
        have bD := bC.same sD
        have penD := penC.same sD
        have erg : rgV 0 ((rs.length : Int) + 2) = ((List.range (rs.length + 2)).map fun (i : Nat) => (i : Int)).map V.int := by
          unfold rgV
          rw [show ((rs.length : Int) + 2 - 0).toNat = rs.length + 2 by omega, List.map_map]
          exact List.map_congr_left fun i _ => by show V.int (0 + (i : Int)) = V.int (i : Int); rw [Int.zero_add]
        have elr : upd HC lr (.lst (rgV 0 ((rs.length : Int) + 2))) lr = some (.lst (((List.range (rs.length + 2)).map fun (i : Nat) => (i : Int)).map V.int)) := by rw [upd_same, erg]
        have k0D := k0C.upd (o := .lst (rgV 0 ((rs.length : Int) + 2))) zlr
        generalize upd HC lr (.lst (rgV 0 ((rs.length : Int) + 2))) = HD at bD penD elr k0D ⊢
        refine ⟨d, c, lr, _, _, rfl, penD, by omega, nlr.1, SqL.of elr, by rw [List.length_map, List.length_range]; omega, fun pl π HE hperm hpl epl penE' kE => ?_⟩
        rw [List.length_map, List.length_range] at penE'
        have penE := penE'.mono (show _ ≤ n + 170 by omega)
        obtain ⟨lπ, rπ, ndπ, onπ⟩ := perm_nums hperm
        have rπ' : ∀ x ∈ π, 0 ≤ x ∧ x < (rs.length : Int) + 2 := fun x hx => by have := rπ x hx; omega
        have bE := bD.kept kE nD.1 nL.1 (fun b hb => (nB b hb).1)
        have k0E := k0D.trans kE
        have zpl : H pl = none := k0D.free penD hpl
        have npl := hpen.ne zpl
        have lmb2 : (bs2.map V.ref).length = rs.length + 2 := by rw [List.length_map, lb2]
        have πi : ∀ i < rs.length + 2, π[i]? = some (π.getD i 0) ∧ 0 ≤ π.getD i 0 ∧ π.getD i 0 < (rs.length : Int) + 2 := fun i hi => by
          have e := getD_get (0 : Int) (xs := π) (n := i) (by rw [lπ]; exact hi)
          exact ⟨e, rπ' _ (List.mem_of_getElem? e)⟩
        -- found, told
        refine ⟨_, rfl, D1, rfl, ⟨_, SqL.of bE.hD⟩, fun F1 hF1 => ?_⟩
        refine lc_list (K := K) (a := D1) (xs := bs2.map V.ref) (fun i H' => Same HE H' ∧ ∃ fs : List Addr, fs.length = i ∧ H' F1 = some (.lst (fs.map V.ref)) ∧ RowsAt H' fs (List.replicate i []) ∧ ∀ b ∈ fs, b ≠ F1) ?_ ?_ ?_ ?_
        · exact ⟨same_upd hF1, [], rfl, upd_same, ⟨rfl, fun i a u e => by simp at e⟩, by simp⟩
        · exact fun i H' _ z => SqL.of (z.1 _ _ bE.hD)
        · rintro i y HF hi ⟨sF, fs, hfl, eF, hRf, hnf⟩
          have hil : i < rs.length + 2 := by rw [← lmb2]; exact (List.getElem?_eq_some_iff.mp hi).1
          refine ⟨rfl, Nat.le_of_ble_eq_true rfl, fun q hq => ?_⟩
          have nq : q ≠ F1 := (ne_of_none eF hq).symm
          have sG := same_upd (o := .lst []) hq
          refine ⟨_, sG _ _ eF, by rw [List.length_map, hfl, sizeLine_eq]; omega, fun b o e => by rw [upd_ne (ne_of_none e hF1)]; exact sG _ _ (sF _ _ e), fs ++ [q], by simp [hfl], by rw [upd_same, List.map_append]; rfl, ?_, fun b hb => ?_⟩
          · have e1 := (hRf.same sG).snoc (a := q) (r := []) upd_same
            rw [List.replicate_succ']
            refine ⟨e1.1, fun j a u f1 f2 => ?_⟩
            have : a ≠ F1 := by
              rcases List.mem_append.mp (List.mem_of_getElem? f1) with z | z
              · exact hnf a z
              · rw [List.mem_singleton.mp z]; exact nq
            rw [upd_ne this]
            exact e1.2 j a u f1 f2
          · rcases List.mem_append.mp hb with z | z
            · exact hnf b z
            · rw [List.mem_singleton.mp z]; exact nq
        rintro HF ⟨sF, fs, hfl, eF, hRf, hnf⟩
        rw [lmb2] at hfl hRf
        have zF1 : H F1 = none := k0E.free penE hF1
        obtain ⟨hFb, hFD, hFl⟩ := bE.new hF1
        have npF : pl ≠ F1 := ne_of_none epl hF1
        have bF := bE.same sF
        have penF := penE.same sF
        have k0F := k0E.trans (.same sF)
        have eplF := sF _ _ epl
        refine ⟨_, rfl, D1, rfl, ⟨_, SqL.of bF.hD⟩, fun T1 hT1 => ?_⟩
        refine lc_list (K := K) (a := D1) (te := tC (.str "")) (xs := bs2.map V.ref) (fun i H' => Same HF H' ∧ H' T1 = some (.lst ((List.replicate i ("" : Str)).map V.str))) ?_ ?_ ?_ ?_
        · exact ⟨same_upd hT1, upd_same⟩
        · exact fun i H' _ z => SqL.of (z.1 _ _ bF.hD)
        · rintro i y HG hi ⟨sG, eT⟩
          have hil : i < rs.length + 2 := by rw [← lmb2]; exact (List.getElem?_eq_some_iff.mp hi).1
          refine ⟨rfl, _, eT, by rw [List.length_map, List.length_replicate, sizeLine_eq]; omega, fun b o e => by rw [upd_ne (ne_of_none e hT1)]; exact sG _ _ e, ?_⟩
          rw [upd_same, List.replicate_succ', List.map_append]; rfl
        rintro HG ⟨sG, eT⟩
        rw [lmb2] at eT
        have zT1 : H T1 = none := k0F.free penF hT1
        obtain ⟨hTb, hTD, hTl⟩ := bF.new hT1
        have npT : pl ≠ T1 := ne_of_none eplF hT1
        have bG := bF.same sG
        have penG := penF.same sG
        have k0G := k0F.trans (.same sG)
        have eplG := sG _ _ eplF
        have eFG := sG _ _ eF
        have hRG := hRf.same sG
        have nF1 := hpen.ne zF1
        have nT1 := hpen.ne zT1
        have nFT : F1 ≠ T1 := ne_of_none eF hT1
        refine ⟨_, _, rfl, ?_⟩
        clear bE bF bD penE penF penD k0E k0F k0D sF sG hRf eF eplF sD elr erg bC penC k0C
        -- rows and tells to their places
        have hent : ∀ i < rs.length + 2, ((rs1 ++ [lost]).getD i []).length = ws.length ∧ ∀ k < ws.length, 0 ≤ ((rs1 ++ [lost]).getD i []).getD k 0 ∧ ((rs1 ++ [lost]).getD i []).getD k 0 < (rs.length : Int) + 2 := fun i hi => by
          by_cases z : i < rs.length + 1
          · have e1 : (rs1 ++ [lost]).getD i [] = rs1.getD i [] := by rw [List.getD_eq_getElem?_getD, List.getElem?_append_left (by rw [T8.len]; exact z), ← List.getD_eq_getElem?_getD]
            rw [e1]
            exact ⟨(T8.row i z).1, fun k hk => by have := T8.ent pt htw z hk; omega⟩
          · have e1 : (rs1 ++ [lost]).getD i [] = lost := by rw [List.getD_eq_getElem?_getD, List.getElem?_append_right (by rw [T8.len]; omega), show i - rs1.length = 0 by rw [T8.len]; omega]; rfl
            rw [e1]
            exact ⟨hxl, fun k hk => hxr _ (List.mem_of_getElem? (getD_get (0 : Int) (by rw [hxl]; exact hk)))⟩
        have lss : ((ss ++ [ss.getD twin ""]) ++ [("lost" : Str)]).length = rs.length + 2 := by rw [List.length_append, List.length_append, hsl]; rfl
        refine ⟨_, rfl, _, _, rfl, rfl, (rs.length : Int) + 2, rfl, by omega, by omega, ?_⟩
        rw [show ((rs.length : Int) + 2).toNat = rs.length + 2 by omega]
        refine for_range (lo := 0) (n := rs.length + 2) (fun i σ H' => ∃ (v12 : Option V) (fs : List Addr) (rs2 : List (List Int)) (ss2 : List Str), σ = [some (.ref d), some (.ref p), some (.ref D1), some (.ref lt), some (.int (twin : Int)), some (.int (rs.length : Int)), v6, v7, some (.int (s1 : Int)), some (.ref pl), some (.ref F1), some (.ref T1), v12, none, none] ∧
            PenAt H' d c (n + 170) ∧ Kept d H H' ∧ BentAt H' D1 lt bs2 (rs1 ++ [lost]) ((ss ++ [ss.getD twin ""]) ++ [("lost" : Str)]) ∧ H' pl = some (.lst (π.map V.int)) ∧ H' F1 = some (.lst (fs.map V.ref)) ∧ RowsAt H' fs rs2 ∧ (∀ b ∈ fs, b ≠ F1 ∧ b ≠ T1) ∧ H' T1 = some (.lst (ss2.map V.str)) ∧
            rs2.length = rs.length + 2 ∧ ss2.length = rs.length + 2 ∧ ∀ j < i, rs2.getD (π.getD j 0).toNat [] = ((rs1 ++ [lost]).getD j []).map (fun (e : Int) => π.getD e.toNat 0) ∧ ss2.getD (π.getD j 0).toNat "" = ((ss ++ [ss.getD twin ""]) ++ [("lost" : Str)]).getD j "") ?_ ?_ ?_
        · refine ⟨_, fs, List.replicate (rs.length + 2) [], List.replicate (rs.length + 2) "", by rw [← es1]; rfl, penG, k0G, bG, eplG, eFG, hRG, fun b hb => ⟨hnf b hb, ?_⟩, eT, by simp, by simp, fun j hj => absurd hj (Nat.not_lt_zero _)⟩
          obtain ⟨m, hm, rfl⟩ := List.mem_iff_getElem.mp hb
          intro z
          have h1 := hRG.2 m _ _ (List.getElem?_eq_getElem hm) (by rw [List.getElem?_replicate, if_pos (by omega)])
          rw [z, eT] at h1
          have h2 := congrArg (fun o => match o with | some (HO.lst xs) => xs.length | _ => 0) h1
          simp at h2
        · rintro i σ HH hi ⟨v12, fs, rs2, ss2, rfl, penH, kH, bH, eplH, eFH, hRH, hnH, eTH, l2, l3, hdone⟩
          have hlf : fs.length = rs.length + 2 := by rw [hRH.1, l2]
          obtain ⟨eπ, p0, p1⟩ := πi i hi
          have ebi : bs2[i]? = some bs2[i] := List.getElem?_eq_getElem (by rw [lb2]; exact hi)
          have eri : (rs1 ++ [lost])[i]? = some ((rs1 ++ [lost]).getD i []) := getD_get ([] : List Int) (by rw [← bH.hR.1, lb2]; exact hi)
          obtain ⟨he1, he2⟩ := hent i hi
          have hrow := bH.hR.2 i _ _ ebi eri
          generalize hrw : (rs1 ++ [lost]).getD i [] = row at eri he1 he2 hrow
          refine ⟨_, rfl, _, rfl, D1, _, 0 + (i : Int), .ref bs2[i], rfl, rfl, SqL.of bH.hD, by rw [Int.zero_add]; exact atI_nat (by rw [List.getElem?_map, ebi]; rfl), bs2[i], rfl, ⟨_, SqL.of hrow⟩, fun q hq => ?_⟩
          have zq : H q = none := kH.free penH hq
          have nq := hpen.ne zq
          refine lc_list (K := K) (a := bs2[i]) (xs := row.map V.int) (fun j H' => Same HH H' ∧ H' q = some (.lst (((row.map fun (e : Int) => π.getD e.toNat 0).take j).map V.int))) ?_ ?_ ?_ ?_
          · exact ⟨same_upd hq, upd_same⟩
          · exact fun j H' _ z => SqL.of (z.1 _ _ hrow)
          · rintro j y HI hj ⟨sI, eq⟩
            rw [List.getElem?_map] at hj
            obtain ⟨x, ex, rfl⟩ := Option.map_eq_some_iff.mp hj
            have hjl : j < ws.length := by rw [← he1]; exact (List.getElem?_eq_some_iff.mp ex).1
            have ⟨x0, x1⟩ := he2 j hjl
            have exD : row.getD j 0 = x := by rw [List.getD_eq_getElem?_getD, ex]; rfl
            rw [exD] at x0 x1
            refine ⟨rfl, _, rfl, _, rfl, pl, _, x, .int (π.getD x.toNat 0), rfl, rfl, SqL.of (sI _ _ eplH), at_int x0 (by rw [lπ]; omega), _, eq, ?_, fun b o e => by rw [upd_ne (ne_of_none e hq)]; exact sI _ _ e, ?_⟩
            · rw [List.length_map, List.length_take, List.length_map, he1, sizeLine_eq]; omega
            · have en : (row.map fun (e : Int) => π.getD e.toNat 0)[j]? = some (π.getD x.toNat 0) := by rw [List.getElem?_map, ex]; rfl
              rw [upd_same, List.take_add_one, en, List.map_append]; rfl
          rintro HI ⟨sI, eq⟩
          rw [List.length_map, List.take_of_length_le (by rw [List.length_map]; exact Nat.le_refl _)] at eq
          have eFI := sI _ _ eFH
          have eTI := sI _ _ eTH
          have eplI := sI _ _ eplH
          have bI := bH.same sI
          have hRI := hRH.same sI
          have nqF : q ≠ F1 := fun z => by rw [z] at hq; rw [hq] at eFH; cases eFH
          have nqT : q ≠ T1 := fun z => by rw [z] at hq; rw [hq] at eTH; cases eTH
          have hix : ixN (rs.length + 2) (π.getD i 0) = some (π.getD i 0).toNat := by unfold ixN; rw [if_pos p0, if_pos (by omega)]
          refine ⟨_, rfl, _, rfl, _, rfl, pl, _, 0 + (i : Int), .int (π.getD i 0), rfl, rfl, SqL.of eplI, by rw [Int.zero_add]; exact atI_nat (by rw [List.getElem?_map, eπ]; rfl), F1, _, _, (π.getD i 0).toNat, rfl, rfl, eFI, by rw [List.length_map, hlf]; exact hix, ?_⟩
          rw [← List.map_set (f := V.ref)]
          have penJ := (penH.same sI).upd (o := .lst ((fs.set (π.getD i 0).toNat q).map V.ref)) nF1.1 nF1.2
          have kJ := (kH.trans (.same sI)).upd (o := .lst ((fs.set (π.getD i 0).toNat q).map V.ref)) zF1
          have bJ := bI.upd (o := .lst ((fs.set (π.getD i 0).toNat q).map V.ref)) (q := F1) hFD.symm hFl.symm (fun b hb z => hFb (z ▸ hb))
          have eFJ : upd HI F1 (.lst ((fs.set (π.getD i 0).toNat q).map V.ref)) F1 = some (.lst ((fs.set (π.getD i 0).toNat q).map V.ref)) := upd_same
          have eTJ : upd HI F1 (.lst ((fs.set (π.getD i 0).toNat q).map V.ref)) T1 = some (.lst (ss2.map V.str)) := by rw [upd_ne nFT.symm]; exact eTI
          have eplJ : upd HI F1 (.lst ((fs.set (π.getD i 0).toNat q).map V.ref)) pl = some (.lst (π.map V.int)) := by rw [upd_ne npF]; exact eplI
          have hRJ : RowsAt (upd HI F1 (.lst ((fs.set (π.getD i 0).toNat q).map V.ref))) (fs.set (π.getD i 0).toNat q) (rs2.set (π.getD i 0).toNat (row.map fun (e : Int) => π.getD e.toNat 0)) := by
            have h1 := hRI.set eq (π.getD i 0).toNat
            refine ⟨h1.1, fun j a u f1 f2 => ?_⟩
            have : a ≠ F1 := by
              rcases mem_set (List.mem_of_getElem? f1) with rfl | z
              · exact nqF
              · exact (hnH a z).1
            rw [upd_ne this]
            exact h1.2 j a u f1 f2
          generalize upd HI F1 (.lst ((fs.set (π.getD i 0).toNat q).map V.ref)) = HJ at penJ kJ bJ eFJ eTJ eplJ hRJ ⊢
          refine ⟨_, rfl, _, rfl, lt, _, 0 + (i : Int), _, rfl, rfl, SqL.of bJ.hl, at_deed (by omega) (by rw [lss]; omega), _, rfl, _, rfl, _, rfl, pl, _, 0 + (i : Int), .int (π.getD i 0), rfl, rfl, SqL.of eplJ, by rw [Int.zero_add]; exact atI_nat (by rw [List.getElem?_map, eπ]; rfl), T1, _, _, (π.getD i 0).toNat, rfl, rfl, eTJ, by rw [List.length_map, l3]; exact hix, ?_⟩
          rw [Int.zero_add, Int.toNat_natCast, ← List.map_set (f := V.str)]
          have bK := bJ.upd (o := .lst ((ss2.set (π.getD i 0).toNat (((ss ++ [ss.getD twin ""]) ++ [("lost" : Str)]).getD i "")).map V.str)) (q := T1) hTD.symm hTl.symm (fun b hb z => hTb (z ▸ hb))
          refine ⟨_, fs.set (π.getD i 0).toNat q, rs2.set (π.getD i 0).toNat (row.map fun (e : Int) => π.getD e.toNat 0), ss2.set (π.getD i 0).toNat (((ss ++ [ss.getD twin ""]) ++ [("lost" : Str)]).getD i ""), rfl, penJ.upd nT1.1 nT1.2, kJ.upd zT1, bK, by rw [upd_ne npT]; exact eplJ, by rw [upd_ne nFT]; exact eFJ, ?_, fun b hb => ?_, upd_same, by rw [List.length_set]; exact l2, by rw [List.length_set]; exact l3, fun j hj => ?_⟩
          · refine ⟨hRJ.1, fun j a u f1 f2 => ?_⟩
            have : a ≠ T1 := by
              rcases mem_set (List.mem_of_getElem? f1) with rfl | z
              · exact nqT
              · exact (hnH a z).2
            rw [upd_ne this]
            exact hRJ.2 j a u f1 f2
          · rcases mem_set hb with rfl | z
            · exact ⟨nqF, nqT⟩
            · exact hnH b z
          · rw [getD_set _ _ _ _ _ (by rw [l2]; omega), getD_set _ _ _ _ _ (by rw [l3]; omega)]
            by_cases z : j = i
            · subst z
              rw [if_pos rfl, if_pos rfl, hrw]
              exact ⟨rfl, rfl⟩
            · have hjn : j < rs.length + 2 := by omega
              obtain ⟨eπj, q0, q1⟩ := πi j hjn
              have hne : ¬ (π.getD i 0).toNat = (π.getD j 0).toNat := fun e => z (by
                have e2 : π.getD i 0 = π.getD j 0 := by omega
                have h1 := (List.getElem?_eq_some_iff.mp eπ).2
                have h2 := (List.getElem?_eq_some_iff.mp eπj).2
                exact ((List.getElem_inj ndπ).mp ((h1.trans e2).trans h2.symm)).symm)
              rw [if_neg hne, if_neg hne]
              exact hdone j (by omega)
        · rintro σ HH ⟨v12, fs, rs2, ss2, rfl, penH, kH, bH, eplH, eFH, hRH, hnH, eTH, l2, l3, hdone⟩
          intro q hq
          have zq : H q = none := kH.free penH hq
          have ep4 := kH _ _ ep npd
          have npq : p ≠ q := ne_of_none ep4 hq
          have e5 : upd HH q (.dK []) p = some (.dK (plainK t r l st)) := by rw [upd_ne npq]; exact ep4
          have epl5 : upd HH q (.dK []) pl = some (.lst (π.map V.int)) := by rw [upd_ne (ne_of_none eplH hq)]; exact eplH
          obtain ⟨eπ, p0, p1⟩ := πi s1 (by omega)
          refine ⟨_, rfl, p, _, rfl, gDeeds e5, _, rfl, _, rfl, _, rfl, _, rfl, pl, _, (s1 : Int), .int (π.getD s1 0), rfl, rfl, SqL.of epl5, atI_nat (by rw [List.getElem?_map, eπ]; rfl), upd_same, plainK t F1 T1 (π.getD s1 0), rfl, by show 4 ≤ 15; decide, ?_⟩
          rw [plainK_merge]
          have nFq : F1 ≠ q := ne_of_none eFH hq
          have nTq : T1 ≠ q := ne_of_none eTH hq
          have et4 := kH.seqF ed noF et
          have ntq : t ≠ q := by
            obtain ⟨o, ho, _⟩ := et4
            exact ne_of_none ho hq
          obtain ⟨nqd, nqc⟩ := hpen.ne zq
          have tl := other_tells pt htw T8 lπ rπ' hdone hs1 hst
          have hsT : ∀ j < rs.length + 2, Tl (((ss ++ [ss.getD twin ""]) ++ [("lost" : Str)]).getD j "") := fun j hj => by
            have hm := List.mem_of_getElem? (getD_get ("" : Str) (xs := (ss ++ [ss.getD twin ""]) ++ [("lost" : Str)]) (n := j) (by rw [lss]; exact hj))
            generalize ((ss ++ [ss.getD twin ""]) ++ [("lost" : Str)]).getD j "" = z at hm
            rcases List.mem_append.mp hm with h | h
            · rcases List.mem_append.mp h with h | h
              · exact pt.tl.2 z h
              · rw [List.mem_singleton.mp h]
                exact pt.tl.2 _ (List.mem_of_getElem? (getD_get ("" : Str) (by omega)))
            · rw [List.mem_singleton.mp h]; exact lost_tl
          refine k q rs2 ss2 (π.getD s1 0) _ zq ⟨t, F1, T1, fs, upd_same, (et4.upd ntq).upd ntq, ?_, ?_, ?_⟩ ⟨pt.gd, by rw [l2]; omega, fun u hu' => ?_, ⟨by rw [l2, l3], fun z hz => ?_⟩, by rw [l2]; omega⟩ ?_ tl ((penH.upd nqd nqc).upd nqd nqc |>.mono (by omega)) ((kH.upd zq).upd zq)
          · rw [upd_ne nFq, upd_ne nFq]; exact eFH
          · rw [upd_ne nTq, upd_ne nTq]; exact eTH
          · refine ⟨hRH.1, fun i a u e1 e2 => ?_⟩
            have h1 := hRH.2 i a u e1 e2
            rw [upd_ne (ne_of_none h1 hq), upd_ne (ne_of_none h1 hq)]
            exact h1
          · obtain ⟨m, hm⟩ := List.getElem?_of_mem hu'
            have hml : m < rs.length + 2 := by rw [← l2]; exact (List.getElem?_eq_some_iff.mp hm).1
            obtain ⟨j, hj, ej⟩ := onπ m hml
            have h1 := (hdone j hj).1
            rw [ej, List.getD_eq_getElem?_getD, hm] at h1
            have h2 : u = ((rs1 ++ [lost]).getD j []).map (fun (e : Int) => π.getD e.toNat 0) := h1
            obtain ⟨he1, he2⟩ := hent j hj
            rw [h2]
            refine ⟨by rw [List.length_map]; exact he1, fun x hx => ?_⟩
            obtain ⟨e, he, rfl⟩ := List.mem_map.mp hx
            obtain ⟨q, hqq⟩ := List.getElem?_of_mem he
            have hql : q < ws.length := by rw [← he1]; exact (List.getElem?_eq_some_iff.mp hqq).1
            have h3 := he2 q hql
            rw [List.getD_eq_getElem?_getD, hqq] at h3
            have h4 : 0 ≤ e ∧ e < (rs.length : Int) + 2 := h3
            have h5 := πi e.toNat (by omega)
            rw [l2]
            omega
          · obtain ⟨m, hm⟩ := List.getElem?_of_mem hz
            have hml : m < rs.length + 2 := by rw [← l3]; exact (List.getElem?_eq_some_iff.mp hm).1
            obtain ⟨j, hj, ej⟩ := onπ m hml
            have h1 := (hdone j hj).2
            rw [ej, List.getD_eq_getElem?_getD, hm] at h1
            have h2 : z = ((ss ++ [ss.getD twin ""]) ++ [("lost" : Str)]).getD j "" := h1
            rw [h2]
            exact hsT j hj
          · obtain ⟨eπl, l0, l1⟩ := πi (rs.length + 1) (by omega)
            have h1 := (hdone (rs.length + 1) (by omega)).2
            have h2 : ((ss ++ [ss.getD twin ""]) ++ [("lost" : Str)]).getD (rs.length + 1) "" = "lost" := by
              rw [List.getD_eq_getElem?_getD, List.getElem?_append_right (by rw [List.length_append, hsl]; exact Nat.le_refl _), List.length_append, hsl]
              simp
            rw [h2] at h1
            rw [← h1]
            exact List.mem_of_getElem? (getD_get ("" : Str) (by rw [l3]; omega))
      · refine ⟨_, rfl, p, _, rfl, gStart (k0C _ _ ep npd), ?_⟩
        obtain ⟨s1, es1, hs1, hst⟩ : ∃ s1 : Nat, st = (s1 : Int) ∧ s1 < rs.length + 1 ∧ (if s1 = rs.length then twin else s1) = st.toNat := ⟨st.toNat, by omega, by omega, by rw [if_neg (by omega)]⟩
        -- the places
        refine ⟨_, rfl, _, rfl, _, _, rfl, rfl, (rs.length : Int) + 2, rfl, RgOk.of_le (by decide) (by omega) (by decide) (by omega), fun lr hlr => ?_⟩
        have nlr := hpen.ne (k0C.free penC hlr)
        have zlr := k0C.free penC hlr
        have sD := same_upd (o := .lst (rgV 0 ((rs.length : Int) + 2))) hlr
        have bD := bC.same sD
        have penD := penC.same sD
        have erg : rgV 0 ((rs.length : Int) + 2) = ((List.range (rs.length + 2)).map fun (i : Nat) => (i : Int)).map V.int := by
          unfold rgV
          rw [show ((rs.length : Int) + 2 - 0).toNat = rs.length + 2 by omega, List.map_map]
          exact List.map_congr_left fun i _ => by show V.int (0 + (i : Int)) = V.int (i : Int); rw [Int.zero_add]
        have elr : upd HC lr (.lst (rgV 0 ((rs.length : Int) + 2))) lr = some (.lst (((List.range (rs.length + 2)).map fun (i : Nat) => (i : Int)).map V.int)) := by rw [upd_same, erg]
        have k0D := k0C.upd (o := .lst (rgV 0 ((rs.length : Int) + 2))) zlr
        generalize upd HC lr (.lst (rgV 0 ((rs.length : Int) + 2))) = HD at bD penD elr k0D ⊢
        refine ⟨d, c, lr, _, _, rfl, penD, by omega, nlr.1, SqL.of elr, by rw [List.length_map, List.length_range]; omega, fun pl π HE hperm hpl epl penE' kE => ?_⟩
        rw [List.length_map, List.length_range] at penE'
        have penE := penE'.mono (show _ ≤ n + 170 by omega)
        obtain ⟨lπ, rπ, ndπ, onπ⟩ := perm_nums hperm
        have rπ' : ∀ x ∈ π, 0 ≤ x ∧ x < (rs.length : Int) + 2 := fun x hx => by have := rπ x hx; omega
        have bE := bD.kept kE nD.1 nL.1 (fun b hb => (nB b hb).1)
        have k0E := k0D.trans kE
        have zpl : H pl = none := k0D.free penD hpl
        have npl := hpen.ne zpl
        have lmb2 : (bs2.map V.ref).length = rs.length + 2 := by rw [List.length_map, lb2]
        have πi : ∀ i < rs.length + 2, π[i]? = some (π.getD i 0) ∧ 0 ≤ π.getD i 0 ∧ π.getD i 0 < (rs.length : Int) + 2 := fun i hi => by
          have e := getD_get (0 : Int) (xs := π) (n := i) (by rw [lπ]; exact hi)
          exact ⟨e, rπ' _ (List.mem_of_getElem? e)⟩
        -- found, told
        refine ⟨_, rfl, D1, rfl, ⟨_, SqL.of bE.hD⟩, fun F1 hF1 => ?_⟩
        refine lc_list (K := K) (a := D1) (xs := bs2.map V.ref) (fun i H' => Same HE H' ∧ ∃ fs : List Addr, fs.length = i ∧ H' F1 = some (.lst (fs.map V.ref)) ∧ RowsAt H' fs (List.replicate i []) ∧ ∀ b ∈ fs, b ≠ F1) ?_ ?_ ?_ ?_
        · exact ⟨same_upd hF1, [], rfl, upd_same, ⟨rfl, fun i a u e => by simp at e⟩, by simp⟩
        · exact fun i H' _ z => SqL.of (z.1 _ _ bE.hD)
        · rintro i y HF hi ⟨sF, fs, hfl, eF, hRf, hnf⟩
          have hil : i < rs.length + 2 := by rw [← lmb2]; exact (List.getElem?_eq_some_iff.mp hi).1
          refine ⟨rfl, Nat.le_of_ble_eq_true rfl, fun q hq => ?_⟩
          have nq : q ≠ F1 := (ne_of_none eF hq).symm
          have sG := same_upd (o := .lst []) hq
          refine ⟨_, sG _ _ eF, by rw [List.length_map, hfl, sizeLine_eq]; omega, fun b o e => by rw [upd_ne (ne_of_none e hF1)]; exact sG _ _ (sF _ _ e), fs ++ [q], by simp [hfl], by rw [upd_same, List.map_append]; rfl, ?_, fun b hb => ?_⟩
          · have e1 := (hRf.same sG).snoc (a := q) (r := []) upd_same
            rw [List.replicate_succ']
            refine ⟨e1.1, fun j a u f1 f2 => ?_⟩
            have : a ≠ F1 := by
              rcases List.mem_append.mp (List.mem_of_getElem? f1) with z | z
              · exact hnf a z
              · rw [List.mem_singleton.mp z]; exact nq
            rw [upd_ne this]
            exact e1.2 j a u f1 f2
          · rcases List.mem_append.mp hb with z | z
            · exact hnf b z
            · rw [List.mem_singleton.mp z]; exact nq
        rintro HF ⟨sF, fs, hfl, eF, hRf, hnf⟩
        rw [lmb2] at hfl hRf
        have zF1 : H F1 = none := k0E.free penE hF1
        obtain ⟨hFb, hFD, hFl⟩ := bE.new hF1
        have npF : pl ≠ F1 := ne_of_none epl hF1
        have bF := bE.same sF
        have penF := penE.same sF
        have k0F := k0E.trans (.same sF)
        have eplF := sF _ _ epl
        refine ⟨_, rfl, D1, rfl, ⟨_, SqL.of bF.hD⟩, fun T1 hT1 => ?_⟩
        refine lc_list (K := K) (a := D1) (te := tC (.str "")) (xs := bs2.map V.ref) (fun i H' => Same HF H' ∧ H' T1 = some (.lst ((List.replicate i ("" : Str)).map V.str))) ?_ ?_ ?_ ?_
        · exact ⟨same_upd hT1, upd_same⟩
        · exact fun i H' _ z => SqL.of (z.1 _ _ bF.hD)
        · rintro i y HG hi ⟨sG, eT⟩
          have hil : i < rs.length + 2 := by rw [← lmb2]; exact (List.getElem?_eq_some_iff.mp hi).1
          refine ⟨rfl, _, eT, by rw [List.length_map, List.length_replicate, sizeLine_eq]; omega, fun b o e => by rw [upd_ne (ne_of_none e hT1)]; exact sG _ _ e, ?_⟩
          rw [upd_same, List.replicate_succ', List.map_append]; rfl
        rintro HG ⟨sG, eT⟩
        rw [lmb2] at eT
        have zT1 : H T1 = none := k0F.free penF hT1
        obtain ⟨hTb, hTD, hTl⟩ := bF.new hT1
        have npT : pl ≠ T1 := ne_of_none eplF hT1
        have bG := bF.same sG
        have penG := penF.same sG
        have k0G := k0F.trans (.same sG)
        have eplG := sG _ _ eplF
        have eFG := sG _ _ eF
        have hRG := hRf.same sG
        have nF1 := hpen.ne zF1
        have nT1 := hpen.ne zT1
        have nFT : F1 ≠ T1 := ne_of_none eF hT1
        refine ⟨_, _, rfl, ?_⟩
        clear bE bF bD penE penF penD k0E k0F k0D sF sG hRf eF eplF sD elr erg bC penC k0C
        -- rows and tells to their places
        have hent : ∀ i < rs.length + 2, ((rs1 ++ [lost]).getD i []).length = ws.length ∧ ∀ k < ws.length, 0 ≤ ((rs1 ++ [lost]).getD i []).getD k 0 ∧ ((rs1 ++ [lost]).getD i []).getD k 0 < (rs.length : Int) + 2 := fun i hi => by
          by_cases z : i < rs.length + 1
          · have e1 : (rs1 ++ [lost]).getD i [] = rs1.getD i [] := by rw [List.getD_eq_getElem?_getD, List.getElem?_append_left (by rw [T8.len]; exact z), ← List.getD_eq_getElem?_getD]
            rw [e1]
            exact ⟨(T8.row i z).1, fun k hk => by have := T8.ent pt htw z hk; omega⟩
          · have e1 : (rs1 ++ [lost]).getD i [] = lost := by rw [List.getD_eq_getElem?_getD, List.getElem?_append_right (by rw [T8.len]; omega), show i - rs1.length = 0 by rw [T8.len]; omega]; rfl
            rw [e1]
            exact ⟨hxl, fun k hk => hxr _ (List.mem_of_getElem? (getD_get (0 : Int) (by rw [hxl]; exact hk)))⟩
        have lss : ((ss ++ [ss.getD twin ""]) ++ [("lost" : Str)]).length = rs.length + 2 := by rw [List.length_append, List.length_append, hsl]; rfl
        refine ⟨_, rfl, _, _, rfl, rfl, (rs.length : Int) + 2, rfl, by omega, by omega, ?_⟩
        rw [show ((rs.length : Int) + 2).toNat = rs.length + 2 by omega]
        refine for_range (lo := 0) (n := rs.length + 2) (fun i σ H' => ∃ (v12 : Option V) (fs : List Addr) (rs2 : List (List Int)) (ss2 : List Str), σ = [some (.ref d), some (.ref p), some (.ref D1), some (.ref lt), some (.int (twin : Int)), some (.int (rs.length : Int)), v6, v7, some (.int (s1 : Int)), some (.ref pl), some (.ref F1), some (.ref T1), v12, none, none] ∧
            PenAt H' d c (n + 170) ∧ Kept d H H' ∧ BentAt H' D1 lt bs2 (rs1 ++ [lost]) ((ss ++ [ss.getD twin ""]) ++ [("lost" : Str)]) ∧ H' pl = some (.lst (π.map V.int)) ∧ H' F1 = some (.lst (fs.map V.ref)) ∧ RowsAt H' fs rs2 ∧ (∀ b ∈ fs, b ≠ F1 ∧ b ≠ T1) ∧ H' T1 = some (.lst (ss2.map V.str)) ∧
            rs2.length = rs.length + 2 ∧ ss2.length = rs.length + 2 ∧ ∀ j < i, rs2.getD (π.getD j 0).toNat [] = ((rs1 ++ [lost]).getD j []).map (fun (e : Int) => π.getD e.toNat 0) ∧ ss2.getD (π.getD j 0).toNat "" = ((ss ++ [ss.getD twin ""]) ++ [("lost" : Str)]).getD j "") ?_ ?_ ?_
        · refine ⟨_, fs, List.replicate (rs.length + 2) [], List.replicate (rs.length + 2) "", by rw [← es1]; rfl, penG, k0G, bG, eplG, eFG, hRG, fun b hb => ⟨hnf b hb, ?_⟩, eT, by simp, by simp, fun j hj => absurd hj (Nat.not_lt_zero _)⟩
          obtain ⟨m, hm, rfl⟩ := List.mem_iff_getElem.mp hb
          intro z
          have h1 := hRG.2 m _ _ (List.getElem?_eq_getElem hm) (by rw [List.getElem?_replicate, if_pos (by omega)])
          rw [z, eT] at h1
          have h2 := congrArg (fun o => match o with | some (HO.lst xs) => xs.length | _ => 0) h1
          simp at h2
        · rintro i σ HH hi ⟨v12, fs, rs2, ss2, rfl, penH, kH, bH, eplH, eFH, hRH, hnH, eTH, l2, l3, hdone⟩
          have hlf : fs.length = rs.length + 2 := by rw [hRH.1, l2]
          obtain ⟨eπ, p0, p1⟩ := πi i hi
          have ebi : bs2[i]? = some bs2[i] := List.getElem?_eq_getElem (by rw [lb2]; exact hi)
          have eri : (rs1 ++ [lost])[i]? = some ((rs1 ++ [lost]).getD i []) := getD_get ([] : List Int) (by rw [← bH.hR.1, lb2]; exact hi)
          obtain ⟨he1, he2⟩ := hent i hi
          have hrow := bH.hR.2 i _ _ ebi eri
          generalize hrw : (rs1 ++ [lost]).getD i [] = row at eri he1 he2 hrow
          refine ⟨_, rfl, _, rfl, D1, _, 0 + (i : Int), .ref bs2[i], rfl, rfl, SqL.of bH.hD, by rw [Int.zero_add]; exact atI_nat (by rw [List.getElem?_map, ebi]; rfl), bs2[i], rfl, ⟨_, SqL.of hrow⟩, fun q hq => ?_⟩
          have zq : H q = none := kH.free penH hq
          have nq := hpen.ne zq
          refine lc_list (K := K) (a := bs2[i]) (xs := row.map V.int) (fun j H' => Same HH H' ∧ H' q = some (.lst (((row.map fun (e : Int) => π.getD e.toNat 0).take j).map V.int))) ?_ ?_ ?_ ?_
          · exact ⟨same_upd hq, upd_same⟩
          · exact fun j H' _ z => SqL.of (z.1 _ _ hrow)
          · rintro j y HI hj ⟨sI, eq⟩
            rw [List.getElem?_map] at hj
            obtain ⟨x, ex, rfl⟩ := Option.map_eq_some_iff.mp hj
            have hjl : j < ws.length := by rw [← he1]; exact (List.getElem?_eq_some_iff.mp ex).1
            have ⟨x0, x1⟩ := he2 j hjl
            have exD : row.getD j 0 = x := by rw [List.getD_eq_getElem?_getD, ex]; rfl
            rw [exD] at x0 x1
            refine ⟨rfl, _, rfl, _, rfl, pl, _, x, .int (π.getD x.toNat 0), rfl, rfl, SqL.of (sI _ _ eplH), at_int x0 (by rw [lπ]; omega), _, eq, ?_, fun b o e => by rw [upd_ne (ne_of_none e hq)]; exact sI _ _ e, ?_⟩
            · rw [List.length_map, List.length_take, List.length_map, he1, sizeLine_eq]; omega
            · have en : (row.map fun (e : Int) => π.getD e.toNat 0)[j]? = some (π.getD x.toNat 0) := by rw [List.getElem?_map, ex]; rfl
              rw [upd_same, List.take_add_one, en, List.map_append]; rfl
          rintro HI ⟨sI, eq⟩
          rw [List.length_map, List.take_of_length_le (by rw [List.length_map]; exact Nat.le_refl _)] at eq
          have eFI := sI _ _ eFH
          have eTI := sI _ _ eTH
          have eplI := sI _ _ eplH
          have bI := bH.same sI
          have hRI := hRH.same sI
          have nqF : q ≠ F1 := fun z => by rw [z] at hq; rw [hq] at eFH; cases eFH
          have nqT : q ≠ T1 := fun z => by rw [z] at hq; rw [hq] at eTH; cases eTH
          have hix : ixN (rs.length + 2) (π.getD i 0) = some (π.getD i 0).toNat := by unfold ixN; rw [if_pos p0, if_pos (by omega)]
          refine ⟨_, rfl, _, rfl, _, rfl, pl, _, 0 + (i : Int), .int (π.getD i 0), rfl, rfl, SqL.of eplI, by rw [Int.zero_add]; exact atI_nat (by rw [List.getElem?_map, eπ]; rfl), F1, _, _, (π.getD i 0).toNat, rfl, rfl, eFI, by rw [List.length_map, hlf]; exact hix, ?_⟩
          rw [← List.map_set (f := V.ref)]
          have penJ := (penH.same sI).upd (o := .lst ((fs.set (π.getD i 0).toNat q).map V.ref)) nF1.1 nF1.2
          have kJ := (kH.trans (.same sI)).upd (o := .lst ((fs.set (π.getD i 0).toNat q).map V.ref)) zF1
          have bJ := bI.upd (o := .lst ((fs.set (π.getD i 0).toNat q).map V.ref)) (q := F1) hFD.symm hFl.symm (fun b hb z => hFb (z ▸ hb))
          have eFJ : upd HI F1 (.lst ((fs.set (π.getD i 0).toNat q).map V.ref)) F1 = some (.lst ((fs.set (π.getD i 0).toNat q).map V.ref)) := upd_same
          have eTJ : upd HI F1 (.lst ((fs.set (π.getD i 0).toNat q).map V.ref)) T1 = some (.lst (ss2.map V.str)) := by rw [upd_ne nFT.symm]; exact eTI
          have eplJ : upd HI F1 (.lst ((fs.set (π.getD i 0).toNat q).map V.ref)) pl = some (.lst (π.map V.int)) := by rw [upd_ne npF]; exact eplI
          have hRJ : RowsAt (upd HI F1 (.lst ((fs.set (π.getD i 0).toNat q).map V.ref))) (fs.set (π.getD i 0).toNat q) (rs2.set (π.getD i 0).toNat (row.map fun (e : Int) => π.getD e.toNat 0)) := by
            have h1 := hRI.set eq (π.getD i 0).toNat
            refine ⟨h1.1, fun j a u f1 f2 => ?_⟩
            have : a ≠ F1 := by
              rcases mem_set (List.mem_of_getElem? f1) with rfl | z
              · exact nqF
              · exact (hnH a z).1
            rw [upd_ne this]
            exact h1.2 j a u f1 f2
          generalize upd HI F1 (.lst ((fs.set (π.getD i 0).toNat q).map V.ref)) = HJ at penJ kJ bJ eFJ eTJ eplJ hRJ ⊢
          refine ⟨_, rfl, _, rfl, lt, _, 0 + (i : Int), _, rfl, rfl, SqL.of bJ.hl, at_deed (by omega) (by rw [lss]; omega), _, rfl, _, rfl, _, rfl, pl, _, 0 + (i : Int), .int (π.getD i 0), rfl, rfl, SqL.of eplJ, by rw [Int.zero_add]; exact atI_nat (by rw [List.getElem?_map, eπ]; rfl), T1, _, _, (π.getD i 0).toNat, rfl, rfl, eTJ, by rw [List.length_map, l3]; exact hix, ?_⟩
          rw [Int.zero_add, Int.toNat_natCast, ← List.map_set (f := V.str)]
          have bK := bJ.upd (o := .lst ((ss2.set (π.getD i 0).toNat (((ss ++ [ss.getD twin ""]) ++ [("lost" : Str)]).getD i "")).map V.str)) (q := T1) hTD.symm hTl.symm (fun b hb z => hTb (z ▸ hb))
          refine ⟨_, fs.set (π.getD i 0).toNat q, rs2.set (π.getD i 0).toNat (row.map fun (e : Int) => π.getD e.toNat 0), ss2.set (π.getD i 0).toNat (((ss ++ [ss.getD twin ""]) ++ [("lost" : Str)]).getD i ""), rfl, penJ.upd nT1.1 nT1.2, kJ.upd zT1, bK, by rw [upd_ne npT]; exact eplJ, by rw [upd_ne nFT]; exact eFJ, ?_, fun b hb => ?_, upd_same, by rw [List.length_set]; exact l2, by rw [List.length_set]; exact l3, fun j hj => ?_⟩
          · refine ⟨hRJ.1, fun j a u f1 f2 => ?_⟩
            have : a ≠ T1 := by
              rcases mem_set (List.mem_of_getElem? f1) with rfl | z
              · exact nqT
              · exact (hnH a z).2
            rw [upd_ne this]
            exact hRJ.2 j a u f1 f2
          · rcases mem_set hb with rfl | z
            · exact ⟨nqF, nqT⟩
            · exact hnH b z
          · rw [getD_set _ _ _ _ _ (by rw [l2]; omega), getD_set _ _ _ _ _ (by rw [l3]; omega)]
            by_cases z : j = i
            · subst z
              rw [if_pos rfl, if_pos rfl, hrw]
              exact ⟨rfl, rfl⟩
            · have hjn : j < rs.length + 2 := by omega
              obtain ⟨eπj, q0, q1⟩ := πi j hjn
              have hne : ¬ (π.getD i 0).toNat = (π.getD j 0).toNat := fun e => z (by
                have e2 : π.getD i 0 = π.getD j 0 := by omega
                have h1 := (List.getElem?_eq_some_iff.mp eπ).2
                have h2 := (List.getElem?_eq_some_iff.mp eπj).2
                exact ((List.getElem_inj ndπ).mp ((h1.trans e2).trans h2.symm)).symm)
              rw [if_neg hne, if_neg hne]
              exact hdone j (by omega)
        · rintro σ HH ⟨v12, fs, rs2, ss2, rfl, penH, kH, bH, eplH, eFH, hRH, hnH, eTH, l2, l3, hdone⟩
          intro q hq
          have zq : H q = none := kH.free penH hq
          have ep4 := kH _ _ ep npd
          have npq : p ≠ q := ne_of_none ep4 hq
          have e5 : upd HH q (.dK []) p = some (.dK (plainK t r l st)) := by rw [upd_ne npq]; exact ep4
          have epl5 : upd HH q (.dK []) pl = some (.lst (π.map V.int)) := by rw [upd_ne (ne_of_none eplH hq)]; exact eplH
          obtain ⟨eπ, p0, p1⟩ := πi s1 (by omega)
          refine ⟨_, rfl, p, _, rfl, gDeeds e5, _, rfl, _, rfl, _, rfl, _, rfl, pl, _, (s1 : Int), .int (π.getD s1 0), rfl, rfl, SqL.of epl5, atI_nat (by rw [List.getElem?_map, eπ]; rfl), upd_same, plainK t F1 T1 (π.getD s1 0), rfl, by show 4 ≤ 15; decide, ?_⟩
          rw [plainK_merge]
          have nFq : F1 ≠ q := ne_of_none eFH hq
          have nTq : T1 ≠ q := ne_of_none eTH hq
          have et4 := kH.seqF ed noF et
          have ntq : t ≠ q := by
            obtain ⟨o, ho, _⟩ := et4
            exact ne_of_none ho hq
          obtain ⟨nqd, nqc⟩ := hpen.ne zq
          have tl := other_tells pt htw T8 lπ rπ' hdone hs1 hst
          have hsT : ∀ j < rs.length + 2, Tl (((ss ++ [ss.getD twin ""]) ++ [("lost" : Str)]).getD j "") := fun j hj => by
            have hm := List.mem_of_getElem? (getD_get ("" : Str) (xs := (ss ++ [ss.getD twin ""]) ++ [("lost" : Str)]) (n := j) (by rw [lss]; exact hj))
            generalize ((ss ++ [ss.getD twin ""]) ++ [("lost" : Str)]).getD j "" = z at hm
            rcases List.mem_append.mp hm with h | h
            · rcases List.mem_append.mp h with h | h
              · exact pt.tl.2 z h
              · rw [List.mem_singleton.mp h]
                exact pt.tl.2 _ (List.mem_of_getElem? (getD_get ("" : Str) (by omega)))
            · rw [List.mem_singleton.mp h]; exact lost_tl
          refine k q rs2 ss2 (π.getD s1 0) _ zq ⟨t, F1, T1, fs, upd_same, (et4.upd ntq).upd ntq, ?_, ?_, ?_⟩ ⟨pt.gd, by rw [l2]; omega, fun u hu' => ?_, ⟨by rw [l2, l3], fun z hz => ?_⟩, by rw [l2]; omega⟩ ?_ tl ((penH.upd nqd nqc).upd nqd nqc |>.mono (by omega)) ((kH.upd zq).upd zq)
          · rw [upd_ne nFq, upd_ne nFq]; exact eFH
          · rw [upd_ne nTq, upd_ne nTq]; exact eTH
          · refine ⟨hRH.1, fun i a u e1 e2 => ?_⟩
            have h1 := hRH.2 i a u e1 e2
            rw [upd_ne (ne_of_none h1 hq), upd_ne (ne_of_none h1 hq)]
            exact h1
          · obtain ⟨m, hm⟩ := List.getElem?_of_mem hu'
            have hml : m < rs.length + 2 := by rw [← l2]; exact (List.getElem?_eq_some_iff.mp hm).1
            obtain ⟨j, hj, ej⟩ := onπ m hml
            have h1 := (hdone j hj).1
            rw [ej, List.getD_eq_getElem?_getD, hm] at h1
            have h2 : u = ((rs1 ++ [lost]).getD j []).map (fun (e : Int) => π.getD e.toNat 0) := h1
            obtain ⟨he1, he2⟩ := hent j hj
            rw [h2]
            refine ⟨by rw [List.length_map]; exact he1, fun x hx => ?_⟩
            obtain ⟨e, he, rfl⟩ := List.mem_map.mp hx
            obtain ⟨q, hqq⟩ := List.getElem?_of_mem he
            have hql : q < ws.length := by rw [← he1]; exact (List.getElem?_eq_some_iff.mp hqq).1
            have h3 := he2 q hql
            rw [List.getD_eq_getElem?_getD, hqq] at h3
            have h4 : 0 ≤ e ∧ e < (rs.length : Int) + 2 := h3
            have h5 := πi e.toNat (by omega)
            rw [l2]
            omega
          · obtain ⟨m, hm⟩ := List.getElem?_of_mem hz
            have hml : m < rs.length + 2 := by rw [← l3]; exact (List.getElem?_eq_some_iff.mp hm).1
            obtain ⟨j, hj, ej⟩ := onπ m hml
            have h1 := (hdone j hj).2
            rw [ej, List.getD_eq_getElem?_getD, hm] at h1
            have h2 : z = ((ss ++ [ss.getD twin ""]) ++ [("lost" : Str)]).getD j "" := h1
            rw [h2]
            exact hsT j hj
          · obtain ⟨eπl, l0, l1⟩ := πi (rs.length + 1) (by omega)
            have h1 := (hdone (rs.length + 1) (by omega)).2
            have h2 : ((ss ++ [ss.getD twin ""]) ++ [("lost" : Str)]).getD (rs.length + 1) "" = "lost" := by
              rw [List.getD_eq_getElem?_getD, List.getElem?_append_right (by rw [List.length_append, hsl]; exact Nat.le_refl _), List.length_append, hsl]
              simp
            rw [h2] at h1
            rw [← h1]
            exact List.mem_of_getElem? (getD_get ("" : Str) (by rw [l3]; omega))
    · refine ⟨_, rfl, p, _, rfl, gStart epB, ?_⟩
      obtain ⟨s1, es1, hs1, hst⟩ : ∃ s1 : Nat, st = (s1 : Int) ∧ s1 < rs.length + 1 ∧ (if s1 = rs.length then twin else s1) = st.toNat := ⟨st.toNat, by omega, by omega, by rw [if_neg (by omega)]⟩
      have bC := bB
      have k0C := kB
      have penC := penB.mono (show _ ≤ n + 140 by omega)
      -- the places
      refine ⟨_, rfl, _, rfl, _, _, rfl, rfl, (rs.length : Int) + 2, rfl, RgOk.of_le (by decide) (by omega) (by decide) (by omega), fun lr hlr => ?_⟩
      have nlr := hpen.ne (k0C.free penC hlr)
      have zlr := k0C.free penC hlr
      have sD := same_upd (o := .lst (rgV 0 ((rs.length : Int) + 2))) hlr
      have bD := bC.same sD
      have penD := penC.same sD
      have erg : rgV 0 ((rs.length : Int) + 2) = ((List.range (rs.length + 2)).map fun (i : Nat) => (i : Int)).map V.int := by
        unfold rgV
        rw [show ((rs.length : Int) + 2 - 0).toNat = rs.length + 2 by omega, List.map_map]
        exact List.map_congr_left fun i _ => by show V.int (0 + (i : Int)) = V.int (i : Int); rw [Int.zero_add]
      have elr : upd HB lr (.lst (rgV 0 ((rs.length : Int) + 2))) lr = some (.lst (((List.range (rs.length + 2)).map fun (i : Nat) => (i : Int)).map V.int)) := by rw [upd_same, erg]
      have k0D := k0C.upd (o := .lst (rgV 0 ((rs.length : Int) + 2))) zlr
      generalize upd HB lr (.lst (rgV 0 ((rs.length : Int) + 2))) = HD at bD penD elr k0D ⊢
      refine ⟨d, c, lr, _, _, rfl, penD, by omega, nlr.1, SqL.of elr, by rw [List.length_map, List.length_range]; omega, fun pl π HE hperm hpl epl penE' kE => ?_⟩
      rw [List.length_map, List.length_range] at penE'
      have penE := penE'.mono (show _ ≤ n + 170 by omega)
      obtain ⟨lπ, rπ, ndπ, onπ⟩ := perm_nums hperm
      have rπ' : ∀ x ∈ π, 0 ≤ x ∧ x < (rs.length : Int) + 2 := fun x hx => by have := rπ x hx; omega
      have bE := bD.kept kE nD.1 nL.1 (fun b hb => (nB b hb).1)
      have k0E := k0D.trans kE
      have zpl : H pl = none := k0D.free penD hpl
      have npl := hpen.ne zpl
      have lmb2 : (bs2.map V.ref).length = rs.length + 2 := by rw [List.length_map, lb2]
      have πi : ∀ i < rs.length + 2, π[i]? = some (π.getD i 0) ∧ 0 ≤ π.getD i 0 ∧ π.getD i 0 < (rs.length : Int) + 2 := fun i hi => by
        have e := getD_get (0 : Int) (xs := π) (n := i) (by rw [lπ]; exact hi)
        exact ⟨e, rπ' _ (List.mem_of_getElem? e)⟩
      -- found, told
      refine ⟨_, rfl, D1, rfl, ⟨_, SqL.of bE.hD⟩, fun F1 hF1 => ?_⟩
      refine lc_list (K := K) (a := D1) (xs := bs2.map V.ref) (fun i H' => Same HE H' ∧ ∃ fs : List Addr, fs.length = i ∧ H' F1 = some (.lst (fs.map V.ref)) ∧ RowsAt H' fs (List.replicate i []) ∧ ∀ b ∈ fs, b ≠ F1) ?_ ?_ ?_ ?_
      · exact ⟨same_upd hF1, [], rfl, upd_same, ⟨rfl, fun i a u e => by simp at e⟩, by simp⟩
      · exact fun i H' _ z => SqL.of (z.1 _ _ bE.hD)
      · rintro i y HF hi ⟨sF, fs, hfl, eF, hRf, hnf⟩
        have hil : i < rs.length + 2 := by rw [← lmb2]; exact (List.getElem?_eq_some_iff.mp hi).1
        refine ⟨rfl, Nat.le_of_ble_eq_true rfl, fun q hq => ?_⟩
        have nq : q ≠ F1 := (ne_of_none eF hq).symm
        have sG := same_upd (o := .lst []) hq
        refine ⟨_, sG _ _ eF, by rw [List.length_map, hfl, sizeLine_eq]; omega, fun b o e => by rw [upd_ne (ne_of_none e hF1)]; exact sG _ _ (sF _ _ e), fs ++ [q], by simp [hfl], by rw [upd_same, List.map_append]; rfl, ?_, fun b hb => ?_⟩
        · have e1 := (hRf.same sG).snoc (a := q) (r := []) upd_same
          rw [List.replicate_succ']
          refine ⟨e1.1, fun j a u f1 f2 => ?_⟩
          have : a ≠ F1 := by
            rcases List.mem_append.mp (List.mem_of_getElem? f1) with z | z
            · exact hnf a z
            · rw [List.mem_singleton.mp z]; exact nq
          rw [upd_ne this]
          exact e1.2 j a u f1 f2
        · rcases List.mem_append.mp hb with z | z
          · exact hnf b z
          · rw [List.mem_singleton.mp z]; exact nq
      rintro HF ⟨sF, fs, hfl, eF, hRf, hnf⟩
      rw [lmb2] at hfl hRf
      have zF1 : H F1 = none := k0E.free penE hF1
      obtain ⟨hFb, hFD, hFl⟩ := bE.new hF1
      have npF : pl ≠ F1 := ne_of_none epl hF1
      have bF := bE.same sF
      have penF := penE.same sF
      have k0F := k0E.trans (.same sF)
      have eplF := sF _ _ epl
      refine ⟨_, rfl, D1, rfl, ⟨_, SqL.of bF.hD⟩, fun T1 hT1 => ?_⟩
      refine lc_list (K := K) (a := D1) (te := tC (.str "")) (xs := bs2.map V.ref) (fun i H' => Same HF H' ∧ H' T1 = some (.lst ((List.replicate i ("" : Str)).map V.str))) ?_ ?_ ?_ ?_
      · exact ⟨same_upd hT1, upd_same⟩
      · exact fun i H' _ z => SqL.of (z.1 _ _ bF.hD)
      · rintro i y HG hi ⟨sG, eT⟩
        have hil : i < rs.length + 2 := by rw [← lmb2]; exact (List.getElem?_eq_some_iff.mp hi).1
        refine ⟨rfl, _, eT, by rw [List.length_map, List.length_replicate, sizeLine_eq]; omega, fun b o e => by rw [upd_ne (ne_of_none e hT1)]; exact sG _ _ e, ?_⟩
        rw [upd_same, List.replicate_succ', List.map_append]; rfl
      rintro HG ⟨sG, eT⟩
      rw [lmb2] at eT
      have zT1 : H T1 = none := k0F.free penF hT1
      obtain ⟨hTb, hTD, hTl⟩ := bF.new hT1
      have npT : pl ≠ T1 := ne_of_none eplF hT1
      have bG := bF.same sG
      have penG := penF.same sG
      have k0G := k0F.trans (.same sG)
      have eplG := sG _ _ eplF
      have eFG := sG _ _ eF
      have hRG := hRf.same sG
      have nF1 := hpen.ne zF1
      have nT1 := hpen.ne zT1
      have nFT : F1 ≠ T1 := ne_of_none eF hT1
      refine ⟨_, _, rfl, ?_⟩
      clear bE bF bD penE penF penD k0E k0F k0D sF sG hRf eF eplF sD elr erg bC penC k0C
      -- rows and tells to their places
      have hent : ∀ i < rs.length + 2, ((rs1 ++ [lost]).getD i []).length = ws.length ∧ ∀ k < ws.length, 0 ≤ ((rs1 ++ [lost]).getD i []).getD k 0 ∧ ((rs1 ++ [lost]).getD i []).getD k 0 < (rs.length : Int) + 2 := fun i hi => by
        by_cases z : i < rs.length + 1
        · have e1 : (rs1 ++ [lost]).getD i [] = rs1.getD i [] := by rw [List.getD_eq_getElem?_getD, List.getElem?_append_left (by rw [T8.len]; exact z), ← List.getD_eq_getElem?_getD]
          rw [e1]
          exact ⟨(T8.row i z).1, fun k hk => by have := T8.ent pt htw z hk; omega⟩
        · have e1 : (rs1 ++ [lost]).getD i [] = lost := by rw [List.getD_eq_getElem?_getD, List.getElem?_append_right (by rw [T8.len]; omega), show i - rs1.length = 0 by rw [T8.len]; omega]; rfl
          rw [e1]
          exact ⟨hxl, fun k hk => hxr _ (List.mem_of_getElem? (getD_get (0 : Int) (by rw [hxl]; exact hk)))⟩
      have lss : ((ss ++ [ss.getD twin ""]) ++ [("lost" : Str)]).length = rs.length + 2 := by rw [List.length_append, List.length_append, hsl]; rfl
      refine ⟨_, rfl, _, _, rfl, rfl, (rs.length : Int) + 2, rfl, by omega, by omega, ?_⟩
      rw [show ((rs.length : Int) + 2).toNat = rs.length + 2 by omega]
      refine for_range (lo := 0) (n := rs.length + 2) (fun i σ H' => ∃ (v12 : Option V) (fs : List Addr) (rs2 : List (List Int)) (ss2 : List Str), σ = [some (.ref d), some (.ref p), some (.ref D1), some (.ref lt), some (.int (twin : Int)), some (.int (rs.length : Int)), v6, v7, some (.int (s1 : Int)), some (.ref pl), some (.ref F1), some (.ref T1), v12, none, none] ∧
          PenAt H' d c (n + 170) ∧ Kept d H H' ∧ BentAt H' D1 lt bs2 (rs1 ++ [lost]) ((ss ++ [ss.getD twin ""]) ++ [("lost" : Str)]) ∧ H' pl = some (.lst (π.map V.int)) ∧ H' F1 = some (.lst (fs.map V.ref)) ∧ RowsAt H' fs rs2 ∧ (∀ b ∈ fs, b ≠ F1 ∧ b ≠ T1) ∧ H' T1 = some (.lst (ss2.map V.str)) ∧
          rs2.length = rs.length + 2 ∧ ss2.length = rs.length + 2 ∧ ∀ j < i, rs2.getD (π.getD j 0).toNat [] = ((rs1 ++ [lost]).getD j []).map (fun (e : Int) => π.getD e.toNat 0) ∧ ss2.getD (π.getD j 0).toNat "" = ((ss ++ [ss.getD twin ""]) ++ [("lost" : Str)]).getD j "") ?_ ?_ ?_
      · refine ⟨_, fs, List.replicate (rs.length + 2) [], List.replicate (rs.length + 2) "", by rw [← es1]; rfl, penG, k0G, bG, eplG, eFG, hRG, fun b hb => ⟨hnf b hb, ?_⟩, eT, by simp, by simp, fun j hj => absurd hj (Nat.not_lt_zero _)⟩
        obtain ⟨m, hm, rfl⟩ := List.mem_iff_getElem.mp hb
        intro z
        have h1 := hRG.2 m _ _ (List.getElem?_eq_getElem hm) (by rw [List.getElem?_replicate, if_pos (by omega)])
        rw [z, eT] at h1
        have h2 := congrArg (fun o => match o with | some (HO.lst xs) => xs.length | _ => 0) h1
        simp at h2
      · rintro i σ HH hi ⟨v12, fs, rs2, ss2, rfl, penH, kH, bH, eplH, eFH, hRH, hnH, eTH, l2, l3, hdone⟩
        have hlf : fs.length = rs.length + 2 := by rw [hRH.1, l2]
        obtain ⟨eπ, p0, p1⟩ := πi i hi
        have ebi : bs2[i]? = some bs2[i] := List.getElem?_eq_getElem (by rw [lb2]; exact hi)
        have eri : (rs1 ++ [lost])[i]? = some ((rs1 ++ [lost]).getD i []) := getD_get ([] : List Int) (by rw [← bH.hR.1, lb2]; exact hi)
        obtain ⟨he1, he2⟩ := hent i hi
        have hrow := bH.hR.2 i _ _ ebi eri
        generalize hrw : (rs1 ++ [lost]).getD i [] = row at eri he1 he2 hrow
        refine ⟨_, rfl, _, rfl, D1, _, 0 + (i : Int), .ref bs2[i], rfl, rfl, SqL.of bH.hD, by rw [Int.zero_add]; exact atI_nat (by rw [List.getElem?_map, ebi]; rfl), bs2[i], rfl, ⟨_, SqL.of hrow⟩, fun q hq => ?_⟩
        have zq : H q = none := kH.free penH hq
        have nq := hpen.ne zq
        refine lc_list (K := K) (a := bs2[i]) (xs := row.map V.int) (fun j H' => Same HH H' ∧ H' q = some (.lst (((row.map fun (e : Int) => π.getD e.toNat 0).take j).map V.int))) ?_ ?_ ?_ ?_
        · exact ⟨same_upd hq, upd_same⟩
        · exact fun j H' _ z => SqL.of (z.1 _ _ hrow)
        · rintro j y HI hj ⟨sI, eq⟩
          rw [List.getElem?_map] at hj
          obtain ⟨x, ex, rfl⟩ := Option.map_eq_some_iff.mp hj
          have hjl : j < ws.length := by rw [← he1]; exact (List.getElem?_eq_some_iff.mp ex).1
          have ⟨x0, x1⟩ := he2 j hjl
          have exD : row.getD j 0 = x := by rw [List.getD_eq_getElem?_getD, ex]; rfl
          rw [exD] at x0 x1
          refine ⟨rfl, _, rfl, _, rfl, pl, _, x, .int (π.getD x.toNat 0), rfl, rfl, SqL.of (sI _ _ eplH), at_int x0 (by rw [lπ]; omega), _, eq, ?_, fun b o e => by rw [upd_ne (ne_of_none e hq)]; exact sI _ _ e, ?_⟩
          · rw [List.length_map, List.length_take, List.length_map, he1, sizeLine_eq]; omega
          · have en : (row.map fun (e : Int) => π.getD e.toNat 0)[j]? = some (π.getD x.toNat 0) := by rw [List.getElem?_map, ex]; rfl
            rw [upd_same, List.take_add_one, en, List.map_append]; rfl
        rintro HI ⟨sI, eq⟩
        rw [List.length_map, List.take_of_length_le (by rw [List.length_map]; exact Nat.le_refl _)] at eq
        have eFI := sI _ _ eFH
        have eTI := sI _ _ eTH
        have eplI := sI _ _ eplH
        have bI := bH.same sI
        have hRI := hRH.same sI
        have nqF : q ≠ F1 := fun z => by rw [z] at hq; rw [hq] at eFH; cases eFH
        have nqT : q ≠ T1 := fun z => by rw [z] at hq; rw [hq] at eTH; cases eTH
        have hix : ixN (rs.length + 2) (π.getD i 0) = some (π.getD i 0).toNat := by unfold ixN; rw [if_pos p0, if_pos (by omega)]
        refine ⟨_, rfl, _, rfl, _, rfl, pl, _, 0 + (i : Int), .int (π.getD i 0), rfl, rfl, SqL.of eplI, by rw [Int.zero_add]; exact atI_nat (by rw [List.getElem?_map, eπ]; rfl), F1, _, _, (π.getD i 0).toNat, rfl, rfl, eFI, by rw [List.length_map, hlf]; exact hix, ?_⟩
        rw [← List.map_set (f := V.ref)]
        have penJ := (penH.same sI).upd (o := .lst ((fs.set (π.getD i 0).toNat q).map V.ref)) nF1.1 nF1.2
        have kJ := (kH.trans (.same sI)).upd (o := .lst ((fs.set (π.getD i 0).toNat q).map V.ref)) zF1
        have bJ := bI.upd (o := .lst ((fs.set (π.getD i 0).toNat q).map V.ref)) (q := F1) hFD.symm hFl.symm (fun b hb z => hFb (z ▸ hb))
        have eFJ : upd HI F1 (.lst ((fs.set (π.getD i 0).toNat q).map V.ref)) F1 = some (.lst ((fs.set (π.getD i 0).toNat q).map V.ref)) := upd_same
        have eTJ : upd HI F1 (.lst ((fs.set (π.getD i 0).toNat q).map V.ref)) T1 = some (.lst (ss2.map V.str)) := by rw [upd_ne nFT.symm]; exact eTI
        have eplJ : upd HI F1 (.lst ((fs.set (π.getD i 0).toNat q).map V.ref)) pl = some (.lst (π.map V.int)) := by rw [upd_ne npF]; exact eplI
        have hRJ : RowsAt (upd HI F1 (.lst ((fs.set (π.getD i 0).toNat q).map V.ref))) (fs.set (π.getD i 0).toNat q) (rs2.set (π.getD i 0).toNat (row.map fun (e : Int) => π.getD e.toNat 0)) := by
          have h1 := hRI.set eq (π.getD i 0).toNat
          refine ⟨h1.1, fun j a u f1 f2 => ?_⟩
          have : a ≠ F1 := by
            rcases mem_set (List.mem_of_getElem? f1) with rfl | z
            · exact nqF
            · exact (hnH a z).1
          rw [upd_ne this]
          exact h1.2 j a u f1 f2
        generalize upd HI F1 (.lst ((fs.set (π.getD i 0).toNat q).map V.ref)) = HJ at penJ kJ bJ eFJ eTJ eplJ hRJ ⊢
        refine ⟨_, rfl, _, rfl, lt, _, 0 + (i : Int), _, rfl, rfl, SqL.of bJ.hl, at_deed (by omega) (by rw [lss]; omega), _, rfl, _, rfl, _, rfl, pl, _, 0 + (i : Int), .int (π.getD i 0), rfl, rfl, SqL.of eplJ, by rw [Int.zero_add]; exact atI_nat (by rw [List.getElem?_map, eπ]; rfl), T1, _, _, (π.getD i 0).toNat, rfl, rfl, eTJ, by rw [List.length_map, l3]; exact hix, ?_⟩
        rw [Int.zero_add, Int.toNat_natCast, ← List.map_set (f := V.str)]
        have bK := bJ.upd (o := .lst ((ss2.set (π.getD i 0).toNat (((ss ++ [ss.getD twin ""]) ++ [("lost" : Str)]).getD i "")).map V.str)) (q := T1) hTD.symm hTl.symm (fun b hb z => hTb (z ▸ hb))
        refine ⟨_, fs.set (π.getD i 0).toNat q, rs2.set (π.getD i 0).toNat (row.map fun (e : Int) => π.getD e.toNat 0), ss2.set (π.getD i 0).toNat (((ss ++ [ss.getD twin ""]) ++ [("lost" : Str)]).getD i ""), rfl, penJ.upd nT1.1 nT1.2, kJ.upd zT1, bK, by rw [upd_ne npT]; exact eplJ, by rw [upd_ne nFT]; exact eFJ, ?_, fun b hb => ?_, upd_same, by rw [List.length_set]; exact l2, by rw [List.length_set]; exact l3, fun j hj => ?_⟩
        · refine ⟨hRJ.1, fun j a u f1 f2 => ?_⟩
          have : a ≠ T1 := by
            rcases mem_set (List.mem_of_getElem? f1) with rfl | z
            · exact nqT
            · exact (hnH a z).2
          rw [upd_ne this]
          exact hRJ.2 j a u f1 f2
        · rcases mem_set hb with rfl | z
          · exact ⟨nqF, nqT⟩
          · exact hnH b z
        · rw [getD_set _ _ _ _ _ (by rw [l2]; omega), getD_set _ _ _ _ _ (by rw [l3]; omega)]
          by_cases z : j = i
          · subst z
            rw [if_pos rfl, if_pos rfl, hrw]
            exact ⟨rfl, rfl⟩
          · have hjn : j < rs.length + 2 := by omega
            obtain ⟨eπj, q0, q1⟩ := πi j hjn
            have hne : ¬ (π.getD i 0).toNat = (π.getD j 0).toNat := fun e => z (by
              have e2 : π.getD i 0 = π.getD j 0 := by omega
              have h1 := (List.getElem?_eq_some_iff.mp eπ).2
              have h2 := (List.getElem?_eq_some_iff.mp eπj).2
              exact ((List.getElem_inj ndπ).mp ((h1.trans e2).trans h2.symm)).symm)
            rw [if_neg hne, if_neg hne]
            exact hdone j (by omega)
      · rintro σ HH ⟨v12, fs, rs2, ss2, rfl, penH, kH, bH, eplH, eFH, hRH, hnH, eTH, l2, l3, hdone⟩
        intro q hq
        have zq : H q = none := kH.free penH hq
        have ep4 := kH _ _ ep npd
        have npq : p ≠ q := ne_of_none ep4 hq
        have e5 : upd HH q (.dK []) p = some (.dK (plainK t r l st)) := by rw [upd_ne npq]; exact ep4
        have epl5 : upd HH q (.dK []) pl = some (.lst (π.map V.int)) := by rw [upd_ne (ne_of_none eplH hq)]; exact eplH
        obtain ⟨eπ, p0, p1⟩ := πi s1 (by omega)
        refine ⟨_, rfl, p, _, rfl, gDeeds e5, _, rfl, _, rfl, _, rfl, _, rfl, pl, _, (s1 : Int), .int (π.getD s1 0), rfl, rfl, SqL.of epl5, atI_nat (by rw [List.getElem?_map, eπ]; rfl), upd_same, plainK t F1 T1 (π.getD s1 0), rfl, by show 4 ≤ 15; decide, ?_⟩
        rw [plainK_merge]
        have nFq : F1 ≠ q := ne_of_none eFH hq
        have nTq : T1 ≠ q := ne_of_none eTH hq
        have et4 := kH.seqF ed noF et
        have ntq : t ≠ q := by
          obtain ⟨o, ho, _⟩ := et4
          exact ne_of_none ho hq
        obtain ⟨nqd, nqc⟩ := hpen.ne zq
        have tl := other_tells pt htw T8 lπ rπ' hdone hs1 hst
        have hsT : ∀ j < rs.length + 2, Tl (((ss ++ [ss.getD twin ""]) ++ [("lost" : Str)]).getD j "") := fun j hj => by
          have hm := List.mem_of_getElem? (getD_get ("" : Str) (xs := (ss ++ [ss.getD twin ""]) ++ [("lost" : Str)]) (n := j) (by rw [lss]; exact hj))
          generalize ((ss ++ [ss.getD twin ""]) ++ [("lost" : Str)]).getD j "" = z at hm
          rcases List.mem_append.mp hm with h | h
          · rcases List.mem_append.mp h with h | h
            · exact pt.tl.2 z h
            · rw [List.mem_singleton.mp h]
              exact pt.tl.2 _ (List.mem_of_getElem? (getD_get ("" : Str) (by omega)))
          · rw [List.mem_singleton.mp h]; exact lost_tl
        refine k q rs2 ss2 (π.getD s1 0) _ zq ⟨t, F1, T1, fs, upd_same, (et4.upd ntq).upd ntq, ?_, ?_, ?_⟩ ⟨pt.gd, by rw [l2]; omega, fun u hu' => ?_, ⟨by rw [l2, l3], fun z hz => ?_⟩, by rw [l2]; omega⟩ ?_ tl ((penH.upd nqd nqc).upd nqd nqc |>.mono (by omega)) ((kH.upd zq).upd zq)
        · rw [upd_ne nFq, upd_ne nFq]; exact eFH
        · rw [upd_ne nTq, upd_ne nTq]; exact eTH
        · refine ⟨hRH.1, fun i a u e1 e2 => ?_⟩
          have h1 := hRH.2 i a u e1 e2
          rw [upd_ne (ne_of_none h1 hq), upd_ne (ne_of_none h1 hq)]
          exact h1
        · obtain ⟨m, hm⟩ := List.getElem?_of_mem hu'
          have hml : m < rs.length + 2 := by rw [← l2]; exact (List.getElem?_eq_some_iff.mp hm).1
          obtain ⟨j, hj, ej⟩ := onπ m hml
          have h1 := (hdone j hj).1
          rw [ej, List.getD_eq_getElem?_getD, hm] at h1
          have h2 : u = ((rs1 ++ [lost]).getD j []).map (fun (e : Int) => π.getD e.toNat 0) := h1
          obtain ⟨he1, he2⟩ := hent j hj
          rw [h2]
          refine ⟨by rw [List.length_map]; exact he1, fun x hx => ?_⟩
          obtain ⟨e, he, rfl⟩ := List.mem_map.mp hx
          obtain ⟨q, hqq⟩ := List.getElem?_of_mem he
          have hql : q < ws.length := by rw [← he1]; exact (List.getElem?_eq_some_iff.mp hqq).1
          have h3 := he2 q hql
          rw [List.getD_eq_getElem?_getD, hqq] at h3
          have h4 : 0 ≤ e ∧ e < (rs.length : Int) + 2 := h3
          have h5 := πi e.toNat (by omega)
          rw [l2]
          omega
        · obtain ⟨m, hm⟩ := List.getElem?_of_mem hz
          have hml : m < rs.length + 2 := by rw [← l3]; exact (List.getElem?_eq_some_iff.mp hm).1
          obtain ⟨j, hj, ej⟩ := onπ m hml
          have h1 := (hdone j hj).2
          rw [ej, List.getD_eq_getElem?_getD, hm] at h1
          have h2 : z = ((ss ++ [ss.getD twin ""]) ++ [("lost" : Str)]).getD j "" := h1
          rw [h2]
          exact hsT j hj
        · obtain ⟨eπl, l0, l1⟩ := πi (rs.length + 1) (by omega)
          have h1 := (hdone (rs.length + 1) (by omega)).2
          have h2 : ((ss ++ [ss.getD twin ""]) ++ [("lost" : Str)]).getD (rs.length + 1) "" = "lost" := by
            rw [List.getD_eq_getElem?_getD, List.getElem?_append_right (by rw [List.length_append, hsl]; exact Nat.le_refl _), List.length_append, hsl]
            simp
          rw [h2] at h1
          rw [← h1]
          exact List.mem_of_getElem? (getD_get ("" : Str) (by rw [l3]; omega))
end
end K1
set_option Elab.async false
set_option linter.all false
set_option maxRecDepth 100000
namespace L2
open PySem PySem.Spec PyProof.Rows
/-- len of an instance by its own __len__ -/
structure OwnL (K : PySem.W.Frag) (C f : Addr) : Prop where
  len : PySem.W.findIn K (.ref C) "__len__" = some (some (.ref f))
  fn : PySem.W.isFn K (.ref f) = true
def rLenOwn (C : Addr) (sp : Sp) (E : XK) : List V → Hp → VK → Prop := fun xs H Q => ∃ a dx fs, xs = [.ref a] ∧ H a = some (.ins C dx fs) ∧ sp [.ref a] H (fun v H' => ∃ n : Nat, v = .int (n : Int) ∧ n ≤ sizeLine ∧ Q (.int (n : Int)) H') E
theorem call_lenOwn {X : Cx} {n : Nat} {CX : CXT} {C f : Addr} {fd : FuncData} {ps : List Str} {sp : Sp} {E : XK} (O : OwnL X.K C f) (F : FnOk X.prog X.w X.K X.mg X.base CX n f fd ps sp) (hr : Room (n + 1) X.A) (hb : Binds X.K fd ps []) (hx : Passes CX X E) :
    CallR X (.builtin "len") (rLenOwn C sp E) := by
  intro pins s σ H xs us Q I r h
  obtain ⟨a, dx, fs, rfl, ha, hs⟩ := h
  obtain ⟨u, rfl, rx⟩ := vals1 r
  cases rx
  obtain ⟨mA, J, _⟩ := ins_get I.hok ha
  obtain ⟨od, J, _⟩ := J.look
  obtain ⟨m, hF⟩ := I.fr
  refine PySem.W.len_K hF I.ok.mod.kin J O.len O.fn ?_
  refine wpAny_mono (own_call (vs := [V.ref a]) F hb hx hr.in1 rfl I (.cons rfl .nil) hs) (fun u s' q => ?_) fun _ _ e => e
  obtain ⟨z, H', I', rz, n, rfl, hn, q⟩ := q
  obtain ⟨t, rfl⟩ := rz
  have hl := line63
  have : (sizeLine : Nat) = 16777216 := sizeLine_eq
  exact ⟨⟨by omega, by omega⟩, ⟨.int (n : Int), H', I'.tok _, ⟨_, rfl⟩, q⟩⟩
end L2
namespace K1
open PySem L2
def pdRow (r : List Int) : PyData := .tuple (r.map PyData.int)
theorem eqv_rows : ∀ ws ws2 : List (List Int), PyData.eqvAll (ws.map pdRow) (ws2.map pdRow) = decide (ws = ws2)
  | [], [] => by simp [PyData.eqvAll]
  | [], _ :: _ => by simp [PyData.eqvAll]
  | _ :: _, [] => by simp [PyData.eqvAll]
  | a :: r, b :: q => by
    simp only [List.map_cons, PyData.eqvAll, eqv_rows r q]
    have : PyData.eqv (pdRow a) (pdRow b) = decide (a = b) := by unfold pdRow; rw [PyData.eqv, eqv_ints]
    rw [this]
    by_cases e : a = b
    · subst e; simp
    · simp [e]
theorem ok_tl {ws : List Str} (h : ∀ z ∈ ws, Tl z) : OkS ws := fun z hz => ok_chars (h z hz).2.2
theorem canLay_rows : ∀ rs : List (List Int), PyData.canLayAll0 (rs.map pdRow) = true
  | [] => rfl
  | n :: r => by simp [PyData.canLayAll0, PyData.canLay0, canLay_rows r, pdRow, canLay_ints]
theorem depth_rows : ∀ rs : List (List Int), PyData.depthAll (rs.map pdRow) ≤ 2
  | [] => by decide
  | n :: r => by
    have := depth_rows r
    have := depth_ints n
    simp only [List.map_cons, PyData.depthAll, PyData.depth, pdRow]
    omega
theorem shaped_rows (rs : List (List Int)) : SeqAt.shaped (.tuple (rs.map pdRow)) = true := shaped_of (by rw [PyData.canLay0, canLay_rows]) (by rw [PyData.depth]; have := depth_rows rs; omega)
theorem dp_rows {K : PySem.W.Frag} {H : Hp} : ∀ {as : List Addr} {rs : List (List Int)}, RowsT H as rs → DpAll K H (as.map V.ref) (rs.map pdRow)
  | [], [], _ => .nil
  | [], _ :: _, h => by cases h.1
  | _ :: _, [], h => by cases h.1
  | a :: as, r :: rs, h => .cons (.tup (SqT.of (h.2 0 a r rfl rfl)) (dp_ints r)) (dp_rows ⟨by have := h.1; simpa using this, fun i b q e1 e2 => h.2 (i + 1) b q e1 e2⟩)
abbrev pEq : List Str := ["self", "other"]
/-- what of a class isinstance asks -/
structure Ti (K : PySem.W.Frag) (C : Addr) : Prop where
  ca : PySem.W.findIn K (.ref C) "__class__" = some (some (.builtin "object.__class__"))
  cs : PySem.W.specialIn K (.builtin "object.__class__") "__get__" = some (some (.builtin "getset_descriptor.__get__"))
  ct : PySem.W.takesIn K (.builtin "object.__class__") = some true
  cm : PySem.W.mroIn K C (.type "object") = some true
def spMLen (K : PySem.W.Frag) (C : Addr) : Sp := fun vs H Q _ => ∃ (x : Addr) (ws : List Str) (rs : List (List Int)) (ss : List Str) (st : Int), vs = [.ref x] ∧ MachAt K C H x ws rs ss st ∧ Q (.int (rs.length : Int)) H
def spMEq (K : PySem.W.Frag) (C : Addr) : Sp := fun vs H Q _ => ∃ (x y : Addr) (ws ws2 : List Str) (rs rs2 : List (List Int)) (ss ss2 : List Str) (st st2 : Int), vs = [.ref x, .ref y] ∧ MachAt K C H x ws rs ss st ∧ MachAt K C H y ws2 rs2 ss2 st2 ∧
  OkS ws ∧ OkS ws2 ∧ OkS ss ∧ OkS ss2 ∧ Q (.bl (decide (ws = ws2 ∧ rs = rs2 ∧ ss = ss2 ∧ st = st2))) H
/-- the other one is no machine -/
def preNI (C : Addr) : List V → Hp → Prop := fun vs H => ∃ (x dx : Addr) (fs : List (Str × V)) (v : V), vs = [.ref x, v] ∧ H x = some (.ins C dx fs) ∧ (v = .non ∨ (∃ i, v = .int i) ∨ ∃ l xs, v = .ref l ∧ H l = some (.lst xs))
section
variable {P : Program} {w : World} {K : PySem.W.Frag} {mg : Str → Option Value} {base : Heap}
theorem scMLen : FnScope ["self"] ["self"] (defScope sMLen) := ⟨rfl, rfl, rfl, by decide +kernel, rfl, by decide +kernel, by decide +kernel⟩
theorem ok_mlen {C f : Addr} {fd : FuncData} (F : Fun K "__len__" "Machine.__len__" sMLen f fd) (M : Tm K mg C) (T : Bt2 mg) : FnOk P w K mg base CX0 1 f fd ["self"] (spMLen K C) := by
  refine F.ok scMLen (fun vs H Q E h => ?_) (fun cdv A outer s H vs Q E hr h => ?_)
  · obtain ⟨x, ws, rs, ss, st, rfl, _⟩ := h
    rfl
  · obtain ⟨x, ws, rs, ss, st, rfl, ⟨dx, t, r, l, as, hx, ht, hr', hR, hl⟩, k⟩ := h
    refine ⟨_, pss_one (ps_ret (pe_callB call_len (by rfl) T.len PySem.boot_len (pa_cons (pe_fld (pv 0) rfl) pa_nil))), ?_⟩
    exact ⟨_, rfl, x, C, dx, _, _, rfl, hx, M.cl, M.nR, mf_rows _ _ _ _, _, rs.length, rfl, .inr ⟨_, SqT.of hr', by rw [List.length_map, hR.1]⟩, k⟩
theorem scMEq : FnScope pEq pEq (defScope sMEq) := ⟨rfl, rfl, rfl, by decide +kernel, rfl, by decide +kernel, by decide +kernel⟩
theorem ok_meq {C f : Addr} {fd : FuncData} (F : Fun K "__eq__" "Machine.__eq__" sMEq f fd) (M : Tm K mg C) (I : Ti K C) (T : Bt2 mg) : FnOk P w K mg base CX0 1 f fd pEq (spMEq K C) := by
  refine F.ok scMEq (fun vs H Q E h => ?_) (fun cdv A outer s H vs Q E hr h => ?_)
  · obtain ⟨x, y, ws, ws2, rs, rs2, ss, ss2, st, st2, rfl, _⟩ := h
    rfl
  · obtain ⟨x, y, ws, ws2, rs, rs2, ss, ss2, st, st2, rfl, ⟨dx, t, r, l, as, hx, ht, hr', hR, hl⟩, ⟨dy, t2, r2, l2, as2, hy, ht2, hr2, hR2, hl2⟩, ow, ow2, os, os2, k⟩ := h
    refine ⟨_, pss_cons (ps_if (pt_not (pt_val (pe_callB call_isi (by rfl) T.isinstance PyProof.Rows.boot_isinstance (pa_cons (pv 1) (pa_cons (pe_glob (v := .ref C) rfl M.mgC rfl) pa_nil))))) pss_never pss_nil)
      (pss_cons (ps_if (PW.pt (pw_or (pt_cmpR (op_neD hr.units) (pe_fld (pv 0) rfl) (pe_fld (pv 1) rfl) (nomark _)) (pw_or1 (pt_cmpR (op_neD hr.units) (pe_fld (pv 0) rfl) (pe_fld (pv 1) rfl) (nomark _))))) (pss_one (ps_ret pe_bl)) pss_nil)
      (pss_one (ps_ret (pe_and (pe_cmpR (op_eqD hr.units) (pe_fld (pv 0) rfl) (pe_fld (pv 1) rfl) (nomark _)) (pe_one (pe_cmpR op_eq (pe_fld (pv 0) rfl) (pe_fld (pv 1) rfl) (nomark _))))))), ?_⟩
    refine ⟨_, rfl, _, _, .ref C, .ref C, true, rfl, .own C, .base (.ins hy M.cl I.ca I.cs I.ct I.cm), by simp [PySem.W.kitOne], true, rfl, ?_⟩
    refine iteF ?_
    refine ⟨_, rfl, x, C, dx, _, _, rfl, hx, M.cl, M.nD, mf_deeds _ _ _ _, _, rfl, y, C, dy, _, _, rfl, hy, M.cl, M.nD, mf_deeds _ _ _ _, _, _, .tup ht.sq (dp_strs ws), .tup ht2.sq (dp_strs ws2), shaped_strs ow, shaped_strs ow2, _, rfl, ?_⟩
    rw [PyData.eqv, eqv_strs]
    refine ite2 (fun h => ?_) (fun h => ?_)
    · have hne : ¬ ws = ws2 := by simpa using h
      refine iteT ?_
      have : decide (ws = ws2 ∧ rs = rs2 ∧ ss = ss2 ∧ st = st2) = false := decide_eq_false fun e => hne e.1
      rw [this] at k
      exact k
    · have e1 : ws = ws2 := by simpa using h
      refine ⟨_, rfl, x, C, dx, _, _, rfl, hx, M.cl, M.nR, mf_rows _ _ _ _, _, rfl, y, C, dy, _, _, rfl, hy, M.cl, M.nR, mf_rows _ _ _ _, _, _, .tup (SqT.of hr') (dp_rows hR), .tup (SqT.of hr2) (dp_rows hR2), shaped_rows rs, shaped_rows rs2, _, rfl, ?_⟩
      rw [PyData.eqv, eqv_rows]
      refine ite2 (fun h => ?_) (fun h => ?_)
      · have hne : ¬ rs = rs2 := by simpa using h
        have : decide (ws = ws2 ∧ rs = rs2 ∧ ss = ss2 ∧ st = st2) = false := decide_eq_false fun e => hne e.2.1
        rw [this] at k
        exact k
      · have e2 : rs = rs2 := by simpa using h
        refine ⟨_, rfl, x, C, dx, _, _, rfl, hx, M.cl, M.nT, mf_tells _ _ _ _, _, rfl, y, C, dy, _, _, rfl, hy, M.cl, M.nT, mf_tells _ _ _ _, _, _, .tup (SqT.of hl) (dp_strs ss), .tup (SqT.of hl2) (dp_strs ss2), shaped_strs os, shaped_strs os2, _, rfl, ?_⟩
        rw [PyData.eqv, eqv_strs]
        refine ite2 (fun h => ?_) (fun h => ?_)
        · have e3 : ss = ss2 := by simpa using h
          refine ⟨_, rfl, x, C, dx, _, _, rfl, hx, M.cl, M.nS, mf_start _ _ _ _, _, rfl, y, C, dy, _, _, rfl, hy, M.cl, M.nS, mf_start _ _ _ _, rfl, ?_⟩
          have : decide (ws = ws2 ∧ rs = rs2 ∧ ss = ss2 ∧ st = st2) = decide (V.int st = V.int st2) := by
            simp [e1, e2, e3]
          rw [this] at k
          exact k
        · have hne : ¬ ss = ss2 := by simpa using h
          have : decide (ws = ws2 ∧ rs = rs2 ∧ ss = ss2 ∧ st = st2) = false := decide_eq_false fun e => hne e.2.2.1
          rw [this] at k
          exact k
end
end K1
set_option Elab.async false
set_option linter.all false
set_option maxRecDepth 100000
/-! _law_is_machine (PenK behind frz.py) -/
namespace K1
open PySem L2
abbrev sIsM : Stmt := top 52
def spIsM (K : PySem.W.Frag) (C : Addr) : Sp := fun vs H Q _ => ∃ (x p : Addr) (ws : List Str) (rs : List (List Int)) (ss : List Str) (st : Int), vs = [.ref x, .ref p] ∧ MachAt K C H x ws rs ss st ∧ PlainAt H p ws rs ss st ∧ OkS ws ∧ OkS ss ∧ rs.length ≤ 60 ∧
  ∀ H', Same H H' → Q (.bl true) H'
section
variable {P : Program} {w : World} {K : PySem.W.Frag} {mg : Str → Option Value} {base : Heap}
abbrev pIsM : List Str := ["_law_machine", "_law_plain_here"]
abbrev nIsM : List Str := ["_law_machine", "_law_plain_here", "_law_row"]
theorem scIsM : FnScope nIsM pIsM (defScope sIsM) := ⟨rfl, rfl, rfl, by decide +kernel, rfl, by decide +kernel, by decide +kernel⟩
theorem ok_ism {C f fL : Addr} {fd fdL : FuncData} (D : Df K mg "_law_is_machine" sIsM pIsM f fd) (M : Tm K mg C) (T : Bt2 mg) (FL : Fun K "__len__" "Machine.__len__" sMLen fL fdL) (bL : Binds K fdL ["self"] []) (OL : OwnL K C fL) : FnOk P w K mg base CX0 3 f fd pIsM (spIsM K C) := by
  have GL : FnOk P w K mg base CX0 1 fL fdL ["self"] (spMLen K C) := ok_mlen FL M T
  refine D.F.ok scIsM (fun vs H Q E h => ?_) (fun cdv A outer s H vs Q E hr h => ?_)
  · obtain ⟨x, p, ws, rs, ss, st, rfl, _⟩ := h
    rfl
  · obtain ⟨x, p, ws, rs, ss, st, rfl, mx, ⟨t, r, l, as, hp, ht, hr', hl, hR⟩, ow, os, h60, k⟩ := h
    obtain ⟨dx, tx, rx, lx, bs0, hx, htx, hrx, hRx, hlx⟩ := id mx
    have hu := hu_of hr
    refine ⟨_, pss_cons (ps_if (PW.pt (pw_or (pt_cmpR (op_neD hr.units) (pe_fld (pv 0) rfl) (pe_dget hu (pv 1) pe_str (fun _ _ => rfl)) (nomark _))
          (pw_or (pt_cmpR op_ne (pe_fld (pv 0) rfl) (pe_dget hu (pv 1) pe_str (fun _ _ => rfl)) (nomark _))
          (pw_or1 (pt_cmpR op_ne (pe_callB (call_lenOwn OL GL hr bL pass0) (by rfl) T.len PySem.boot_len (pa_cons (pv 0) pa_nil)) (pe_callB call_len (by rfl) T.len PySem.boot_len (pa_cons (pe_dget hu (pv 1) pe_str (fun _ _ => rfl)) pa_nil)) (nomark _)))))) (pss_one (ps_ret pe_bl)) pss_nil)
      (pss_one (ps_ret (pe_and (pe_cmpR (op_eqD hr.units) (pe_fld (pv 0) rfl) (pe_callTy call_tuple_of (by rfl) T.tuple PyProof.Rows.boot_tuple (pa_cons (pe_lc (own := [("_law_row", 2)]) (g := gName 2) (by rfl) scIsM.nd (pi_list (pe_dget hu (pv 1) pe_str (fun _ _ => rfl)))
            (blkOk_by (own := [("_law_row", 2)]) (N := nIsM) (sc := defScope sIsM) (by decide +kernel)) (fun _ _ _ _ _ => pg_name (i := 2) scIsM.nd rfl (Or.inl rfl)) (fun _ _ _ _ _ => pts_nil)
            (fun _ _ _ _ _ => pe_callTy (r := rTu K) call_tuple_of (by rfl) T.tuple PyProof.Rows.boot_tuple (pa_cons (pv 2) pa_nil))) pa_nil)) (nomark _))
          (pe_one (pe_cmpR (op_eqD hr.units) (pe_fld (pv 0) rfl) (pe_callTy call_tuple_of (by rfl) T.tuple PyProof.Rows.boot_tuple (pa_cons (pe_dget hu (pv 1) pe_str (fun _ _ => rfl)) pa_nil)) (nomark _)))))), ?_⟩
    refine ⟨_, rfl, x, C, dx, _, _, rfl, hx, M.cl, M.nD, mf_deeds _ _ _ _, _, rfl, p, _, rfl, gDeeds hp, _, _, .tup htx.sq (dp_strs ws), .tup ht.sq (dp_strs ws), shaped_strs ow, shaped_strs ow, _, rfl, ?_⟩
    rw [PyData.eqv, eqv_strs]
    refine ite2 (fun h => by simp at h) (fun _ => ?_)
    refine ⟨_, rfl, x, C, dx, _, _, rfl, hx, M.cl, M.nS, mf_start _ _ _ _, _, rfl, p, _, rfl, gStart hp, rfl, _, rfl, ?_⟩
    refine ite2 (fun h => by simp at h) (fun _ => ?_)
    refine ⟨_, rfl, x, dx, _, rfl, hx, x, ws, rs, ss, st, rfl, mx, rs.length, rfl, Nat.le_trans h60 (by decide), ?_⟩
    refine ⟨_, rfl, p, _, rfl, gRows hp, _, rs.length, rfl, .inl ⟨_, SqL.of hr', by rw [List.length_map, hR.1]⟩, rfl, _, rfl, ?_⟩
    refine ite2 (fun h => by simp at h) (fun _ => ?_)
    -- machine.rows == tuple([..])
    refine ⟨_, rfl, x, C, dx, _, _, rfl, hx, M.cl, M.nR, mf_rows _ _ _ _, _, rfl, p, _, rfl, gRows hp, r, rfl, ⟨_, SqL.of hr'⟩, fun D1 hD => ?_⟩
    refine lc_list (K := K) (a := r) (xs := as.map V.ref) (fun i H' => Same H H' ∧ ∃ bs : List Addr, bs.length = i ∧ H' D1 = some (.lst (bs.map V.ref)) ∧ RowsT H' bs (rs.take i) ∧ ∀ q ∈ bs, q ≠ D1) ?_ ?_ ?_ ?_
    · exact ⟨same_upd hD, [], rfl, upd_same, ⟨by simp, fun i a r e => by simp at e⟩, by simp⟩
    · exact fun i H' _ q => SqL.of (q.1 _ _ hr')
    · rintro i y H6 hi ⟨sm6, bs, hbs, hD6, hR6, hnD⟩
      rw [List.getElem?_map] at hi
      obtain ⟨ai, eai, rfl⟩ := Option.map_eq_some_iff.mp hi
      have hir : i < rs.length := by rw [← hR.1]; exact (List.getElem?_eq_some_iff.mp eai).1
      have eri : rs[i]? = some rs[i] := List.getElem?_eq_getElem hir
      have ha6 := sm6 _ _ (hR.2 i ai _ eai eri)
      refine ⟨rfl, _, rfl, ai, _, rfl, .inl ⟨SqL.of ha6, fun q hq => ?_⟩⟩
      have nDq : D1 ≠ q := ne_of_none hD6 hq
      refine ⟨_, (by rw [upd_ne nDq]; exact hD6), ?_, ?_, bs ++ [q], by simp [hbs], by rw [upd_same]; simp, ?_, ?_⟩
      · rw [List.length_map]; exact small1000 (by omega)
      · exact fun c o e => by rw [upd_ne (ne_of_none e hD), upd_ne (ne_of_none (sm6 _ _ e) hq)]; exact sm6 _ _ e
      · have e7 : RowsT (upd H6 q (.tup ((rs[i]).map V.int))) (bs ++ [q]) (rs.take i ++ [rs[i]]) := (hR6.same (same_upd hq)).snoc upd_same
        rw [List.take_add_one, eri]
        refine ⟨e7.1, fun j c r e1 e2 => ?_⟩
        have hm := List.mem_of_getElem? e1
        have : c ≠ D1 := by
          rcases List.mem_append.mp hm with h | h
          · exact hnD c h
          · rw [List.mem_singleton.mp h]; exact nDq.symm
        rw [upd_ne this]
        exact e7.2 j c r e1 e2
      · intro c hc
        rcases List.mem_append.mp hc with h | h
        · exact hnD c h
        · rw [List.mem_singleton.mp h]; exact nDq.symm
    · rintro H6 ⟨sm6, bs, hbs, hD6, hR6, hnD⟩
      have etk : rs.take (as.map V.ref).length = rs := by rw [List.length_map, hR.1, List.take_length]
      rw [etk] at hR6
      refine ⟨D1, _, rfl, .inl ⟨SqL.of hD6, fun q hq => ?_⟩⟩
      have sq := same_upd (o := .tup (bs.map V.ref)) hq
      have s7 := sm6.trans sq
      refine ⟨_, _, .tup (SqT.of (s7 _ _ hrx)) (dp_rows (hRx.same s7)), .tup (SqT.of upd_same) (dp_rows (hR6.same sq)), shaped_rows rs, shaped_rows rs, ?_⟩
      rw [PyData.eqv, eqv_rows, decide_eq_true rfl]
      refine ⟨true, rfl, ?_⟩
      refine iteT ?_
      refine ⟨_, rfl, x, C, dx, _, _, rfl, s7 _ _ hx, M.cl, M.nT, mf_tells _ _ _ _, _, rfl, p, _, rfl, gTells (s7 _ _ hp), l, _, rfl, .inl ⟨SqL.of (s7 _ _ hl), fun q2 hq2 => ?_⟩⟩
      have sq2 := same_upd (o := .tup (ss.map V.str)) hq2
      refine ⟨_, _, .tup (SqT.of (sq2 _ _ (s7 _ _ hlx))) (dp_strs ss), .tup (SqT.of upd_same) (dp_strs ss), shaped_strs os, shaped_strs os, ?_⟩
      rw [PyData.eqv, eqv_strs, decide_eq_true rfl]
      exact k _ (s7.trans sq2)
end
end K1
set_option Elab.async false
set_option linter.all false
set_option maxRecDepth 100000
set_option maxHeartbeats 4000000
/-! k06's law -/
namespace K1
open PySem L2 LamX
abbrev sLaw : Stmt := top 54
/-- what the law calls -/
structure Fs (P : Program) (w : World) (K : PySem.W.Frag) (mg : Str → Option Value) (base : Heap) (C CO : Addr) : Prop where
  T2 : Bt2 mg
  M : Tm K mg C
  pen : ∃ f fd, mg "_law_pen" = some (.ref f) ∧ PySem.W.keepIn K (.ref f) = true ∧ Binds K fd ["_law_script"] [] ∧ FnOk P w K mg base CX0 1 f fd ["_law_script"] (spPen K)
  draw : ∃ f fd, mg "_law_draw" = some (.ref f) ∧ PySem.W.keepIn K (.ref f) = true ∧ Binds K fd pDraw [] ∧ FnOk P w K mg base CX0 1 f fd pDraw spDraw
  words : ∃ f fd, mg "_law_words" = some (.ref f) ∧ PySem.W.keepIn K (.ref f) = true ∧ Binds K fd pDraw [] ∧ FnOk P w K mg base CX0 3 f fd pDraw (spWords K)
  plain : ∃ f fd, mg "_law_plain" = some (.ref f) ∧ PySem.W.keepIn K (.ref f) = true ∧ Binds K fd pPlain [] ∧ FnOk P w K mg base CX0 3 f fd pPlain (spPlain K)
  made : ∃ f fd, mg "_law_made" = some (.ref f) ∧ PySem.W.keepIn K (.ref f) = true ∧ Binds K fd ["_law_plain_here"] [] ∧ FnOk P w K mg base CX0 7 f fd ["_law_plain_here"] (spMade K C)
  core : ∃ f fd, mg "_law_core" = some (.ref f) ∧ PySem.W.keepIn K (.ref f) = true ∧ Binds K fd ["_law_plain_here"] [] ∧ FnOk P w K mg base CX0 3 f fd ["_law_plain_here"] (spCoreL K)
  ism : ∃ f fd, mg "_law_is_machine" = some (.ref f) ∧ PySem.W.keepIn K (.ref f) = true ∧ Binds K fd pIsM [] ∧ FnOk P w K mg base CX0 3 f fd pIsM (spIsM K C)
  other : ∃ f fd, mg "_law_other_way" = some (.ref f) ∧ PySem.W.keepIn K (.ref f) = true ∧ Binds K fd pOtherW [] ∧ FnOk P w K mg base CX0 3 f fd pOtherW (spOtherW K)
  part : ∃ f fd, Meth K C "parting" f ∧ Binds K fd pPt [] ∧ FnOk P w K mg base (L2.CX P w) 3 f fd pPt (spPart K C CO)
  least : ∃ f fd, Meth K C "least" f ∧ Binds K fd ["self"] [] ∧ FnOk P w K mg base CX0 7 f fd ["self"] (spCore K C)
  eq : ∃ f fd, OwnE K C f ∧ Binds K fd pEq [] ∧ FnOk P w K mg base CX0 1 f fd pEq (spMEq K C)
theorem PlainAt.kd {H H' : Hp} {d p : Addr} {kv : List (Key × V)} {ws : List Str} {rs : List (List Int)} {ss : List Str} {st : Int} (h : PlainAt H p ws rs ss st) (hd : H d = some (.dK kv)) (n : p ≠ d) (k : Kept d H H') : PlainAt H' p ws rs ss st := by
  obtain ⟨t, r, l, as, h1, h2, h3, h4, h5⟩ := h
  have ne : ∀ {a : Addr} {xs : List V}, H a = some (.lst xs) → a ≠ d := fun e => ne_of e hd (by intro z; cases z)
  exact ⟨t, r, l, as, k _ _ h1 n, k.seqF hd (fun o ys e => by cases e) h2, k _ _ h3 (ne h3), k _ _ h4 (ne h4), ⟨h5.1, fun i a q e1 e2 => k _ _ (h5.2 i a q e1 e2) (ne (h5.2 i a q e1 e2))⟩⟩
theorem allU_small : ∀ w ≤ 3, ∀ n ≤ 5, (allU w (n - 1)).length ≤ 900 := by decide +kernel
/-- a least machine tells nothing that the machine doesn't -/
theorem lm_tells {w : Nat} {lr : List (List Nat)} {lt : List Str} {rs : List (List Int)} {ss : List Str} {st : Int} (h : LM w lr lt (twM rs ss st)) (hin : ∀ v : List Nat, (∀ k ∈ v, k < w) → twM rs ss st v ∈ ss) : ∀ z ∈ lt, z ∈ ss := fun z hz => by
  obtain ⟨c, hc⟩ := List.getElem?_of_mem hz
  have hcl : c < lr.length := by rw [← h.len]; exact (List.getElem?_eq_some_iff.mp hc).1
  obtain ⟨n0, hn⟩ := h.can
  obtain ⟨_, h2⟩ := hn n0 (Nat.le_refl _)
  have hm : c ∈ uq [] ((allU w n0).map fun u => lN lr u 0) := by rw [h2]; exact List.mem_range.mpr hcl
  rw [uq_mem] at hm
  rcases hm with hm | hm
  · exact nomatch hm
  obtain ⟨u, hu, e⟩ := List.mem_map.mp hm
  have hu2 := ((allU_mem _ _ _).mp hu).2
  have h3 := h.tells u hu2
  rw [e, List.getD_eq_getElem?_getD, hc] at h3
  have h4 : z = twM rs ss st u := h3
  rw [h4]
  exact hin u hu2
theorem tw_in {ws : List Str} {rs : List (List Int)} {ss : List Str} {st : Int} (pt : Parts ws rs ss st) (v : List Nat) (hv : ∀ k ∈ v, k < ws.length) : twM rs ss st v ∈ ss := by
  have h1 : 0 ≤ ld rs v st ∧ ld rs v st < (rs.length : Int) := pt.led (ix_toI hv) pt.st.1 pt.st.2
  unfold twM
  exact List.mem_of_getElem? (getD_get ("" : Str) (by rw [pt.tl.1]; omega))
/-! rows as data in lists -/
def pdRowL (r : List Int) : PyData := .list (r.map PyData.int)
theorem eqv_rowsL : ∀ ws ws2 : List (List Int), PyData.eqvAll (ws.map pdRowL) (ws2.map pdRowL) = decide (ws = ws2)
  | [], [] => by simp [PyData.eqvAll]
  | [], _ :: _ => by simp [PyData.eqvAll]
  | _ :: _, [] => by simp [PyData.eqvAll]
  | a :: r, b :: q => by
    simp only [List.map_cons, PyData.eqvAll, eqv_rowsL r q]
    have : PyData.eqv (pdRowL a) (pdRowL b) = decide (a = b) := by unfold pdRowL; rw [PyData.eqv, eqv_ints]
    rw [this]
    by_cases e : a = b
    · subst e; simp
    · simp [e]
theorem canLay_rowsL : ∀ rs : List (List Int), PyData.canLayAll0 (rs.map pdRowL) = true
  | [] => rfl
  | n :: r => by simp [PyData.canLayAll0, PyData.canLay0, canLay_rowsL r, pdRowL, canLay_ints]
theorem depth_rowsL : ∀ rs : List (List Int), PyData.depthAll (rs.map pdRowL) ≤ 2
  | [] => by decide
  | n :: r => by
    have := depth_rowsL r
    have := depth_ints n
    simp only [List.map_cons, PyData.depthAll, PyData.depth, pdRowL]
    omega
theorem dp_rowsL {K : PySem.W.Frag} {H : Hp} : ∀ {as : List Addr} {rs : List (List Int)}, RowsAt H as rs → DpAll K H (as.map V.ref) (rs.map pdRowL)
  | [], [], _ => .nil
  | [], _ :: _, h => by cases h.1
  | _ :: _, [], h => by cases h.1
  | a :: as, r :: rs, h => .cons (.lst (SqL.of (h.2 0 a r rfl rfl)) (dp_ints r)) (dp_rowsL ⟨by have := h.1; simpa using this, fun i b q e1 e2 => h.2 (i + 1) b q e1 e2⟩)
/-- two plain machines with the same deeds, as dicts -/
theorem plains_eq {K : PySem.W.Frag} {H : Hp} {p q : Addr} {ws : List Str} {rs1 rs2 : List (List Int)} {ss1 ss2 : List Str} {st : Int} {Q : VK} (hp : PlainAt H p ws rs1 ss1 st) (hq : PlainAt H q ws rs2 ss2 st) (ow : OkS ws) (o1 : OkS ss1) (o2 : OkS ss2) (k : Q (.bl (decide (rs1 = rs2 ∧ ss1 = ss2))) H) : rEqDk K (.ref p) (.ref q) H Q := by
  obtain ⟨t, r, l, as, ep, et, er, el, hR⟩ := hp
  obtain ⟨t2, r2, l2, as2, ep2, et2, er2, el2, hR2⟩ := hq
  have e1 : EqD K H (.ref t) (.ref t2) true := ⟨_, _, .tup et.sq (dp_strs ws), .tup et2.sq (dp_strs ws), by rw [PyData.canLay0, canLay_strs _ ow], by rw [PyData.canLay0, canLay_strs _ ow], by rw [PyData.depth]; have := depth_strs ws; omega, by rw [PyData.eqv, eqv_strs]; simp⟩
  have e2 : EqD K H (.ref r) (.ref r2) (decide (rs1 = rs2)) := ⟨_, _, .lst (SqL.of er) (dp_rowsL hR), .lst (SqL.of er2) (dp_rowsL hR2), by rw [PyData.canLay0, canLay_rowsL], by rw [PyData.canLay0, canLay_rowsL], by rw [PyData.depth]; have := depth_rowsL rs1; omega, by rw [PyData.eqv, eqv_rowsL]⟩
  have e3 : EqD K H (.ref l) (.ref l2) (decide (ss1 = ss2)) := ⟨_, _, .lst (SqL.of el) (dp_strs ss1), .lst (SqL.of el2) (dp_strs ss2), by rw [PyData.canLay0, canLay_strs _ o1], by rw [PyData.canLay0, canLay_strs _ o2], by rw [PyData.depth]; have := depth_strs ss1; omega, by rw [PyData.eqv, eqv_strs]⟩
  have e4 : EqD K H (.int st) (.int st) true := ⟨_, _, .int st, .int st, rfl, rfl, by show PyData.depth (.int st) ≤ 60; rw [PyData.depth]; omega, by simp [PyData.eqv]⟩
  have hh : HitsD K H (plainK t2 r2 l2 st) (plainK t r l st) (true && (decide (rs1 = rs2) && (decide (ss1 = ss2) && (true && true)))) :=
    .cons (pk_deeds _ _ _ _) e1 (.cons (pk_rows _ _ _ _) e2 (.cons (pk_tells _ _ _ _) e3 (.cons (pk_start _ _ _ _) e4 .nil)))
  refine ⟨p, q, _, _, _, rfl, rfl, ep, ep2, rfl, hh, ?_⟩
  have eb : (true && (decide (rs1 = rs2) && (decide (ss1 = ss2) && (true && true)))) = decide (rs1 = rs2 ∧ ss1 = ss2) := by
    by_cases h1 : rs1 = rs2 <;> by_cases h2 : ss1 = ss2 <;> simp [h1, h2]
  rw [eb]; exact k
abbrev nLaw : List Str := ["_law_script", "_law_pen_here", "_law_turn", "_law_deeds", "_law_plain_here", "_law_made_here", "_law_core_here", "_law_core_of", "_law_other", "_law_bent", "_law_at"]
theorem scLaw : FnScope nLaw ["_law_script"] (defScope sLaw) := ⟨rfl, rfl, rfl, by decide +kernel, rfl, by decide +kernel, by decide +kernel⟩
def spLaw (K : PySem.W.Frag) : Sp := fun vs H Q _ => ∃ (a : Addr) (ns : List Int), vs = [.ref a] ∧ SqL K H a (ns.map V.int) ∧ ns.length ≤ 63 ∧ ∀ H', Q (.bl true) H'
section
variable {P : Program} {w : World} {K : PySem.W.Frag} {mg : Str → Option Value} {base : Heap} {C CO : Addr}
theorem ok_law (F : Fs P w K mg base C CO) {f : Addr} {fd : FuncData} (FL : Fun K "law" "law" sLaw f fd) : FnOk P w K mg base CX0 8 f fd ["_law_script"] (spLaw K) := by
  obtain ⟨T2, M, ⟨fE, fdE, mgE, kpE, bE, GE⟩, ⟨fD, fdD, mgD, kpD, bD, GD⟩, ⟨fW, fdW, mgW, kpW, bW, GW⟩, ⟨fL, fdL, mgL, kpL, bL, GL⟩, ⟨fM, fdM, mgM, kpM, bM, GM⟩, ⟨fC, fdC, mgC, kpC, bC, GC⟩, ⟨fI, fdI, mgI, kpI, bI, GI⟩, ⟨fO, fdO, mgO, kpO, bO, GO⟩, ⟨fA, fdA, MA, bA, GA⟩, ⟨fS, fdS, MS, bS, GS⟩, ⟨fQ, fdQ, OE, bQ, GQ⟩⟩ := F
  have T1 : Bt mg := T2.toBt
  refine FL.ok scLaw (fun vs H Q E h => ?_) (fun cdv A outer s H vs Q E hr h => ?_)
  · obtain ⟨a, ns, rfl, _⟩ := h
    rfl
  · obtain ⟨a, ns, rfl, ha, hns, k⟩ := h
    have hu := hu_of hr
    have hr1 : Room 1 (cxOf CX0 P w K mg base nLaw "law" (defScope sLaw) f cdv A outer s H E).nox.A := hr.mono (by decide)
    have hr2 : Room 2 (cxOf CX0 P w K mg base nLaw "law" (defScope sLaw) f cdv A outer s H E).nox.A := hr.mono (by decide)
    have hr3 : Room 3 (cxOf CX0 P w K mg base nLaw "law" (defScope sLaw) f cdv A outer s H E).nox.A := hr.mono (by decide)
    refine ⟨_, pss_cons (ps_set (i := 1) scLaw.nd rfl (Or.inl rfl) (pe_call GE hr1 rfl mgE kpE bE .nil pass0 (pa_cons (pv 0) pa_nil)))
      (pss_cons (ps_for PassesOwn.never rfl (pi_range1 rfl T1.range (pa_cons (pe_op op_add pe_int (pe_callB (call_min2 rfl) (by rfl) T2.min PyProof.Rows.boot_min (pa_cons pe_int (pa_cons (pe_callB call_len (by rfl) T1.len PySem.boot_len (pa_cons (pv 0) pa_nil)) pa_nil)))) pa_nil)) (pg_name (i := 2) scLaw.nd rfl (Or.inl rfl))
        (pss_cons (ps_set (i := 3) scLaw.nd rfl (Or.inl rfl) (pe_call GW hr3 rfl mgW kpW bW .nil pass0 (pa_cons (pv 1) (pa_cons (pe_op op_add pe_int (pe_call GD hr1 rfl mgD kpD bD .nil pass0 (pa_cons (pv 1) (pa_cons pe_int pa_nil)))) pa_nil))))
        (pss_cons (ps_set (i := 4) scLaw.nd rfl (Or.inl rfl) (pe_call GL hr3 rfl mgL kpL bL .nil pass0 (pa_cons (pv 1) (pa_cons (pv 3) (pa_cons pe_int (pa_cons (pe_lst (pa_cons pe_str (pa_cons pe_str pa_nil))) pa_nil))))))
        (pss_cons (ps_par (i := 5) (j := 6) (by rfl) scLaw.nd rfl rfl (by decide) rfl rfl (pa_cons (pe_call GM hr rfl mgM kpM bM .nil pass0 (pa_cons (pv 4) pa_nil)) (pa_cons (pe_call GC hr3 rfl mgC kpC bC .nil pass0 (pa_cons (pv 4) pa_nil)) pa_nil)) (by rfl))
        (pss_cons (ps_set (i := 7) scLaw.nd rfl (Or.inl rfl) (pe_meth0 (pv 5) M.cl MS GS hr bS .nil pass0))
        (pss_cons (ps_if (PW.pt (pw_or (pt_not (pt_val (pe_call GI hr3 rfl mgI kpI bI .nil pass0 (pa_cons (pv 7) (pa_cons (pv 6) pa_nil))))) (pw_or1 (pt_cmpR (op_neOwn OE GQ hr2 bQ pass0) (pe_meth0 (pv 7) M.cl MS GS hr bS .nil pass0) (pv 7) (nomark _))))) (pss_one (ps_ret pe_bl)) pss_nil)
        (pss_cons (ps_if (pt_not (pt_val (pe_call GI hr3 rfl mgI kpI bI .nil pass0 (pa_cons (pv 5) (pa_cons (pv 4) pa_nil))))) (pss_one (ps_ret pe_bl)) pss_nil)
        (pss_cons (ps_set (i := 8) scLaw.nd rfl (Or.inl rfl) (pe_call GM hr rfl mgM kpM bM .nil pass0 (pa_cons (pe_call GO hr3 rfl mgO kpO bO .nil pass0 (pa_cons (pv 1) (pa_cons (pv 4) pa_nil))) pa_nil)))
        (pss_cons (ps_if (PW.pt (pw_or (pt_cmpR (op_neOwn OE GQ hr2 bQ pass0) (pe_meth0 (pv 8) M.cl MS GS hr bS .nil pass0) (pv 7) (nomark _)) (pw_or (pt_cmpR (op_eqOwn OE GQ hr1 bQ pass0) (pv 8) (pv 7) (nomark _))
            (pw_or1 (pt_cmpR op_notN (pe_meth (pv 8) M.cl MA GA hr3 bA .nil passL (pa_cons (pv 5) pa_nil)) pe_non (nomark _)))))) (pss_one (ps_ret pe_bl)) pss_nil)
        (pss_cons (ps_set (i := 9) scLaw.nd rfl (Or.inl rfl) (pe_disp (pps_cons pe_str (pe_dget hu (pv 4) pe_str (fun _ _ => rfl)) (pps_cons pe_str (pe_dget hu (pv 4) pe_str (fun _ _ => rfl))
            (pps_cons pe_str (pe_callTy (r := rLi K) call_list_of (by rfl) T1.list PyProof.Rows.boot_list (pa_cons (pe_dget hu (pv 4) pe_str (fun _ _ => rfl)) pa_nil)) (pps_cons pe_str (pe_dget hu (pv 4) pe_str (fun _ _ => rfl)) pps_nil)))) (by rfl) (by rfl) (fun z => by cases z) (by decide)))
        (pss_cons (ps_set (i := 10) scLaw.nd rfl (Or.inl rfl) (pe_call GD hr1 rfl mgD kpD bD .nil pass0 (pa_cons (pv 1) (pa_cons (pe_callB call_len (by rfl) T1.len PySem.boot_len (pa_cons (pe_dget hu (pv 4) pe_str (fun _ _ => rfl)) pa_nil)) pa_nil))))
        (pss_cons (ps_asg (pe_ifExp (pt_cmpR op_eq (pe_ix ix_list (pe_dget hu (pv 9) pe_str (fun _ _ => rfl)) (pv 10) (fun _ _ => rfl)) pe_str (nomark _)) pe_str pe_str) (pg_sub (pe_dget hu (pv 9) pe_str (fun _ _ => rfl)) (pv 10) set_list))
        (pss_one (ps_if (pt_cmpR op_ne (pe_cmpR (op_eqOwn OE GQ hr1 bQ pass0) (pe_meth0 (pe_call GM hr rfl mgM kpM bM .nil pass0 (pa_cons (pv 9) pa_nil)) M.cl MS GS hr bS .nil pass0) (pv 7) (nomark _))
            (pe_cmpR (r := rEqDk K) (op_eqDk hr.units) (pe_call GC hr3 rfl mgC kpC bC .nil pass0 (pa_cons (pv 9) pa_nil)) (pv 6) (nomark _)) (nomark _)) (pss_one (ps_ret pe_bl)) pss_nil))))))))))))))
      (pss_one (ps_ret pe_bl))), ?_⟩
    refine ⟨_, rfl, a, ns, rfl, ha, hns, fun d cc Hs hd0 hc0 hpen0 sm0 => ?_⟩
    refine ⟨_, rfl, _, ns.length, rfl, .inl ⟨_, sm0.seq ha, (List.length_map _).symm⟩, _, _, rfl, _, _, rfl, rfl, ?_⟩
    obtain ⟨J, eJ, hJ⟩ : ∃ J : Nat, (3 + (if (ns.length : Int) < 4 then (ns.length : Int) else 4)) = (J : Int) ∧ J ≤ 7 := by
      by_cases h : (ns.length : Int) < 4
      · rw [if_pos h]; exact ⟨3 + ns.length, by omega, by omega⟩
      · rw [if_neg h]; exact ⟨7, by omega, by omega⟩
    refine ⟨(J : Int), by rw [← eJ], by omega, by omega, ?_⟩
    rw [Int.toNat_natCast]
    refine for_range (lo := 0) (n := J) (fun i σ H' => ∃ (v2 v3 v4 v5 v6 v7 v8 v9 v10 : Option V) (n : Nat), σ = [some (.ref a), some (.ref d), v2, v3, v4, v5, v6, v7, v8, v9, v10] ∧ PenAt H' d cc n ∧ n ≤ 2000 * i) ?_ ?_ ?_
    · exact ⟨_, _, _, _, _, _, _, _, _, 0, rfl, hpen0, Nat.le_refl _⟩
    · rintro i σ H1 hi ⟨v2, v3, v4, v5, v6, v7, v8, v9, v10, n, rfl, hp1, hn⟩
      -- deeds
      refine ⟨_, rfl, _, rfl, d, cc, n, 3, rfl, hp1, by omega, by decide, by decide, fun r0 H2 r00 r01 hp2 kp2 => ⟨_, _, rfl, rfl, ?_⟩⟩
      obtain ⟨M', eM, hM'⟩ : ∃ M' : Nat, 1 + r0 = (M' : Int) ∧ (1 ≤ M' ∧ M' ≤ 3) := ⟨(1 + r0).toNat, by omega, by omega, by omega⟩
      refine ⟨d, cc, n + 1, M', by show [V.ref d, V.int (1 + r0)] = _; rw [eM], hp2, by omega, by omega, fun dl ws H3 hdl0 hdl3 hwl hnd hwd heq hp3 kp3 => ?_⟩
      have gd : GoodD ws := ⟨hnd, hwd, by omega, by omega⟩
      have ndl : dl ≠ d := (hp2.ne hdl0).1
      have ows : OkS ws := ok_wd gd.wd
      -- plain
      refine ⟨_, rfl, _, rfl, Nat.le_of_ble_eq_true rfl, fun lm hlm => ?_⟩
      have s4 := same_upd (o := .lst [V.str "yes", V.str "no"]) hlm
      have hlm4 : upd H3 lm (.lst [V.str "yes", V.str "no"]) lm = some (.lst (menu.map V.str)) := upd_same
      have nlm := (hp3.ne hlm).1
      have hp4 := hp3.same s4
      have hdl4 := s4 _ _ hdl3
      generalize upd H3 lm (.lst [V.str "yes", V.str "no"]) = H4 at s4 hlm4 hp4 hdl4 ⊢
      refine ⟨d, cc, dl, lm, _, 5, ws, menu, rfl, hp4, by omega, SqL.of hdl4, ndl, by omega, SqL.of hlm4, nlm, by decide, by decide, by decide, by decide, fun p rs ss st H5 hp0 pl gp hm4 hp5 kp5 => ?_⟩
      have npd := (hp4.ne hp0).1
      have pt : Parts ws rs ss st := ⟨gd, ⟨gp.many.1, by have := gp.many.2; omega⟩, gp.row, ⟨gp.tl.1, fun z hz => menu_tl (gp.tl.2 z hz)⟩, gp.st⟩
      have oss : OkS ss := ok_tl pt.tl.2
      have hall := allU_small ws.length (by omega) rs.length (by omega)
      have n1 := pt.many.1
      clear kp2 kp3 kp5 hdl3 s4 hlm4 hp3 hp4 hdl4 hlm hdl0 hp2 hp1
      -- made, core
      refine ⟨_, rfl, p, ws, rs, ss, st, rfl, pl, pt, fun x H6 hx0 macx s6 => ?_⟩
      refine ⟨_, rfl, p, ws, rs, ss, st, rfl, pl.same s6, pt, hall, fun q H7 lr lt lm1 ptL hq0 s7 plq => ⟨_, _, rfl, ?_⟩⟩
      have olt : OkS lt := ok_tl ptL.tl.2
      have l60 := ptL.many.2
      -- core_of
      have mx7 := macx.same s7
      obtain ⟨dx7, _, _, _, _, gx7, _⟩ := id mx7
      refine ⟨_, rfl, x, dx7, _, rfl, gx7, mf_no _ _ _ _ (by decide +kernel) (by decide +kernel) (by decide +kernel) (by decide +kernel), x, ws, rs, ss, st, rfl, mx7, pt, fun y1 H8 lr1 lt1 lmy _ hy1 s8 my8 => ?_⟩
      obtain ⟨rfl, rfl⟩ := lmy.unique lm1 fun _ _ => rfl
      -- is_machine(core_of, core_here)
      refine ⟨_, rfl, _, rfl, y1, q, ws, lr1.map intL, lt1, 0, rfl, my8, plq.same s8, ows, olt, l60, fun H9 s9 => ?_⟩
      refine ⟨true, rfl, ?_⟩
      refine iteF ?_
      -- its least machine
      have my9 := my8.same s9
      obtain ⟨dy9, _, _, _, _, gy9, _⟩ := id my9
      refine ⟨_, rfl, y1, dy9, _, rfl, gy9, mf_no _ _ _ _ (by decide +kernel) (by decide +kernel) (by decide +kernel) (by decide +kernel), y1, ws, _, lt1, 0, rfl, my9, ptL, fun y2 H10 lr2 lt2 lm2 _ hy2 s10 m2 => ?_⟩
      obtain ⟨rfl, rfl⟩ := lm2.unique lm1 fun v hv => twM_least lm1 hv
      have my10 := my9.same s10
      obtain ⟨da, _, _, _, _, ga, _⟩ := id m2
      obtain ⟨db, _, _, _, _, gb, _⟩ := id my10
      refine ⟨_, rfl, y2, y1, da, db, _, _, rfl, rfl, ga, gb, y2, y1, ws, ws, _, _, lt2, lt2, 0, 0, rfl, m2, my10, ows, ows, olt, olt, _, rfl, ?_⟩
      rw [decide_eq_true (⟨rfl, rfl, rfl, rfl⟩ : ws = ws ∧ lr2.map intL = lr2.map intL ∧ lt2 = lt2 ∧ (0 : Int) = 0)]
      refine ⟨_, rfl, ?_⟩
      refine iteF ?_
      -- is_machine(made, plain)
      have s610 := ((s7.trans s8).trans s9).trans s10
      have mx10 := macx.same s610
      have pl10 := (pl.same s6).same s610
      refine ⟨_, rfl, _, rfl, x, p, ws, rs, ss, st, rfl, mx10, pl10, ows, oss, by omega, fun H11 s11 => ?_⟩
      refine ⟨true, rfl, ?_⟩
      refine iteF ?_
      have pl11 := pl10.same s11
      have hp11 := ((hp5.same s6).same s610).same s11
      have my11 := my10.same s11
      have mx11 := mx10.same s11
      have plq11 := (((plq.same s8).same s9).same s10).same s11
      clear mx7 gx7 my8 my9 gy9 m2 ga gb mx10 pl10 my10 lmy
      -- the other way
      refine ⟨_, rfl, _, rfl, d, cc, p, _, ws, rs, ss, st, rfl, hp11, by omega, pl11, npd, pt, by omega, fun p2 rs' ss' st' H12 hp20 plo pto hlost htell hp12 k12 => ?_⟩
      obtain ⟨kv11, hd11⟩ := hp11.dk
      have pl12 := pl11.kd hd11 npd k12
      have my12 := my11.kd hd11 k12
      have mx12 := mx11.kd hd11 k12
      have nqd : q ≠ d := by
        intro z
        obtain ⟨tq, rq, lq, asq, eq, _⟩ := id plq
        have h1 := ((hp5.same s6).ne hq0).1
        exact h1 z
      have plq12 := plq11.kd hd11 nqd k12
      refine ⟨p2, ws, rs', ss', st', rfl, plo, pto, fun o H13 ho0 maco s13 => ?_⟩
      have oso : OkS ss' := ok_tl pto.tl.2
      obtain ⟨do1, _, _, _, _, go1, _⟩ := id maco
      refine ⟨_, rfl, o, do1, _, rfl, go1, mf_no _ _ _ _ (by decide +kernel) (by decide +kernel) (by decide +kernel) (by decide +kernel), o, ws, rs', ss', st', rfl, maco, pto, fun y3 H14 lr3 lt3 lm3 _ hy3 s14 m3 => ?_⟩
      obtain ⟨rfl, rfl⟩ := lm3.unique lm1 fun v hv => htell v hv
      have s1314 := s13.trans s14
      have my14 := my12.same s1314
      obtain ⟨da, _, _, _, _, ga, _⟩ := id m3
      obtain ⟨db, _, _, _, _, gb, _⟩ := id my14
      refine ⟨_, rfl, y3, y1, da, db, _, _, rfl, rfl, ga, gb, y3, y1, ws, ws, _, _, lt3, lt3, 0, 0, rfl, m3, my14, ows, ows, olt, olt, _, rfl, ?_⟩
      rw [decide_eq_true (⟨rfl, rfl, rfl, rfl⟩ : ws = ws ∧ lr3.map intL = lr3.map intL ∧ lt3 = lt3 ∧ (0 : Int) = 0)]
      refine ⟨_, rfl, ?_⟩
      refine iteF ?_
      have mo14 := maco.same s14
      obtain ⟨dc, _, _, _, _, gc, _⟩ := id mo14
      refine ⟨_, rfl, _, rfl, o, y1, dc, db, _, _, rfl, rfl, gc, gb, o, y1, ws, ws, _, _, ss', lt3, st', 0, rfl, mo14, my14, ows, ows, oso, olt, _, rfl, ?_⟩
      have nelost : ¬ (ws = ws ∧ rs' = lr3.map intL ∧ ss' = lt3 ∧ st' = 0) := fun e => by
        have h1 := hlost
        rw [e.2.2.1] at h1
        have h2 := lm_tells lm1 (fun v hv => tw_in pt v hv) _ h1
        have h3 := gp.tl.2 _ h2
        simp only [menu, List.mem_cons, List.not_mem_nil, or_false] at h3
        rcases h3 with h3 | h3
        · exact absurd h3 (by decide +kernel)
        · exact absurd h3 (by decide +kernel)
      rw [decide_eq_false nelost]
      refine ⟨_, rfl, ?_⟩
      refine iteF ?_
      have mx14 := mx12.same s1314
      refine ⟨_, rfl, o, dc, _, rfl, gc, mf_no _ _ _ _ (by decide +kernel) (by decide +kernel) (by decide +kernel) (by decide +kernel), _, rfl, ?_⟩
      (try delta tCons); (try delta tC); (try delta tNil); (try delta tOp); (try delta tVar)
      show spPart K C CO [.ref o, .ref x] H14 _ _
      have hnow : NoW ws.length (runT [rs', rs] [st', st]) ss' ss := noW_iff.mpr fun v hv => htell v hv
      refine ⟨o, x, ws, rs', ss', st', ws, rs, ss, st, rfl, mo14, mx14, pto, pt, ows, ows, fun h => absurd rfl h, fun _ => ⟨fun u p1 G hf _ _ _ => absurd (hf.symm.trans (hnow u.length)) (by simp), fun H15 _ s15 => ?_⟩⟩
      refine ⟨rfl, _, rfl, ?_⟩
      refine iteF ?_
      have s1315 := s1314.trans s15
      have pl15 := pl12.same s1315
      have my15 := my12.same s1315
      have plq15 := plq12.same s1315
      have hp15 := hp12.same s1315
      clear my14 ga gb gc go1 mo14 mx14 mx12 pl12 plq12 my12 nelost
      -- bent
      obtain ⟨t, r, l, as, ep, et, er, el, hR⟩ := id pl15
      intro b hb
      have zb : b ≠ d := (hp15.ne hb).1
      have s16 := same_upd (o := .dK []) hb
      have eb16 : upd H15 b (.dK []) b = some (.dK []) := upd_same
      generalize upd H15 b (.dK []) = H16 at s16 eb16 ⊢
      refine ⟨_, rfl, p, _, rfl, gDeeds (s16 _ _ ep), _, rfl, p, _, rfl, gRows (s16 _ _ ep), _, rfl, p, _, rfl, gTells (s16 _ _ ep), l, _, rfl, .inl (SqL.of (s16 _ _ el)), fun l2 hl2 => ?_⟩
      have s17 := same_upd (o := .lst (ss.map V.str)) hl2
      have el2 : upd H16 l2 (.lst (ss.map V.str)) l2 = some (.lst (ss.map V.str)) := upd_same
      have nl2b : l2 ≠ b := ne_of el2 (s17 _ _ eb16) (by intro z; cases z)
      have zl2 : H15 l2 = none := s16.free hl2
      have nl2d := hp15.ne zl2
      generalize upd H16 l2 (.lst (ss.map V.str)) = H17 at s17 el2 ⊢
      have s1517 := s16.trans s17
      refine ⟨_, rfl, p, _, rfl, gStart (s1517 _ _ ep), s17 _ _ eb16, plainK t r l2 st, rfl, Nat.le_of_ble_eq_true rfl, ?_⟩
      rw [plainK_merge]
      have eb17 := s17 _ _ eb16
      have s18 : Same H15 (upd H17 b (.dK (plainK t r l2 st))) := fun z o e => by rw [upd_ne (ne_of_none e hb)]; exact s1517 _ _ e
      have eb18 : upd H17 b (.dK (plainK t r l2 st)) b = some (.dK (plainK t r l2 st)) := upd_same
      have el18 : upd H17 b (.dK (plainK t r l2 st)) l2 = some (.lst (ss.map V.str)) := by rw [upd_ne nl2b]; exact el2
      generalize upd H17 b (.dK (plainK t r l2 st)) = H18 at s18 eb18 el18 ⊢
      have hp18 := hp15.same s18
      have n2 := gp.st
      refine ⟨_, rfl, _, rfl, p, _, rfl, gRows (s18 _ _ ep), _, rs.length, rfl, .inl ⟨_, SqL.of (s18 _ _ er), by rw [List.length_map, hR.1]⟩, d, cc, _, (rs.length : Int), rfl, hp18, by omega, by omega, by omega, fun xa H19 x0 x1 hp19 k19 => ?_⟩
      obtain ⟨j, rfl, hj⟩ : ∃ j : Nat, xa = (j : Int) ∧ j < rs.length := ⟨xa.toNat, by omega, by omega⟩
      obtain ⟨kv18, hd18⟩ := hp18.dk
      have pl19 := (pl15.same s18).kd hd18 npd k19
      have my19 := (my15.same s18).kd hd18 k19
      have plq19 := (plq15.same s18).kd hd18 nqd k19
      have eb19 := k19 _ _ eb18 zb
      have el19 := k19 _ _ el18 nl2d.1
      have nl2l : l2 ≠ l := fun z => by rw [z] at zl2; rw [zl2] at el; cases el
      have nl2q : ∀ {u : Addr} {o : HO}, H15 u = some o → u ≠ l2 := fun e => ne_of_none e zl2
      obtain ⟨tq, rq, lq, asq, epq, etq, erq, elq, hRq⟩ := id plq15
      refine ⟨_, rfl, b, _, rfl, gTells eb19, _, rfl, l2, _, (j : Int), _, rfl, rfl, SqL.of el19, at_deed (by omega) (by rw [pt.tl.1]; omega), rfl, _, rfl, ?_⟩
      refine ite2 (fun _ => ?_) (fun _ => ?_)
      · have hz : ("no" : Str) ∈ menu := by simp [menu]
        refine ⟨_, rfl, b, _, rfl, gTells eb19, _, rfl, l2, _, _, j, rfl, rfl, el19, by rw [List.length_map, pt.tl.1]; unfold ixN; rw [if_pos (by omega), if_pos (by omega)]; simp, ?_⟩
        rw [← List.map_set (f := V.str)]
        have pt2 : Parts ws rs (ss.set j "no") st := ⟨gd, pt.many, pt.row, ⟨by rw [List.length_set]; exact pt.tl.1, fun z hz' => by
          rcases mem_set hz' with rfl | h
          · exact menu_tl hz
          · exact pt.tl.2 z h⟩, pt.st⟩
        have up : ∀ {z : Addr} {o : HO}, H15 z = some o → (z ≠ d) → upd H19 l2 (.lst ((ss.set j "no").map V.str)) z = some o := fun {z o} e nd => by
          rw [upd_ne (nl2q e)]
          exact k19 _ _ (s18 _ _ e) nd
        have upF : ∀ {z : Addr} {xs : List V}, SqF H15 z xs → z ≠ d → SqF (upd H19 l2 (.lst ((ss.set j "no").map V.str))) z xs := fun {z xs} h nd => by
          obtain ⟨o, ho, hd⟩ := h
          exact ⟨o, up ho nd, hd⟩
        have nel : ∀ {z : Addr} {xs : List V}, H15 z = some (.lst xs) → z ≠ d := fun e z => by
          obtain ⟨kv15, hd15⟩ := hp15.dk
          rw [z, hd15] at e; cases e
        have neF : ∀ {z : Addr} {xs : List V}, SqF H15 z xs → z ≠ d := fun h z => by
          obtain ⟨kv15, hd15⟩ := hp15.dk
          obtain ⟨o, ho, _⟩ := h
          rw [z, hd15] at ho; cases ho
        have plb : PlainAt (upd H19 l2 (.lst ((ss.set j "no").map V.str))) b ws rs (ss.set j "no") st :=
          ⟨t, r, l2, as, by rw [upd_ne nl2b.symm]; exact eb19, upF et (neF et), up er (nel er), upd_same, ⟨hR.1, fun i a u e1 e2 => up (hR.2 i a u e1 e2) (nel (hR.2 i a u e1 e2))⟩⟩
        have plqK : PlainAt (upd H19 l2 (.lst ((ss.set j "no").map V.str))) q ws (lr3.map intL) lt3 0 :=
          ⟨tq, rq, lq, asq, up epq nqd, upF etq (neF etq), up erq (nel erq), up elq (nel elq), ⟨hRq.1, fun i a u e1 e2 => up (hRq.2 i a u e1 e2) (nel (hRq.2 i a u e1 e2))⟩⟩
        have myK := my19.kl (ys := (ss.set j "no").map V.str) el19
        have hp20 := hp19.upd (o := .lst ((ss.set j "no").map V.str)) nl2d.1 nl2d.2
        generalize upd H19 l2 (.lst ((ss.set j "no").map V.str)) = H20 at plb plqK myK hp20 ⊢
        clear up upF nel neF
        refine ⟨_, rfl, b, ws, rs, _, st, rfl, plb, pt2, fun x2 H21 hx2 mac2 s21 => ?_⟩
        obtain ⟨d2, _, _, _, _, g2, _⟩ := id mac2
        refine ⟨x2, d2, _, rfl, g2, mf_no _ _ _ _ (by decide +kernel) (by decide +kernel) (by decide +kernel) (by decide +kernel), x2, ws, rs, _, st, rfl, mac2, pt2, fun y4 H22 lr4 lt4 lm4 pl4 hy4 s22 m4 => ?_⟩
        have s2022 := s21.trans s22
        have myL := myK.same s2022
        obtain ⟨da, _, _, _, _, ga, _⟩ := id m4
        obtain ⟨db, _, _, _, _, gb, _⟩ := id myL
        refine ⟨_, rfl, y4, y1, da, db, _, _, rfl, rfl, ga, gb, y4, y1, ws, ws, _, _, lt4, lt3, 0, 0, rfl, m4, myL, ows, ows, ok_tl pl4.tl.2, olt, _, rfl, ?_⟩
        refine ⟨_, rfl, b, ws, rs, _, st, rfl, plb.same s2022, pt2, hall, fun q4 H23 lr5 lt5 lm5 pl5 hq4 s23 plq4 => ?_⟩
        obtain ⟨rfl, rfl⟩ := lm5.unique lm4 fun _ _ => rfl
        refine ⟨_, rfl, ?_⟩
        refine plains_eq plq4 ((plqK.same s2022).same s23) ows (ok_tl pl5.tl.2) olt ?_
        refine ⟨rfl, _, rfl, ?_⟩
        have ebb : decide (ws = ws ∧ lr5.map intL = lr3.map intL ∧ lt5 = lt3 ∧ (0 : Int) = 0) = decide (lr5.map intL = lr3.map intL ∧ lt5 = lt3) := decide_eq_decide.mpr ⟨fun e => ⟨e.2.1, e.2.2.1⟩, fun e => ⟨rfl, e.1, e.2, rfl⟩⟩
        rw [ebb]
        refine ite2 (fun h => absurd h (by simp)) (fun _ => ?_)
        exact ⟨_, _, _, _, _, _, _, _, _, _, rfl, (hp20.same s2022).same s23, by omega⟩
      · have hz : ("yes" : Str) ∈ menu := by simp [menu]
        refine ⟨_, rfl, b, _, rfl, gTells eb19, _, rfl, l2, _, _, j, rfl, rfl, el19, by rw [List.length_map, pt.tl.1]; unfold ixN; rw [if_pos (by omega), if_pos (by omega)]; simp, ?_⟩
        rw [← List.map_set (f := V.str)]
        have pt2 : Parts ws rs (ss.set j "yes") st := ⟨gd, pt.many, pt.row, ⟨by rw [List.length_set]; exact pt.tl.1, fun z hz' => by
          rcases mem_set hz' with rfl | h
          · exact menu_tl hz
          · exact pt.tl.2 z h⟩, pt.st⟩
        have up : ∀ {z : Addr} {o : HO}, H15 z = some o → (z ≠ d) → upd H19 l2 (.lst ((ss.set j "yes").map V.str)) z = some o := fun {z o} e nd => by
          rw [upd_ne (nl2q e)]
          exact k19 _ _ (s18 _ _ e) nd
        have upF : ∀ {z : Addr} {xs : List V}, SqF H15 z xs → z ≠ d → SqF (upd H19 l2 (.lst ((ss.set j "yes").map V.str))) z xs := fun {z xs} h nd => by
          obtain ⟨o, ho, hd⟩ := h
          exact ⟨o, up ho nd, hd⟩
        have nel : ∀ {z : Addr} {xs : List V}, H15 z = some (.lst xs) → z ≠ d := fun e z => by
          obtain ⟨kv15, hd15⟩ := hp15.dk
          rw [z, hd15] at e; cases e
        have neF : ∀ {z : Addr} {xs : List V}, SqF H15 z xs → z ≠ d := fun h z => by
          obtain ⟨kv15, hd15⟩ := hp15.dk
          obtain ⟨o, ho, _⟩ := h
          rw [z, hd15] at ho; cases ho
        have plb : PlainAt (upd H19 l2 (.lst ((ss.set j "yes").map V.str))) b ws rs (ss.set j "yes") st :=
          ⟨t, r, l2, as, by rw [upd_ne nl2b.symm]; exact eb19, upF et (neF et), up er (nel er), upd_same, ⟨hR.1, fun i a u e1 e2 => up (hR.2 i a u e1 e2) (nel (hR.2 i a u e1 e2))⟩⟩
        have plqK : PlainAt (upd H19 l2 (.lst ((ss.set j "yes").map V.str))) q ws (lr3.map intL) lt3 0 :=
          ⟨tq, rq, lq, asq, up epq nqd, upF etq (neF etq), up erq (nel erq), up elq (nel elq), ⟨hRq.1, fun i a u e1 e2 => up (hRq.2 i a u e1 e2) (nel (hRq.2 i a u e1 e2))⟩⟩
        have myK := my19.kl (ys := (ss.set j "yes").map V.str) el19
        have hp20 := hp19.upd (o := .lst ((ss.set j "yes").map V.str)) nl2d.1 nl2d.2
        generalize upd H19 l2 (.lst ((ss.set j "yes").map V.str)) = H20 at plb plqK myK hp20 ⊢
        clear up upF nel neF
        refine ⟨_, rfl, b, ws, rs, _, st, rfl, plb, pt2, fun x2 H21 hx2 mac2 s21 => ?_⟩
        obtain ⟨d2, _, _, _, _, g2, _⟩ := id mac2
        refine ⟨x2, d2, _, rfl, g2, mf_no _ _ _ _ (by decide +kernel) (by decide +kernel) (by decide +kernel) (by decide +kernel), x2, ws, rs, _, st, rfl, mac2, pt2, fun y4 H22 lr4 lt4 lm4 pl4 hy4 s22 m4 => ?_⟩
        have s2022 := s21.trans s22
        have myL := myK.same s2022
        obtain ⟨da, _, _, _, _, ga, _⟩ := id m4
        obtain ⟨db, _, _, _, _, gb, _⟩ := id myL
        refine ⟨_, rfl, y4, y1, da, db, _, _, rfl, rfl, ga, gb, y4, y1, ws, ws, _, _, lt4, lt3, 0, 0, rfl, m4, myL, ows, ows, ok_tl pl4.tl.2, olt, _, rfl, ?_⟩
        refine ⟨_, rfl, b, ws, rs, _, st, rfl, plb.same s2022, pt2, hall, fun q4 H23 lr5 lt5 lm5 pl5 hq4 s23 plq4 => ?_⟩
        obtain ⟨rfl, rfl⟩ := lm5.unique lm4 fun _ _ => rfl
        refine ⟨_, rfl, ?_⟩
        refine plains_eq plq4 ((plqK.same s2022).same s23) ows (ok_tl pl5.tl.2) olt ?_
        refine ⟨rfl, _, rfl, ?_⟩
        have ebb : decide (ws = ws ∧ lr5.map intL = lr3.map intL ∧ lt5 = lt3 ∧ (0 : Int) = 0) = decide (lr5.map intL = lr3.map intL ∧ lt5 = lt3) := decide_eq_decide.mpr ⟨fun e => ⟨e.2.1, e.2.2.1⟩, fun e => ⟨rfl, e.1, e.2, rfl⟩⟩
        rw [ebb]
        refine ite2 (fun h => absurd h (by simp)) (fun _ => ?_)
        exact ⟨_, _, _, _, _, _, _, _, _, _, rfl, (hp20.same s2022).same s23, by omega⟩
    · rintro σ H1 ⟨v2, v3, v4, v5, v6, v7, v8, v9, v10, n, rfl, hp1, hn⟩
      exact k H1
end
end K1
set_option Elab.async false
set_option linter.all false
set_option maxRecDepth 100000
/-! the end of a law whose defs make lambdas: the tables of all defs -/
namespace K1
open PySem PySem.Spec PyProof.Rows L2 LamX
/-- the code object of each def of the text and its table, still empty -/
def OwnTabs (q : Program) (mg : Str → Option Value) (h : Heap) : Prop :=
  ∀ e ∈ recsOf q, ∃ (f : Addr) (o : Obj) (fd : FuncData) (c P : Addr), mg e.name = some (.ref f) ∧ h.get? f = some o ∧ o.data = .func fd ∧ fd.code = .ref c ∧ PySem.W.CodeHd h c P ∧ h.get? P = some { cls := .none, data := .fields #[] }
theorem tab_at {q : Program} {mg : Str → Option Value} {K : PySem.W.Frag} {h : Heap} {x : Str} {f c P : Addr} {oc e : Value} {od dd : Option Addr} {fd : FuncData} {sl s2 : Array (Option Value)} {vs : Array Value} (X : K.In h) (O : OwnTabs q mg h) (hx : ((recsOf q).any fun e => e.name == x) = true)
    (g : mg x = some (.ref f)) (l : K.lookup f = some ⟨oc, od, .func fd, sl⟩) (hc : fd.code = .ref c) (lc : K.lookup c = some ⟨e, dd, .fields vs, s2⟩) (h11 : vs[11]? = some (.ref P)) : PySem.W.CodeHd h c P ∧ h.get? P = some { cls := .none, data := .fields #[] } := by
  obtain ⟨r, hr, er⟩ := List.any_eq_true.mp hx
  obtain ⟨f', o, fd', c', P', a1, a2, a3, a4, a5, a6⟩ := O r hr
  rw [beq_iff_eq.mp er, g] at a1
  cases a1
  rw [X _ _ l] at a2
  cases a2
  cases a3
  rw [hc] at a4
  cases a4
  obtain ⟨o, ws, _, _, _, _, _, _, _, b1, _, b3, b4, _⟩ := id a5
  rw [X _ _ lc] at b1
  cases b1
  cases b3
  rw [h11] at b4
  cases b4
  exact ⟨a5, a6⟩
theorem walk_tabs {l : PySem.W.OpenLaw} {n k : Nat} {q : Program} {loose : List Str} {XP : (Str → Option Value) → Heap → Prop} {YP : World → Heap → Prop} {d : DefRec} {K : Params → PySem.W.Frag} {CX : World → CXT} {x : Str}
    (hn : l.most = some n) (hs : n ≤ sizeLine) (hd : d.params.defaults = []) (hr : Room k callerA) (hY : ∀ (w : World) (h : Heap), YP w h → (K w.params).In h)
    (F : ∀ (w : World) (mg : Str → Option Value) (fa : Addr) (h : Heap), YP w h → (K w.params).In h → h.Ns mainGlobals mg → mg d.name = some (.ref fa) → OwnTabs q mg h → LawAtS l w (K w.params) (CX w) k n x mg fa h)
    (hC : ∀ (w : World) (H : Hp) (s : Shared) (e : Value) (s' : Shared), CX w [] H s (fun _ _ _ => False) e s' → False) :
    PySem.W.WalkO q loose XP YP l.row.toRowW d [] (fun f vs => PySem.call f vs) := by
  refine Att.attach_callB hn hd ?_
  intro w s₀ s₁ mg mb fa o pm cd doc a vs ns G Y ho hdt hcd hmg hobj hints hlen hbits hg
  have tabs : OwnTabs q mg s₁.heap := fun e he => by
    obtain ⟨f, o, fd, c, P, b1, b2, b3, b4, b5, b6⟩ := G.T.tab e he
    exact ⟨f, o, fd, c, P, b1, b2, b3, b4, PySem.W.CodeHd.of b5 b6, b6.2⟩
  obtain ⟨fd, cs, sp, t1, t2, t3, b, s, f⟩ := F w mg fa _ Y (hY w _ Y) G.T.g hmg tabs
  exact law_callTs (hY w _ Y) G.T.g G.T.b G.T.builtins G.T.nolimit hg t1 t2 t3 G.T.bmain hobj hints (Nat.le_trans hlen hs) hr f b (fun H hH hS => s H a ns hlen hbits hH hS) fun H e s' => hC w H s₁ e s'
theorem exm_of {K : PySem.W.Frag} {S N : Addr} {b : Bool} (h1 : PySem.W.subIn K (.ref N) (.type "BaseException") = some true) (h2 : PySem.W.isClsIn K N = true) (h3 : PySem.W.typeIn K (.ref N) = some (.type "type")) (h4 : PySem.W.subIn K (.ref S) (.ref N) = some b) :
    PySem.W.exmOne K (.ref S) (.ref N) = some b := by
  have e1 : (PySem.W.subIn K (.ref N) (.type "BaseException") == some true) = true := by rw [h1] <;> rfl
  have e2 : ((PySem.W.clsIn K N).isSome && PySem.W.typeIn K (.ref N) == some (.type "type")) = true := by
    have h2' : (PySem.W.clsIn K N).isSome = true := h2
    rw [h2', h3] <;> rfl
  show (if (PySem.W.subIn K (.ref N) (.type "BaseException") == some true) = true then (if ((PySem.W.clsIn K N).isSome && PySem.W.typeIn K (.ref N) == some (.type "type")) = true then PySem.W.subIn K (.ref S) (.ref N) else none) else none) = some b
  rw [if_pos e1, if_pos e2]
  exact h4
end K1
set_option Elab.async false
set_option linter.all false
set_option maxRecDepth 100000
namespace K1
open PySem PyProof.Rows L2 LamX
set_option maxHeartbeats 0 in
theorem all_mk {l : PySem.W.OpenLaw} {q : Program} {w : World} {K : PySem.W.Frag} {h : Heap} {mg : Str → Option Value}
    {E0 f1 f2 f3 f4 f5 f6 f7 f8 f9 f10 f11 f12 f13 f14 f15 f16 f17 f18 f19 f20 f21 f22 f23 f24 f25 f26 f27 f28 f29 f30 f31 T31 C f32 T32 f33 f34 f35 f36 f37 EO NO f38 fa : Addr}
    {od1 an1 od2 an2 od3 an3 od4 an4 od5 an5 od6 an6 od7 an7 od8 an8 od9 an9 od10 an10 od11 an11 od12 an12 od13 an13 od14 an14 od15 an15 od16 an16 od17 an17 od18 an18 od19 an19 od20 an20 od21 an21 od22 an22 od23 an23 od24 an24 od25 an25 od26 an26 od27 an27 od28 an28 od29 an29 od30 an30 odT31 od31 an31 odT32 od32 an32 od33 an33 od34 an34 od35 an35 od36 an36 od37 an37 ddO od38 an38 : Option Addr}
    {sl1 sl2 sl3 sl4 sl5 sl6 sl7 sl8 sl9 sl10 sl11 sl12 sl13 sl14 sl15 sl16 sl17 sl18 sl19 sl20 sl21 sl22 sl23 sl24 sl25 sl26 sl27 sl28 sl29 sl30 slT31 sl31 slT32 sl32 sl33 sl34 sl35 sl36 sl37 sl38 : Array (Option Value)}
    {oc1 kV1 dc1 pm1 ct1 cd1 oc2 kV2 dc2 pm2 ct2 cd2 oc3 kV3 dc3 pm3 ct3 cd3 oc4 kV4 dc4 pm4 ct4 cd4 oc5 kV5 dc5 pm5 ct5 cd5 oc6 kV6 dc6 pm6 ct6 cd6 oc7 kV7 dc7 pm7 ct7 cd7 oc8 kV8 dc8 pm8 ct8 cd8 oc9 kV9 dc9 pm9 ct9 cd9 oc10 kV10 dc10 pm10 ct10 cd10 oc11 kV11 dc11 pm11 ct11 cd11 oc12 kV12 dc12 pm12 ct12 cd12 oc13 kV13 dc13 pm13 ct13 cd13 oc14 kV14 dc14 pm14 ct14 cd14 oc15 kV15 dc15 pm15 ct15 cd15 oc16 kV16 dc16 pm16 ct16 cd16 oc17 kV17 dc17 pm17 ct17 cd17 oc18 kV18 dc18 pm18 ct18 cd18 oc19 kV19 dc19 pm19 ct19 cd19 oc20 kV20 dc20 pm20 ct20 cd20 oc21 kV21 dc21 pm21 ct21 cd21 oc22 kV22 dc22 pm22 ct22 cd22 oc23 kV23 dc23 pm23 ct23 cd23 oc24 kV24 dc24 pm24 ct24 cd24 oc25 kV25 dc25 pm25 ct25 cd25 oc26 kV26 dc26 pm26 ct26 cd26 oc27 kV27 dc27 pm27 ct27 cd27 oc28 kV28 dc28 pm28 ct28 cd28 oc29 kV29 dc29 pm29 ct29 cd29 oc30 kV30 dc30 pm30 ct30 cd30 ocT31 oc31 kV31 dc31 pm31 ct31 cd31 ocT32 oc32 kV32 dc32 pm32 ct32 cd32 oc33 kV33 dc33 pm33 ct33 cd33 oc34 kV34 dc34 pm34 ct34 cd34 oc35 kV35 dc35 pm35 ct35 cd35 oc36 kV36 dc36 pm36 ct36 cd36 oc37 kV37 dc37 pm37 ct37 cd37 oc38 kV38 dc38 pm38 ct38 cd38 : Value}
    {m0O m1O m2O m3O m5O : Option Value}
    {tc0 tc1 tc2 tc3 tc4 tc5 tc6 : Tok}
    {nT31 nT32 : Nat}
    {nmO qnO : Str}
    {bsO subO : List Value}
    {snO : List Str}
    {abO : Bool}
    {colO : Option Bool}
    (X : K.In h) (G : h.Ns mainGlobals mg) (hfa : mg "law" = some (.ref fa)) (O : OwnTabs q mg h)
    (a1 : PySem.W.nsIn K mainGlobals "_law_pen" = some (some (.ref f1)))
    (l1 : K.lookup f1 = some ⟨oc1, od1, .func (PySem.W.fnOf "_law_pen" "_law_pen" (defArgs sPen) (defBody sPen) (defScope sPen) .none kV1 dc1 pm1 an1 cd1 ct1), sl1⟩)
    (c1 : PySem.W.codeIn K (cd1) "_law_pen" = true)
    (k1 : PySem.W.keepIn K (.ref f1) = true)
    (a2 : PySem.W.nsIn K mainGlobals "_law_draw" = some (some (.ref f2)))
    (l2 : K.lookup f2 = some ⟨oc2, od2, .func (PySem.W.fnOf "_law_draw" "_law_draw" (defArgs sDraw) (defBody sDraw) (defScope sDraw) .none kV2 dc2 pm2 an2 cd2 ct2), sl2⟩)
    (c2 : PySem.W.codeIn K (cd2) "_law_draw" = true)
    (k2 : PySem.W.keepIn K (.ref f2) = true)
    (a3 : PySem.W.nsIn K mainGlobals "_law_pick" = some (some (.ref f3)))
    (l3 : K.lookup f3 = some ⟨oc3, od3, .func (PySem.W.fnOf "_law_pick" "_law_pick" (defArgs sPick) (defBody sPick) (defScope sPick) .none kV3 dc3 pm3 an3 cd3 ct3), sl3⟩)
    (c3 : PySem.W.codeIn K (cd3) "_law_pick" = true)
    (k3 : PySem.W.keepIn K (.ref f3) = true)
    (a4 : PySem.W.nsIn K mainGlobals "_law_shuffled" = some (some (.ref f4)))
    (l4 : K.lookup f4 = some ⟨oc4, od4, .func (PySem.W.fnOf "_law_shuffled" "_law_shuffled" (defArgs sShuf) (defBody sShuf) (defScope sShuf) .none kV4 dc4 pm4 an4 cd4 ct4), sl4⟩)
    (c4 : PySem.W.codeIn K (cd4) "_law_shuffled" = true)
    (k4 : PySem.W.keepIn K (.ref f4) = true)
    (a5 : PySem.W.nsIn K mainGlobals "_law_words" = some (some (.ref f5)))
    (l5 : K.lookup f5 = some ⟨oc5, od5, .func (PySem.W.fnOf "_law_words" "_law_words" (defArgs sWords) (defBody sWords) (defScope sWords) .none kV5 dc5 pm5 an5 cd5 ct5), sl5⟩)
    (c5 : PySem.W.codeIn K (cd5) "_law_words" = true)
    (k5 : PySem.W.keepIn K (.ref f5) = true)
    (a6 : PySem.W.nsIn K mainGlobals "_law_rows" = some (some (.ref f6)))
    (l6 : K.lookup f6 = some ⟨oc6, od6, .func (PySem.W.fnOf "_law_rows" "_law_rows" (defArgs sRowsL) (defBody sRowsL) (defScope sRowsL) .none kV6 dc6 pm6 an6 cd6 ct6), sl6⟩)
    (c6 : PySem.W.codeIn K (cd6) "_law_rows" = true)
    (k6 : PySem.W.keepIn K (.ref f6) = true)
    (a7 : PySem.W.nsIn K mainGlobals "_law_plain" = some (some (.ref f7)))
    (l7 : K.lookup f7 = some ⟨oc7, od7, .func (PySem.W.fnOf "_law_plain" "_law_plain" (defArgs sPlain) (defBody sPlain) (defScope sPlain) .none kV7 dc7 pm7 an7 cd7 ct7), sl7⟩)
    (c7 : PySem.W.codeIn K (cd7) "_law_plain" = true)
    (k7 : PySem.W.keepIn K (.ref f7) = true)
    (a8 : PySem.W.nsIn K mainGlobals "_law_made" = some (some (.ref f8)))
    (l8 : K.lookup f8 = some ⟨oc8, od8, .func (PySem.W.fnOf "_law_made" "_law_made" (defArgs sMade) (defBody sMade) (defScope sMade) .none kV8 dc8 pm8 an8 cd8 ct8), sl8⟩)
    (c8 : PySem.W.codeIn K (cd8) "_law_made" = true)
    (k8 : PySem.W.keepIn K (.ref f8) = true)
    (a9 : PySem.W.nsIn K mainGlobals "_law_led" = some (some (.ref f9)))
    (l9 : K.lookup f9 = some ⟨oc9, od9, .func (PySem.W.fnOf "_law_led" "_law_led" (defArgs sLed) (defBody sLed) (defScope sLed) .none kV9 dc9 pm9 an9 cd9 ct9), sl9⟩)
    (c9 : PySem.W.codeIn K (cd9) "_law_led" = true)
    (k9 : PySem.W.keepIn K (.ref f9) = true)
    (a10 : PySem.W.nsIn K mainGlobals "_law_signs" = some (some (.ref f10)))
    (l10 : K.lookup f10 = some ⟨oc10, od10, .func (PySem.W.fnOf "_law_signs" "_law_signs" (defArgs sSigns) (defBody sSigns) (defScope sSigns) .none kV10 dc10 pm10 an10 cd10 ct10), sl10⟩)
    (c10 : PySem.W.codeIn K (cd10) "_law_signs" = true)
    (k10 : PySem.W.keepIn K (.ref f10) = true)
    (a11 : PySem.W.nsIn K mainGlobals "_law_first_rows" = some (some (.ref f11)))
    (l11 : K.lookup f11 = some ⟨oc11, od11, .func (PySem.W.fnOf "_law_first_rows" "_law_first_rows" (defArgs sFirst) (defBody sFirst) (defScope sFirst) .none kV11 dc11 pm11 an11 cd11 ct11), sl11⟩)
    (c11 : PySem.W.codeIn K (cd11) "_law_first_rows" = true)
    (k11 : PySem.W.keepIn K (.ref f11) = true)
    (a12 : PySem.W.nsIn K mainGlobals "_law_core" = some (some (.ref f12)))
    (l12 : K.lookup f12 = some ⟨oc12, od12, .func (PySem.W.fnOf "_law_core" "_law_core" (defArgs sCoreL) (defBody sCoreL) (defScope sCoreL) .none kV12 dc12 pm12 an12 cd12 ct12), sl12⟩)
    (c12 : PySem.W.codeIn K (cd12) "_law_core" = true)
    (k12 : PySem.W.keepIn K (.ref f12) = true)
    (a13 : PySem.W.nsIn K mainGlobals "_law_is_machine" = some (some (.ref f13)))
    (l13 : K.lookup f13 = some ⟨oc13, od13, .func (PySem.W.fnOf "_law_is_machine" "_law_is_machine" (defArgs sIsM) (defBody sIsM) (defScope sIsM) .none kV13 dc13 pm13 an13 cd13 ct13), sl13⟩)
    (c13 : PySem.W.codeIn K (cd13) "_law_is_machine" = true)
    (k13 : PySem.W.keepIn K (.ref f13) = true)
    (a14 : PySem.W.nsIn K mainGlobals "_law_other_way" = some (some (.ref f14)))
    (l14 : K.lookup f14 = some ⟨oc14, od14, .func (PySem.W.fnOf "_law_other_way" "_law_other_way" (defArgs sOtherW) (defBody sOtherW) (defScope sOtherW) .none kV14 dc14 pm14 an14 cd14 ct14), sl14⟩)
    (c14 : PySem.W.codeIn K (cd14) "_law_other_way" = true)
    (k14 : PySem.W.keepIn K (.ref f14) = true)
    (a15 : PySem.W.nsIn K mainGlobals "law" = some (some (.ref f15)))
    (l15 : K.lookup f15 = some ⟨oc15, od15, .func (PySem.W.fnOf "law" "law" (defArgs sLaw) (defBody sLaw) (defScope sLaw) .none kV15 dc15 pm15 an15 cd15 ct15), sl15⟩)
    (c15 : PySem.W.codeIn K (cd15) "law" = true)
    (k15 : PySem.W.keepIn K (.ref f15) = true)
    (a16 : PySem.W.nsIn K mainGlobals "is_integer" = some (some (.ref f16)))
    (l16 : K.lookup f16 = some ⟨oc16, od16, .func (PySem.W.fnOf "is_integer" "is_integer" (defArgs sIsInt) (defBody sIsInt) (defScope sIsInt) .none kV16 dc16 pm16 an16 cd16 ct16), sl16⟩)
    (c16 : PySem.W.codeIn K (cd16) "is_integer" = true)
    (k16 : PySem.W.keepIn K (.ref f16) = true)
    (a17 : PySem.W.nsIn K mainGlobals "is_index" = some (some (.ref f17)))
    (l17 : K.lookup f17 = some ⟨oc17, od17, .func (PySem.W.fnOf "is_index" "is_index" (defArgs sIsIndex) (defBody sIsIndex) (defScope sIsIndex) .none kV17 dc17 pm17 an17 cd17 ct17), sl17⟩)
    (c17 : PySem.W.codeIn K (cd17) "is_index" = true)
    (k17 : PySem.W.keepIn K (.ref f17) = true)
    (a18 : PySem.W.nsIn K mainGlobals "is_word" = some (some (.ref f18)))
    (l18 : K.lookup f18 = some ⟨oc18, od18, .func (PySem.W.fnOf "is_word" "is_word" (defArgs sIsWord) (defBody sIsWord) (defScope sIsWord) .none kV18 dc18 pm18 an18 cd18 ct18), sl18⟩)
    (c18 : PySem.W.codeIn K (cd18) "is_word" = true)
    (k18 : PySem.W.keepIn K (.ref f18) = true)
    (a19 : PySem.W.nsIn K mainGlobals "is_tell" = some (some (.ref f19)))
    (l19 : K.lookup f19 = some ⟨oc19, od19, .func (PySem.W.fnOf "is_tell" "is_tell" (defArgs sIsTell) (defBody sIsTell) (defScope sIsTell) .none kV19 dc19 pm19 an19 cd19 ct19), sl19⟩)
    (c19 : PySem.W.codeIn K (cd19) "is_tell" = true)
    (k19 : PySem.W.keepIn K (.ref f19) = true)
    (a20 : PySem.W.nsIn K mainGlobals "check_different" = some (some (.ref f20)))
    (l20 : K.lookup f20 = some ⟨oc20, od20, .func (PySem.W.fnOf "check_different" "check_different" (defArgs sCheckDiff) (defBody sCheckDiff) (defScope sCheckDiff) .none kV20 dc20 pm20 an20 cd20 ct20), sl20⟩)
    (c20 : PySem.W.codeIn K (cd20) "check_different" = true)
    (k20 : PySem.W.keepIn K (.ref f20) = true)
    (a21 : PySem.W.nsIn K mainGlobals "check_group" = some (some (.ref f21)))
    (l21 : K.lookup f21 = some ⟨oc21, od21, .func (PySem.W.fnOf "check_group" "check_group" (defArgs sCheckGroup) (defBody sCheckGroup) (defScope sCheckGroup) .none kV21 dc21 pm21 an21 cd21 ct21), sl21⟩)
    (c21 : PySem.W.codeIn K (cd21) "check_group" = true)
    (k21 : PySem.W.keepIn K (.ref f21) = true)
    (a22 : PySem.W.nsIn K mainGlobals "check_deeds" = some (some (.ref f22)))
    (l22 : K.lookup f22 = some ⟨oc22, od22, .func (PySem.W.fnOf "check_deeds" "check_deeds" (defArgs sCheckDeeds) (defBody sCheckDeeds) (defScope sCheckDeeds) .none kV22 dc22 pm22 an22 cd22 ct22), sl22⟩)
    (c22 : PySem.W.codeIn K (cd22) "check_deeds" = true)
    (k22 : PySem.W.keepIn K (.ref f22) = true)
    (a23 : PySem.W.nsIn K mainGlobals "check_rows" = some (some (.ref f23)))
    (l23 : K.lookup f23 = some ⟨oc23, od23, .func (PySem.W.fnOf "check_rows" "check_rows" (defArgs sCheckRows) (defBody sCheckRows) (defScope sCheckRows) .none kV23 dc23 pm23 an23 cd23 ct23), sl23⟩)
    (c23 : PySem.W.codeIn K (cd23) "check_rows" = true)
    (k23 : PySem.W.keepIn K (.ref f23) = true)
    (a24 : PySem.W.nsIn K mainGlobals "check_tells" = some (some (.ref f24)))
    (l24 : K.lookup f24 = some ⟨oc24, od24, .func (PySem.W.fnOf "check_tells" "check_tells" (defArgs sCheckTells) (defBody sCheckTells) (defScope sCheckTells) .none kV24 dc24 pm24 an24 cd24 ct24), sl24⟩)
    (c24 : PySem.W.codeIn K (cd24) "check_tells" = true)
    (k24 : PySem.W.keepIn K (.ref f24) = true)
    (a25 : PySem.W.nsIn K mainGlobals "next_layer" = some (some (.ref f25)))
    (l25 : K.lookup f25 = some ⟨oc25, od25, .func (PySem.W.fnOf "next_layer" "next_layer" (defArgs sNL) (defBody sNL) (defScope sNL) .none kV25 dc25 pm25 an25 cd25 ct25), sl25⟩)
    (c25 : PySem.W.codeIn K (cd25) "next_layer" = true)
    (k25 : PySem.W.keepIn K (.ref f25) = true)
    (a26 : PySem.W.nsIn K mainGlobals "row_to" = some (some (.ref f26)))
    (l26 : K.lookup f26 = some ⟨oc26, od26, .func (PySem.W.fnOf "row_to" "row_to" (defArgs sRT) (defBody sRT) (defScope sRT) .none kV26 dc26 pm26 an26 cd26 ct26), sl26⟩)
    (c26 : PySem.W.codeIn K (cd26) "row_to" = true)
    (k26 : PySem.W.keepIn K (.ref f26) = true)
    (a27 : PySem.W.nsIn K mainGlobals "first_parting" = some (some (.ref f27)))
    (l27 : K.lookup f27 = some ⟨oc27, od27, .func (PySem.W.fnOf "first_parting" "first_parting" (defArgs sFP) (defBody sFP) (defScope sFP) .none kV27 dc27 pm27 an27 cd27 ct27), sl27⟩)
    (c27 : PySem.W.codeIn K (cd27) "first_parting" = true)
    (k27 : PySem.W.keepIn K (.ref f27) = true)
    (a28 : PySem.W.nsIn K mainGlobals "shrunk" = some (some (.ref f28)))
    (l28 : K.lookup f28 = some ⟨oc28, od28, .func (PySem.W.fnOf "shrunk" "shrunk" (defArgs sShrunk) (defBody sShrunk) (defScope sShrunk) .none kV28 dc28 pm28 an28 cd28 ct28), sl28⟩)
    (c28 : PySem.W.codeIn K (cd28) "shrunk" = true)
    (k28 : PySem.W.keepIn K (.ref f28) = true)
    (a29 : PySem.W.nsIn K mainGlobals "alike" = some (some (.ref f29)))
    (l29 : K.lookup f29 = some ⟨oc29, od29, .func (PySem.W.fnOf "alike" "alike" (defArgs sAlike) (defBody sAlike) (defScope sAlike) .none kV29 dc29 pm29 an29 cd29 ct29), sl29⟩)
    (c29 : PySem.W.codeIn K (cd29) "alike" = true)
    (k29 : PySem.W.keepIn K (.ref f29) = true)
    (a30 : PySem.W.nsIn K mainGlobals "numbered" = some (some (.ref f30)))
    (l30 : K.lookup f30 = some ⟨oc30, od30, .func (PySem.W.fnOf "numbered" "numbered" (defArgs sNum) (defBody sNum) (defScope sNum) .none kV30 dc30 pm30 an30 cd30 ct30), sl30⟩)
    (c30 : PySem.W.codeIn K (cd30) "numbered" = true)
    (k30 : PySem.W.keepIn K (.ref f30) = true)
    (a31 : PySem.W.nsIn K mainGlobals "first_steps" = some (some (.ref f31)))
    (l31 : K.lookup f31 = some ⟨oc31, od31, .func (PySem.W.fnOf "first_steps" "first_steps" (defArgs sFS) (defBody sFS) (defScope sFS) (.ref T31) kV31 dc31 pm31 an31 cd31 ct31), sl31⟩)
    (c31 : PySem.W.codeIn K (cd31) "first_steps" = true)
    (k31 : PySem.W.keepIn K (.ref f31) = true)
    (lT31 : K.lookup T31 = some ⟨ocT31, odT31, .seq #[.none] nT31, slT31⟩)
    (aC : PySem.W.nsIn K mainGlobals "Machine" = some (some (.ref C)))
    (pgC : PySem.W.plainGet K C Str.empty = true)
    (hdC : PySem.W.hasDictIn K C = true)
    (poC : PySem.W.plainOver K C = true)
    (saC : PySem.W.findIn K (.ref C) "__setattr__" = some (some (.builtin "object.__setattr__")))
    (mkC : PySem.W.makesIn K C = true)
    (kcC : PySem.W.keepIn K (.ref C) = true)
    (nC_deeds : PySem.W.findIn K (.ref C) "deeds" = some none)
    (nC_rows : PySem.W.findIn K (.ref C) "rows" = some none)
    (nC_tells : PySem.W.findIn K (.ref C) "tells" = some none)
    (nC_start : PySem.W.findIn K (.ref C) "start" = some none)
    (a32 : PySem.W.findIn K (.ref C) "__init__" = some (some (.ref f32)))
    (i32 : PySem.W.isFn K (.ref f32) = true)
    (l32 : K.lookup f32 = some ⟨oc32, od32, .func (PySem.W.fnOf "__init__" "Machine.__init__" (defArgs sMInit) (defBody sMInit) (defScope sMInit) (.ref T32) kV32 dc32 pm32 an32 cd32 ct32), sl32⟩)
    (c32 : PySem.W.codeIn K (cd32) "Machine.__init__" = true)
    (k32 : PySem.W.keepIn K (.ref f32) = true)
    (lT32 : K.lookup T32 = some ⟨ocT32, odT32, .seq #[.int 0 tc0] nT32, slT32⟩)
    (a33 : PySem.W.findIn K (.ref C) "parting" = some (some (.ref f33)))
    (i33 : PySem.W.isFn K (.ref f33) = true)
    (l33 : K.lookup f33 = some ⟨oc33, od33, .func (PySem.W.fnOf "parting" "Machine.parting" (defArgs sMPart) (defBody sMPart) (defScope sMPart) .none kV33 dc33 pm33 an33 cd33 ct33), sl33⟩)
    (c33 : PySem.W.codeIn K (cd33) "Machine.parting" = true)
    (k33 : PySem.W.keepIn K (.ref f33) = true)
    (a34 : PySem.W.findIn K (.ref C) "least" = some (some (.ref f34)))
    (i34 : PySem.W.isFn K (.ref f34) = true)
    (l34 : K.lookup f34 = some ⟨oc34, od34, .func (PySem.W.fnOf "least" "Machine.least" (defArgs sMLeast) (defBody sMLeast) (defScope sMLeast) .none kV34 dc34 pm34 an34 cd34 ct34), sl34⟩)
    (c34 : PySem.W.codeIn K (cd34) "Machine.least" = true)
    (k34 : PySem.W.keepIn K (.ref f34) = true)
    (a35 : PySem.W.findIn K (.ref C) "reached" = some (some (.ref f35)))
    (i35 : PySem.W.isFn K (.ref f35) = true)
    (l35 : K.lookup f35 = some ⟨oc35, od35, .func (PySem.W.fnOf "reached" "Machine.reached" (defArgs sMReach) (defBody sMReach) (defScope sMReach) .none kV35 dc35 pm35 an35 cd35 ct35), sl35⟩)
    (c35 : PySem.W.codeIn K (cd35) "Machine.reached" = true)
    (k35 : PySem.W.keepIn K (.ref f35) = true)
    (a36 : PySem.W.findIn K (.ref C) "__eq__" = some (some (.ref f36)))
    (i36 : PySem.W.isFn K (.ref f36) = true)
    (l36 : K.lookup f36 = some ⟨oc36, od36, .func (PySem.W.fnOf "__eq__" "Machine.__eq__" (defArgs sMEq) (defBody sMEq) (defScope sMEq) .none kV36 dc36 pm36 an36 cd36 ct36), sl36⟩)
    (c36 : PySem.W.codeIn K (cd36) "Machine.__eq__" = true)
    (k36 : PySem.W.keepIn K (.ref f36) = true)
    (a37 : PySem.W.findIn K (.ref C) "__len__" = some (some (.ref f37)))
    (i37 : PySem.W.isFn K (.ref f37) = true)
    (l37 : K.lookup f37 = some ⟨oc37, od37, .func (PySem.W.fnOf "__len__" "Machine.__len__" (defArgs sMLen) (defBody sMLen) (defScope sMLen) .none kV37 dc37 pm37 an37 cd37 ct37), sl37⟩)
    (c37 : PySem.W.codeIn K (cd37) "Machine.__len__" = true)
    (k37 : PySem.W.keepIn K (.ref f37) = true)
    (neC : PySem.W.findIn K (.ref C) "__ne__" = some (some (.builtin "object.__ne__")))
    (ca_C : PySem.W.findIn K (.ref C) "__class__" = some (some (.builtin "object.__class__")))
    (cs_C : PySem.W.specialIn K (.builtin "object.__class__") "__get__" = some (some (.builtin "getset_descriptor.__get__")))
    (ct_C : PySem.W.takesIn K (.builtin "object.__class__") = some true)
    (cm_C : PySem.W.mroIn K C (.type "object") = some true)
    (a00 : PySem.W.nsIn K mainGlobals "LooksError" = some (some (.ref E0)))
    (aO : PySem.W.nsIn K mainGlobals "OtherDeeds" = some (some (.ref EO)))
    (xO : K.lookup EO = some (excClassObj nmO qnO EO NO bsO [.ref E0, .type "ValueError", .type "Exception", .type "BaseException", .type "object"] true snO subO abO colO ddO m0O m1O m2O m3O m5O "ValueError.__new__"))
    (saO : PySem.W.findIn K (.ref EO) "__setattr__" = some (some (.builtin "object.__setattr__")))
    (gaO : PySem.W.findIn K (.ref EO) "__getattribute__" = some (some (.builtin "BaseException.__getattribute__")))
    (ggO : PySem.W.findIn K (.ref EO) "__getattr__" = some none)
    (eO : PySem.W.subIn K (.ref EO) (.type "BaseException") = some true)
    (tO : PySem.W.typeIn K (.ref EO) = some (.type "type"))
    (kkO : PySem.W.keepIn K (.ref EO) = true)
    (hO : PySem.W.hasDictIn K EO = true)
    (iO : PySem.W.isClsIn K EO = true)
    (noO_have : PySem.W.findIn K (.ref EO) "have" = some none)
    (noO_want : PySem.W.findIn K (.ref EO) "want" = some none)
    (a38 : PySem.W.findIn K (.ref EO) "__init__" = some (some (.ref f38)))
    (t38 : PySem.W.typeIn K (.ref f38) = some (.type "function"))
    (l38 : K.lookup f38 = some ⟨oc38, od38, .func (PySem.W.fnOf "__init__" "OtherDeeds.__init__" (defArgs sOtherDeeds) (defBody sOtherDeeds) (defScope sOtherDeeds) .none kV38 dc38 pm38 an38 cd38 ct38), sl38⟩)
    (c38 : PySem.W.codeIn K (cd38) "OtherDeeds.__init__" = true)
    (k38 : PySem.W.keepIn K (.ref f38) = true)
    (co_LETTERS : PySem.W.nsIn K mainGlobals "LETTERS" = some (some (.str zLE tc1)))
    (co_DIGITS : PySem.W.nsIn K mainGlobals "DIGITS" = some (some (.str zDG tc2)))
    (co_LONGEST_WORD : PySem.W.nsIn K mainGlobals "LONGEST_WORD" = some (some (.int 12 tc3)))
    (co_LONGEST_TELL : PySem.W.nsIn K mainGlobals "LONGEST_TELL" = some (some (.int 60 tc4)))
    (co_MOST_DEEDS : PySem.W.nsIn K mainGlobals "MOST_DEEDS" = some (some (.int 6 tc5)))
    (co_MOST_STATES : PySem.W.nsIn K mainGlobals "MOST_STATES" = some (some (.int 60 tc6)))
    (z_int : PySem.W.nsIn K mainGlobals "int" = some none)
    (z_len : PySem.W.nsIn K mainGlobals "len" = some none)
    (z_list : PySem.W.nsIn K mainGlobals "list" = some none)
    (z_range : PySem.W.nsIn K mainGlobals "range" = some none)
    (z_tuple : PySem.W.nsIn K mainGlobals "tuple" = some none)
    (z_isinstance : PySem.W.nsIn K mainGlobals "isinstance" = some none)
    (z_bool : PySem.W.nsIn K mainGlobals "bool" = some none)
    (z_str : PySem.W.nsIn K mainGlobals "str" = some none)
    (z_all : PySem.W.nsIn K mainGlobals "all" = some none)
    (z_enumerate : PySem.W.nsIn K mainGlobals "enumerate" = some none)
    (z_min : PySem.W.nsIn K mainGlobals "min" = some none)
    (z_zip : PySem.W.nsIn K mainGlobals "zip" = some none)
    (z_set : PySem.W.nsIn K mainGlobals "set" = some none) :
    LawAtS l w K L2.CX0 8 63 "_law_script" mg fa h := by
  have e := (PySem.W.mg_of X G a15).symm.trans hfa
  cases e
  have D1 : Df K mg "_law_pen" sPen ["_law_script"] f1 _ := ⟨fun_mk (st := sPen) l1 c1 k1, PySem.W.mg_of X G a1, (fun_mk (st := sPen) l1 c1 k1).binds (ps := ["_law_script"]) fun _ _ _ _ _ _ us hl => match us, hl with | [_], _ => rfl⟩
  have D2 : Df K mg "_law_draw" sDraw ["_law_pen_here", "_law_many"] f2 _ := ⟨fun_mk (st := sDraw) l2 c2 k2, PySem.W.mg_of X G a2, (fun_mk (st := sDraw) l2 c2 k2).binds (ps := ["_law_pen_here", "_law_many"]) fun _ _ _ _ _ _ us hl => match us, hl with | [_, _], _ => rfl⟩
  have D3 : Df K mg "_law_pick" sPick ["_law_pen_here", "_law_some"] f3 _ := ⟨fun_mk (st := sPick) l3 c3 k3, PySem.W.mg_of X G a3, (fun_mk (st := sPick) l3 c3 k3).binds (ps := ["_law_pen_here", "_law_some"]) fun _ _ _ _ _ _ us hl => match us, hl with | [_, _], _ => rfl⟩
  have D4 : Df K mg "_law_shuffled" sShuf ["_law_pen_here", "_law_some"] f4 _ := ⟨fun_mk (st := sShuf) l4 c4 k4, PySem.W.mg_of X G a4, (fun_mk (st := sShuf) l4 c4 k4).binds (ps := ["_law_pen_here", "_law_some"]) fun _ _ _ _ _ _ us hl => match us, hl with | [_, _], _ => rfl⟩
  have D5 : Df K mg "_law_words" sWords ["_law_pen_here", "_law_many"] f5 _ := ⟨fun_mk (st := sWords) l5 c5 k5, PySem.W.mg_of X G a5, (fun_mk (st := sWords) l5 c5 k5).binds (ps := ["_law_pen_here", "_law_many"]) fun _ _ _ _ _ _ us hl => match us, hl with | [_, _], _ => rfl⟩
  have D6 : Df K mg "_law_rows" sRowsL ["_law_width", "_law_most"] f6 _ := ⟨fun_mk (st := sRowsL) l6 c6 k6, PySem.W.mg_of X G a6, (fun_mk (st := sRowsL) l6 c6 k6).binds (ps := ["_law_width", "_law_most"]) fun _ _ _ _ _ _ us hl => match us, hl with | [_, _], _ => rfl⟩
  have D7 : Df K mg "_law_plain" sPlain ["_law_pen_here", "_law_deeds", "_law_most", "_law_tells"] f7 _ := ⟨fun_mk (st := sPlain) l7 c7 k7, PySem.W.mg_of X G a7, (fun_mk (st := sPlain) l7 c7 k7).binds (ps := ["_law_pen_here", "_law_deeds", "_law_most", "_law_tells"]) fun _ _ _ _ _ _ us hl => match us, hl with | [_, _, _, _], _ => rfl⟩
  have D8 : Df K mg "_law_made" sMade ["_law_plain_here"] f8 _ := ⟨fun_mk (st := sMade) l8 c8 k8, PySem.W.mg_of X G a8, (fun_mk (st := sMade) l8 c8 k8).binds (ps := ["_law_plain_here"]) fun _ _ _ _ _ _ us hl => match us, hl with | [_], _ => rfl⟩
  have D9 : Df K mg "_law_led" sLed ["_law_plain_here", "_law_row", "_law_spot"] f9 _ := ⟨fun_mk (st := sLed) l9 c9 k9, PySem.W.mg_of X G a9, (fun_mk (st := sLed) l9 c9 k9).binds (ps := ["_law_plain_here", "_law_row", "_law_spot"]) fun _ _ _ _ _ _ us hl => match us, hl with | [_, _, _], _ => rfl⟩
  have D10 : Df K mg "_law_signs" sSigns ["_law_plain_here", "_law_spot"] f10 _ := ⟨fun_mk (st := sSigns) l10 c10 k10, PySem.W.mg_of X G a10, (fun_mk (st := sSigns) l10 c10 k10).binds (ps := ["_law_plain_here", "_law_spot"]) fun _ _ _ _ _ _ us hl => match us, hl with | [_, _], _ => rfl⟩
  have D11 : Df K mg "_law_first_rows" sFirst ["_law_plain_here"] f11 _ := ⟨fun_mk (st := sFirst) l11 c11 k11, PySem.W.mg_of X G a11, (fun_mk (st := sFirst) l11 c11 k11).binds (ps := ["_law_plain_here"]) fun _ _ _ _ _ _ us hl => match us, hl with | [_], _ => rfl⟩
  have D12 : Df K mg "_law_core" sCoreL ["_law_plain_here"] f12 _ := ⟨fun_mk (st := sCoreL) l12 c12 k12, PySem.W.mg_of X G a12, (fun_mk (st := sCoreL) l12 c12 k12).binds (ps := ["_law_plain_here"]) fun _ _ _ _ _ _ us hl => match us, hl with | [_], _ => rfl⟩
  have D13 : Df K mg "_law_is_machine" sIsM ["_law_machine", "_law_plain_here"] f13 _ := ⟨fun_mk (st := sIsM) l13 c13 k13, PySem.W.mg_of X G a13, (fun_mk (st := sIsM) l13 c13 k13).binds (ps := ["_law_machine", "_law_plain_here"]) fun _ _ _ _ _ _ us hl => match us, hl with | [_, _], _ => rfl⟩
  have D14 : Df K mg "_law_other_way" sOtherW ["_law_pen_here", "_law_plain_here"] f14 _ := ⟨fun_mk (st := sOtherW) l14 c14 k14, PySem.W.mg_of X G a14, (fun_mk (st := sOtherW) l14 c14 k14).binds (ps := ["_law_pen_here", "_law_plain_here"]) fun _ _ _ _ _ _ us hl => match us, hl with | [_, _], _ => rfl⟩
  have D15 : Df K mg "law" sLaw ["_law_script"] f15 _ := ⟨fun_mk (st := sLaw) l15 c15 k15, PySem.W.mg_of X G a15, (fun_mk (st := sLaw) l15 c15 k15).binds (ps := ["_law_script"]) fun _ _ _ _ _ _ us hl => match us, hl with | [_], _ => rfl⟩
  have D16 : Df K mg "is_integer" sIsInt ["value"] f16 _ := ⟨fun_mk (st := sIsInt) l16 c16 k16, PySem.W.mg_of X G a16, (fun_mk (st := sIsInt) l16 c16 k16).binds (ps := ["value"]) fun _ _ _ _ _ _ us hl => match us, hl with | [_], _ => rfl⟩
  have D17 : Df K mg "is_index" sIsIndex ["value", "many"] f17 _ := ⟨fun_mk (st := sIsIndex) l17 c17 k17, PySem.W.mg_of X G a17, (fun_mk (st := sIsIndex) l17 c17 k17).binds (ps := ["value", "many"]) fun _ _ _ _ _ _ us hl => match us, hl with | [_, _], _ => rfl⟩
  have D18 : Df K mg "is_word" sIsWord ["value"] f18 _ := ⟨fun_mk (st := sIsWord) l18 c18 k18, PySem.W.mg_of X G a18, (fun_mk (st := sIsWord) l18 c18 k18).binds (ps := ["value"]) fun _ _ _ _ _ _ us hl => match us, hl with | [_], _ => rfl⟩
  have D19 : Df K mg "is_tell" sIsTell ["value"] f19 _ := ⟨fun_mk (st := sIsTell) l19 c19 k19, PySem.W.mg_of X G a19, (fun_mk (st := sIsTell) l19 c19 k19).binds (ps := ["value"]) fun _ _ _ _ _ _ us hl => match us, hl with | [_], _ => rfl⟩
  have D20 : Df K mg "check_different" sCheckDiff ["deeds"] f20 _ := ⟨fun_mk (st := sCheckDiff) l20 c20 k20, PySem.W.mg_of X G a20, (fun_mk (st := sCheckDiff) l20 c20 k20).binds (ps := ["deeds"]) fun _ _ _ _ _ _ us hl => match us, hl with | [_], _ => rfl⟩
  have D21 : Df K mg "check_group" sCheckGroup ["deeds"] f21 _ := ⟨fun_mk (st := sCheckGroup) l21 c21 k21, PySem.W.mg_of X G a21, (fun_mk (st := sCheckGroup) l21 c21 k21).binds (ps := ["deeds"]) fun _ _ _ _ _ _ us hl => match us, hl with | [_], _ => rfl⟩
  have D22 : Df K mg "check_deeds" sCheckDeeds ["deeds"] f22 _ := ⟨fun_mk (st := sCheckDeeds) l22 c22 k22, PySem.W.mg_of X G a22, (fun_mk (st := sCheckDeeds) l22 c22 k22).binds (ps := ["deeds"]) fun _ _ _ _ _ _ us hl => match us, hl with | [_], _ => rfl⟩
  have D23 : Df K mg "check_rows" sCheckRows ["rows", "many"] f23 _ := ⟨fun_mk (st := sCheckRows) l23 c23 k23, PySem.W.mg_of X G a23, (fun_mk (st := sCheckRows) l23 c23 k23).binds (ps := ["rows", "many"]) fun _ _ _ _ _ _ us hl => match us, hl with | [_, _], _ => rfl⟩
  have D24 : Df K mg "check_tells" sCheckTells ["tells", "many"] f24 _ := ⟨fun_mk (st := sCheckTells) l24 c24 k24, PySem.W.mg_of X G a24, (fun_mk (st := sCheckTells) l24 c24 k24).binds (ps := ["tells", "many"]) fun _ _ _ _ _ _ us hl => match us, hl with | [_, _], _ => rfl⟩
  have D25 : Df K mg "next_layer" sNL ["deeds", "tables", "layer", "met"] f25 _ := ⟨fun_mk (st := sNL) l25 c25 k25, PySem.W.mg_of X G a25, (fun_mk (st := sNL) l25 c25 k25).binds (ps := ["deeds", "tables", "layer", "met"]) fun _ _ _ _ _ _ us hl => match us, hl with | [_, _, _, _], _ => rfl⟩
  have D26 : Df K mg "row_to" sRT ["found", "states"] f26 _ := ⟨fun_mk (st := sRT) l26 c26 k26, PySem.W.mg_of X G a26, (fun_mk (st := sRT) l26 c26 k26).binds (ps := ["found", "states"]) fun _ _ _ _ _ _ us hl => match us, hl with | [_, _], _ => rfl⟩
  have D27 : Df K mg "first_parting" sFP ["one", "a", "other", "b"] f27 _ := ⟨fun_mk (st := sFP) l27 c27 k27, PySem.W.mg_of X G a27, (fun_mk (st := sFP) l27 c27 k27).binds (ps := ["one", "a", "other", "b"]) fun _ _ _ _ _ _ us hl => match us, hl with | [_, _, _, _], _ => rfl⟩
  have D28 : Df K mg "shrunk" sShrunk ["rows", "tells"] f28 _ := ⟨fun_mk (st := sShrunk) l28 c28 k28, PySem.W.mg_of X G a28, (fun_mk (st := sShrunk) l28 c28 k28).binds (ps := ["rows", "tells"]) fun _ _ _ _ _ _ us hl => match us, hl with | [_, _], _ => rfl⟩
  have D29 : Df K mg "alike" sAlike ["rows", "tells"] f29 _ := ⟨fun_mk (st := sAlike) l29 c29 k29, PySem.W.mg_of X G a29, (fun_mk (st := sAlike) l29 c29 k29).binds (ps := ["rows", "tells"]) fun _ _ _ _ _ _ us hl => match us, hl with | [_, _], _ => rfl⟩
  have D30 : Df K mg "numbered" sNum ["labels"] f30 _ := ⟨fun_mk (st := sNum) l30 c30 k30, PySem.W.mg_of X G a30, (fun_mk (st := sNum) l30 c30 k30).binds (ps := ["labels"]) fun _ _ _ _ _ _ us hl => match us, hl with | [_], _ => rfl⟩
  have F31 : FunD K "first_steps" "first_steps" (defArgs sFS) (defBody sFS) (defScope sFS) [.non] [] f31 _ := ⟨⟨_, _, _, _, _, _, _, _, _, _, rfl, l31, c31, .inr ⟨by simp, T31, _, [.none], nT31, rfl, lT31, rfl, (.cons rfl .nil)⟩, .inl rfl⟩, k31⟩
  obtain ⟨ds31, vd31, b031⟩ := F31.binds1 (ps := ["deeds", "tables", "begin", "most"]) 3 0 (by simp) rfl fun T kV doc pm an cdv ct us its hu hi => match us, hu, its, hi with | [_, _, _], _, [_], _ => ⟨_, rfl, rfl⟩
  have g31 : mg "first_steps" = some (.ref f31) := PySem.W.mg_of X G a31
  have F32 : FunD K "__init__" "Machine.__init__" (defArgs sMInit) (defBody sMInit) (defScope sMInit) [.int 0] [] f32 _ := ⟨⟨_, _, _, _, _, _, _, _, _, _, rfl, l32, c32, .inr ⟨by simp, T32, _, [.int 0 tc0], nT32, rfl, lT32, rfl, (.cons ⟨_, rfl⟩ .nil)⟩, .inl rfl⟩, k32⟩
  have b32 : Binds K (PySem.W.fnOf "__init__" "Machine.__init__" (defArgs sMInit) (defBody sMInit) (defScope sMInit) (.ref T32) kV32 dc32 pm32 an32 cd32 ct32) ["self", "deeds", "rows", "tells", "start"] [] := by
    obtain ⟨ds, v, b⟩ := F32.binds1 (ps := ["self", "deeds", "rows", "tells", "start"]) 5 1 (by simp) rfl fun T kV doc pm an cdv ct us its hu hi => match us, hu, its, hi with | [_, _, _, _, _], _, [_], _ => ⟨_, rfl, rfl⟩
    cases v
    exact b
  obtain ⟨ds32, vd32, b032⟩ := F32.binds1 (ps := ["self", "deeds", "rows", "tells", "start"]) 4 0 (by simp) rfl fun T kV doc pm an cdv ct us its hu hi => match us, hu, its, hi with | [_, _, _, _], _, [_], _ => ⟨_, rfl, rfl⟩
  have Mk32 : Mk K C f32 := ⟨mkC, a32, i32, kcC⟩
  have F33 := fun_mk (st := sMPart) l33 c33 k33
  have b33 : Binds K _ ["self", "other"] [] := F33.binds (ps := ["self", "other"]) fun _ _ _ _ _ _ us hl => match us, hl with | [_, _], _ => rfl
  have MT33 : Meth K C "parting" f33 := ⟨a33, i33, k33⟩
  have F34 := fun_mk (st := sMLeast) l34 c34 k34
  have b34 : Binds K _ ["self"] [] := F34.binds (ps := ["self"]) fun _ _ _ _ _ _ us hl => match us, hl with | [_], _ => rfl
  have MT34 : Meth K C "least" f34 := ⟨a34, i34, k34⟩
  have F35 := fun_mk (st := sMReach) l35 c35 k35
  have b35 : Binds K _ ["self"] [] := F35.binds (ps := ["self"]) fun _ _ _ _ _ _ us hl => match us, hl with | [_], _ => rfl
  have MT35 : Meth K C "reached" f35 := ⟨a35, i35, k35⟩
  have F36 := fun_mk (st := sMEq) l36 c36 k36
  have b36 : Binds K _ ["self", "other"] [] := F36.binds (ps := ["self", "other"]) fun _ _ _ _ _ _ us hl => match us, hl with | [_, _], _ => rfl
  have F37 := fun_mk (st := sMLen) l37 c37 k37
  have b37 : Binds K _ ["self"] [] := F37.binds (ps := ["self"]) fun _ _ _ _ _ _ us hl => match us, hl with | [_], _ => rfl
  have FEO := fun_mk (st := sOtherDeeds) l38 c38 k38
  have OO : OOtherDeeds K mg EO f38 _ := ⟨⟨⟨nmO, qnO, NO, bsO, _, snO, subO, abO, colO, ddO, m0O, m1O, m2O, m3O, m5O, xO, rfl⟩, saO, eO, tO, kkO⟩, ⟨gaO, ggO, eO, hO⟩, PySem.W.mg_of X G aO, a38, t38, (fun f hf => by
      simp only [List.mem_cons, List.not_mem_nil, or_false] at hf
      rcases hf with rfl | rfl
      · exact noO_have
      · exact noO_want), FEO, FEO.binds (ps := ["self", "have", "want"]) fun _ _ _ _ _ _ us hl => match us, hl with | [_, _, _], _ => rfl⟩
  refine ⟨PySem.W.fnOf "law" "law" (defArgs sLaw) (defBody sLaw) (defScope sLaw) .none kV15 dc15 pm15 an15 cd15 ct15, [], spLaw K, ?_, ?_, ?_, fun s v => .of_eq rfl, ?_, fun base _ _ TB => ?_⟩
  · intro p hp
    exact nomatch hp
  · intro p hp
    exact nomatch hp
  · intro p hp
    exact nomatch hp
  · intro H a ns hns _ _ hS
    exact ⟨a, ns, rfl, hS, hns, fun _ => rfl⟩
  · have BT : Bt2 mg := ⟨⟨PySem.W.mg_none_of X G z_int, PySem.W.mg_none_of X G z_len, PySem.W.mg_none_of X G z_list, PySem.W.mg_none_of X G z_range, PySem.W.mg_none_of X G z_tuple⟩, PySem.W.mg_none_of X G z_isinstance, PySem.W.mg_none_of X G z_bool, PySem.W.mg_none_of X G z_str, PySem.W.mg_none_of X G z_all, PySem.W.mg_none_of X G z_enumerate, PySem.W.mg_none_of X G z_min, ⟨_, PySem.W.mg_of X G co_LETTERS⟩, ⟨_, PySem.W.mg_of X G co_DIGITS⟩, ⟨_, PySem.W.mg_of X G co_LONGEST_WORD⟩, ⟨_, PySem.W.mg_of X G co_LONGEST_TELL⟩, ⟨_, PySem.W.mg_of X G co_MOST_DEEDS⟩, ⟨_, PySem.W.mg_of X G co_MOST_STATES⟩⟩
    have B1 : Bt mg := BT.toBt
    have MT : Tm K mg C := ⟨⟨pgC, hdC, poC, saC⟩, nC_deeds, nC_rows, nC_tells, nC_start, PySem.W.mg_of X G aC⟩
    have GI : FnOk l.prog w K mg base L2.CX0 5 f32 _ pInit (spMInit K C) := ok_minit F32 MT BT D22 D21 D20 D18 D23 D17 D16 D24 D19
    have GP : FnOk l.prog w K mg base L2.CX0 2 _ _ pFP (spFP K C) := ok_fp D27 D25 D26 MT BT (PySem.W.mg_none_of X G z_zip)
    have GA : FnOk l.prog w K mg base (L2.CX l.prog w) 3 f33 _ pPt (spPart K C EO) := ok_part F33 MT BT D27 GP OO
    have GR : FnOk l.prog w K mg base L2.CX0 3 f35 _ ["self"] (spReach K C) := ok_reach F35 MT BT (PySem.W.mg_none_of X G z_zip) F31 g31 b031 vd31 D25 D26
    have GL : FnOk l.prog w K mg base L2.CX0 7 f34 _ ["self"] (spLeast K C) := ok_least F34 MT BT (PySem.W.mg_none_of X G z_set) MT35 b35 GR D28 D29 D30 Mk32 b032 vd32 GI
    have GQ : FnOk l.prog w K mg base L2.CX0 1 f36 _ pEq (spMEq K C) := ok_meq F36 MT ⟨ca_C, cs_C, ct_C, cm_C⟩ BT
    have FF : Fs l.prog w K mg base C EO := ⟨BT, MT,
      ⟨_, _, D1.g, D1.F.kp, D1.b, ok_pen D1 B1⟩,
      ⟨_, _, D2.g, D2.F.kp, D2.b, ok_draw D2.F B1⟩,
      ⟨_, _, D5.g, D5.F.kp, D5.b, ok_words D5 D2 D3 B1⟩,
      ⟨_, _, D7.g, D7.F.kp, D7.b, ok_plain D7 D2 D3 B1⟩,
      ⟨_, _, D8.g, D8.F.kp, D8.b, ok_made D8 MT BT Mk32 GI b32⟩,
      ⟨_, _, D12.g, D12.F.kp, D12.b, ok_corel D12 D11 D10 D6 D9 B1⟩,
      ⟨_, _, D13.g, D13.F.kp, D13.b, ok_ism D13 MT BT F37 b37 ⟨a37, i37⟩⟩,
      ⟨_, _, D14.g, D14.F.kp, D14.b, ok_otherw D14 D2 D4 B1⟩,
      ⟨_, _, MT33, b33, GA⟩, ⟨_, _, MT34, b34, core_ok GL⟩, ⟨_, _, ⟨a36, i36, neC, cm_C⟩, b36, GQ⟩⟩
    exact ok_law FF D15.F

theorem walk {l : PySem.W.OpenLaw} {q : Program} {loose : List Str} {XP : (Str → Option Value) → Heap → Prop} {YP : World → Heap → Prop} {d : DefRec} {K : Params → PySem.W.Frag} (hn : l.most = some 63) (hdf : d.params.defaults = [])
    (hY : ∀ (w : World) (h : Heap), YP w h → (K w.params).In h)
    (F : ∀ (w : World) (mg : Str → Option Value) (fa : Addr) (h : Heap), (K w.params).In h → h.Ns mainGlobals mg → mg d.name = some (.ref fa) → OwnTabs q mg h → LawAtS l w (K w.params) L2.CX0 8 63 "_law_script" mg fa h) :
    PySem.W.WalkO q loose XP YP l.row.toRowW d [] (fun f vs => PySem.call f vs) :=
  walk_tabs (n := 63) (k := 8) (x := "_law_script") (CX := fun _ => L2.CX0) hn (by decide) hdf ⟨rfl, by decide, by decide⟩ hY (fun w mg fa h _ => F w mg fa h) fun _ _ _ _ _ z => z
end K1
open PySem PySem.W PyProof.Rows in
set_option maxRecDepth 100000 in
set_option maxHeartbeats 0 in
theorem PySem.Challenge.cw_betweenlooks_k06_whole_least_machines_holds : PySem.Challenge.rw_betweenlooks_k06_whole_least_machines.Holds := by
  w_on; o_law; k_head; (case hw => w_witness2)
  k_fill
  refine K1.walk (l := PySem.Challenge.rw_betweenlooks_k06_whole_least_machines) rfl rfl (fun w h Y => PySem.W.kIn_of Y) ?F
  case F =>
    intro w mg fa h KX G hmg OT
    refine' K1.all_mk KX G hmg OT ?a1 ?l1 ?c1 ?k1 ?a2 ?l2 ?c2 ?k2 ?a3 ?l3 ?c3 ?k3 ?a4 ?l4 ?c4 ?k4 ?a5 ?l5 ?c5 ?k5 ?a6 ?l6 ?c6 ?k6 ?a7 ?l7 ?c7 ?k7 ?a8 ?l8 ?c8 ?k8 ?a9 ?l9 ?c9 ?k9 ?a10 ?l10 ?c10 ?k10 ?a11 ?l11 ?c11 ?k11 ?a12 ?l12 ?c12 ?k12 ?a13 ?l13 ?c13 ?k13 ?a14 ?l14 ?c14 ?k14 ?a15 ?l15 ?c15 ?k15 ?a16 ?l16 ?c16 ?k16 ?a17 ?l17 ?c17 ?k17 ?a18 ?l18 ?c18 ?k18 ?a19 ?l19 ?c19 ?k19 ?a20 ?l20 ?c20 ?k20 ?a21 ?l21 ?c21 ?k21 ?a22 ?l22 ?c22 ?k22 ?a23 ?l23 ?c23 ?k23 ?a24 ?l24 ?c24 ?k24 ?a25 ?l25 ?c25 ?k25 ?a26 ?l26 ?c26 ?k26 ?a27 ?l27 ?c27 ?k27 ?a28 ?l28 ?c28 ?k28 ?a29 ?l29 ?c29 ?k29 ?a30 ?l30 ?c30 ?k30 ?a31 ?l31 ?c31 ?k31 ?lT31 ?aC ?pgC ?hdC ?poC ?saC ?mkC ?kcC ?nC_deeds ?nC_rows ?nC_tells ?nC_start ?a32 ?i32 ?l32 ?c32 ?k32 ?lT32 ?a33 ?i33 ?l33 ?c33 ?k33 ?a34 ?i34 ?l34 ?c34 ?k34 ?a35 ?i35 ?l35 ?c35 ?k35 ?a36 ?i36 ?l36 ?c36 ?k36 ?a37 ?i37 ?l37 ?c37 ?k37 ?neC ?ca_C ?cs_C ?ct_C ?cm_C ?a00 ?aO ?xO ?saO ?gaO ?ggO ?eO ?tO ?kkO ?hO ?iO ?noO_have ?noO_want ?a38 ?t38 ?l38 ?c38 ?k38 ?co_LETTERS ?co_DIGITS ?co_LONGEST_WORD ?co_LONGEST_TELL ?co_MOST_DEEDS ?co_MOST_STATES ?z_int ?z_len ?z_list ?z_range ?z_tuple ?z_isinstance ?z_bool ?z_str ?z_all ?z_enumerate ?z_min ?z_zip ?z_set
    (case a1 => k_is)
    (case l1 => k_is)
    (case c1 => k_is)
    (case k1 => k_is)
    (case a2 => k_is)
    (case l2 => k_is)
    (case c2 => k_is)
    (case k2 => k_is)
    (case a3 => k_is)
    (case l3 => k_is)
    (case c3 => k_is)
    (case k3 => k_is)
    (case a4 => k_is)
    (case l4 => k_is)
    (case c4 => k_is)
    (case k4 => k_is)
    (case a5 => k_is)
    (case l5 => k_is)
    (case c5 => k_is)
    (case k5 => k_is)
    (case a6 => k_is)
    (case l6 => k_is)
    (case c6 => k_is)
    (case k6 => k_is)
    (case a7 => k_is)
    (case l7 => k_is)
    (case c7 => k_is)
    (case k7 => k_is)
    (case a8 => k_is)
    (case l8 => k_is)
    (case c8 => k_is)
    (case k8 => k_is)
    (case a9 => k_is)
    (case l9 => k_is)
    (case c9 => k_is)
    (case k9 => k_is)
    (case a10 => k_is)
    (case l10 => k_is)
    (case c10 => k_is)
    (case k10 => k_is)
    (case a11 => k_is)
    (case l11 => k_is)
    (case c11 => k_is)
    (case k11 => k_is)
    (case a12 => k_is)
    (case l12 => k_is)
    (case c12 => k_is)
    (case k12 => k_is)
    (case a13 => k_is)
    (case l13 => k_is)
    (case c13 => k_is)
    (case k13 => k_is)
    (case a14 => k_is)
    (case l14 => k_is)
    (case c14 => k_is)
    (case k14 => k_is)
    (case a15 => k_is)
    (case l15 => k_is)
    (case c15 => k_is)
    (case k15 => k_is)
    (case a16 => k_is)
    (case l16 => k_is)
    (case c16 => k_is)
    (case k16 => k_is)
    (case a17 => k_is)
    (case l17 => k_is)
    (case c17 => k_is)
    (case k17 => k_is)
    (case a18 => k_is)
    (case l18 => k_is)
    (case c18 => k_is)
    (case k18 => k_is)
    (case a19 => k_is)
    (case l19 => k_is)
    (case c19 => k_is)
    (case k19 => k_is)
    (case a20 => k_is)
    (case l20 => k_is)
    (case c20 => k_is)
    (case k20 => k_is)
    (case a21 => k_is)
    (case l21 => k_is)
    (case c21 => k_is)
    (case k21 => k_is)
    (case a22 => k_is)
    (case l22 => k_is)
    (case c22 => k_is)
    (case k22 => k_is)
    (case a23 => k_is)
    (case l23 => k_is)
    (case c23 => k_is)
    (case k23 => k_is)
    (case a24 => k_is)
    (case l24 => k_is)
    (case c24 => k_is)
    (case k24 => k_is)
    (case a25 => k_is)
    (case l25 => k_is)
    (case c25 => k_is)
    (case k25 => k_is)
    (case a26 => k_is)
    (case l26 => k_is)
    (case c26 => k_is)
    (case k26 => k_is)
    (case a27 => k_is)
    (case l27 => k_is)
    (case c27 => k_is)
    (case k27 => k_is)
    (case a28 => k_is)
    (case l28 => k_is)
    (case c28 => k_is)
    (case k28 => k_is)
    (case a29 => k_is)
    (case l29 => k_is)
    (case c29 => k_is)
    (case k29 => k_is)
    (case a30 => k_is)
    (case l30 => k_is)
    (case c30 => k_is)
    (case k30 => k_is)
    (case a31 => k_is)
    (case l31 => k_is)
    (case c31 => k_is)
    (case k31 => k_is)
    (case lT31 => k_is)
    (case aC => k_is)
    (case pgC => k_is)
    (case hdC => k_is)
    (case poC => k_is)
    (case saC => k_is)
    (case mkC => k_is)
    (case kcC => k_is)
    (case nC_deeds => k_is)
    (case nC_rows => k_is)
    (case nC_tells => k_is)
    (case nC_start => k_is)
    (case a32 => k_is)
    (case i32 => k_is)
    (case l32 => k_is)
    (case c32 => k_is)
    (case k32 => k_is)
    (case lT32 => k_is)
    (case a33 => k_is)
    (case i33 => k_is)
    (case l33 => k_is)
    (case c33 => k_is)
    (case k33 => k_is)
    (case a34 => k_is)
    (case i34 => k_is)
    (case l34 => k_is)
    (case c34 => k_is)
    (case k34 => k_is)
    (case a35 => k_is)
    (case i35 => k_is)
    (case l35 => k_is)
    (case c35 => k_is)
    (case k35 => k_is)
    (case a36 => k_is)
    (case i36 => k_is)
    (case l36 => k_is)
    (case c36 => k_is)
    (case k36 => k_is)
    (case a37 => k_is)
    (case i37 => k_is)
    (case l37 => k_is)
    (case c37 => k_is)
    (case k37 => k_is)
    (case neC => k_is)
    (case ca_C => k_is)
    (case cs_C => k_is)
    (case ct_C => k_is)
    (case cm_C => k_is)
    (case a00 => k_is)
    (case aO => k_is)
    (case xO => k_is)
    (case saO => k_is)
    (case gaO => k_is)
    (case ggO => k_is)
    (case eO => k_is)
    (case tO => k_is)
    (case kkO => k_is)
    (case hO => k_is)
    (case iO => k_is)
    (case noO_have => k_is)
    (case noO_want => k_is)
    (case a38 => k_is)
    (case t38 => k_is)
    (case l38 => k_is)
    (case c38 => k_is)
    (case k38 => k_is)
    (case co_LETTERS => k_is)
    (case co_DIGITS => k_is)
    (case co_LONGEST_WORD => k_is)
    (case co_LONGEST_TELL => k_is)
    (case co_MOST_DEEDS => k_is)
    (case co_MOST_STATES => k_is)
    (case z_int => k_is)
    (case z_len => k_is)
    (case z_list => k_is)
    (case z_range => k_is)
    (case z_tuple => k_is)
    (case z_isinstance => k_is)
    (case z_bool => k_is)
    (case z_str => k_is)
    (case z_all => k_is)
    (case z_enumerate => k_is)
    (case z_min => k_is)
    (case z_zip => k_is)
    (case z_set => k_is)
