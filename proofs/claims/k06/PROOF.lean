import PyProof.Rows.All
import Wide.All
import OpenK.AllK
import Wide.FinOn
import HandS.ForMost
import HandS.More
import HandS.Walk
import HandS.Codes
import HandS.Strs
import HandS.Style
import HandS.IsInst
import HandS.Zip
import HandS.TupSets
import KE.SortData
import KE.GoesEnum
import HandS.NoneIn
import HandS.TupAny
import HandS.DictComp
import PyProof.WalksMore
import HandS.ExcInit
import HandS.CallSlots
import KE.KExcInit
import KE.KExcIs
import KE.KTryMore
import HandS.WordsExc
import HandS.ExcOwn
import HandS.ExcValue
import HandS.Defaults
import KE.DataFind
import KE.DataCmp
import HandS.Text
import HandS.Sort
import KE.KEqNest
import HandS.ListItems
import KE.GoesMore
import HandS.FStr
import HandS.Star
import KE.DataMinMax
import PySem.Challenge.RW_heapfriends_k06_errors_and_limits
set_option Elab.async false
set_option linter.all false
set_option maxRecDepth 100000
set_option maxHeartbeats 4000000
namespace HF
open PySem PySem.Spec PyProof.Rows L2
/-! ### a box of draws: what is left of the great number, the seed, how many draws -/
def Bx (H : Hp) (p : Addr) (c : Int) : Prop := ∃ a b : Int, H p = some (.lst [.int a, .int b, .int c]) ∧ 0 ≤ a ∧ 0 ≤ b ∧ b < 2 ^ 40 ∧ 0 ≤ c
/-- all but what stands at p stays -/
def Oth (p : Addr) (H H' : Hp) : Prop := ∀ b x, H b = some x → b ≠ p → H' b = some x
theorem Oth.refl (p : Addr) (H : Hp) : Oth p H H := fun _ _ h _ => h
theorem Oth.trans {p : Addr} {H H1 H2 : Hp} (a : Oth p H H1) (b : Oth p H1 H2) : Oth p H H2 := fun c o h n => b c o (a c o h n) n
theorem Oth.of {p : Addr} {H H1 : Hp} (a : Same H H1) : Oth p H H1 := fun c o h _ => a c o h
theorem Oth.put {p : Addr} {H : Hp} {o : HO} : Oth p H (upd H p o) := fun c x h n => by
  rw [upd_ne n]
  exact h
theorem Oth.seq {K : PySem.W.Frag} {p a : Addr} {H H' : Hp} {xs : List V} (e : Oth p H H') (n : a ≠ p) (h : SqL K H a xs) : SqL K H' a xs := by
  rcases h with (h | ⟨o, h⟩) | h
  · exact .inl (.inl (e _ _ h n))
  · exact .inl (.inr ⟨o, e _ _ h n⟩)
  · exact .inr h
theorem same_upd {H : Hp} {p : Addr} {o : HO} (h : H p = none) : Same H (upd H p o) := fun b x e => by
  rw [upd_ne (ne_of_none e h)]
  exact e
theorem sameT {K : PySem.W.Frag} {a : Addr} {H H' : Hp} {xs : List V} (e : Same H H') (h : SqT K H a xs) : SqT K H' a xs := by
  rcases h with (h | ⟨o, h⟩) | h
  · exact .inl (.inl (e _ _ h))
  · exact .inl (.inr ⟨o, e _ _ h⟩)
  · exact .inr h
theorem fmod_in (a : Int) {m : Int} (h : 0 < m) : 0 ≤ a.fmod m ∧ a.fmod m < m := by
  rw [Int.fmod_eq_emod_of_nonneg _ (by omega)]
  exact ⟨Int.emod_nonneg _ (by omega), Int.emod_lt_of_pos _ h⟩
theorem b01 (b : Bool) : -(2 ^ 64) < (if b = true then 1 else 0 : Int) ∧ (if b = true then 1 else 0 : Int) < 2 ^ 64 := by cases b <;> decide
theorem nz {n : Int} (h : 0 < n) : n ≠ 0 := by omega
theorem fdiv_nn {a m : Int} (h0 : 0 ≤ a) (h : 0 < m) : 0 ≤ a.fdiv m := by
  rw [Int.fdiv_eq_ediv_of_nonneg _ (by omega)]
  exact Int.ediv_nonneg h0 (by omega)
/-! ### a draw -/
def spTake : Sp := fun vs H Q _ => ∃ (p : Addr) (m c : Int), vs = [.ref p, .int m] ∧ Bx H p c ∧ c < 2 ^ 40 ∧ 0 < m ∧ m < 1000000 ∧
  ∀ (r c' : Int) (o : HO), 0 ≤ r → r < m → c ≤ c' → c' ≤ c + 1 → Bx (upd H p o) p c' → Q (.int r) (upd H p o)
/-! ### a box -/
def spBox (K : PySem.W.Frag) : Sp := fun vs H Q _ => ∃ (a : Addr) (ns : List Int) (k : Nat), vs = [.ref a, .int k] ∧ SqL K H a (ns.map V.int) ∧ k ≤ 63 ∧
  ∀ (p : Addr) (o : HO), H p = none → Bx (upd H p o) p 0 → Q (.ref p) (upd H p o)
end HF
namespace HF
open PySem PySem.Spec PyProof.Rows L2
theorem Bx.ne {H : Hp} {p l : Addr} {c : Int} {o : HO} (h : Bx H p c) (n : p ≠ l) : Bx (upd H l o) p c := by
  obtain ⟨a, b, e, r⟩ := h
  exact ⟨a, b, by rw [upd_ne n]; exact e, r⟩
theorem Bx.new {H : Hp} {p l : Addr} {c : Int} (h : Bx H p c) (n : H l = none) : p ≠ l := by
  obtain ⟨a, b, e, r⟩ := h
  exact ne_of_none e n
theorem Bx.nn {H : Hp} {p : Addr} {c : Int} (h : Bx H p c) : 0 ≤ c := by
  obtain ⟨a, b, e, _, _, _, r⟩ := h
  exact r
theorem Oth.new {p l : Addr} {H H1 : Hp} {o : HO} (a : Oth p H H1) (n : H l = none) : Oth p H (upd H1 l o) := fun b x e np => by
  rw [upd_ne (ne_of_none e n)]
  exact a b x e np
def Sq (K : PySem.W.Frag) (H : Hp) (a : Addr) (xs : List V) : Prop := SqL K H a xs ∨ SqT K H a xs
theorem Oth.sqT {K : PySem.W.Frag} {p a : Addr} {H H' : Hp} {xs : List V} (e : Oth p H H') (n : a ≠ p) (h : SqT K H a xs) : SqT K H' a xs := by
  rcases h with (h | ⟨o, h⟩) | h
  · exact .inl (.inl (e _ _ h n))
  · exact .inl (.inr ⟨o, e _ _ h n⟩)
  · exact .inr h
theorem Oth.sq {K : PySem.W.Frag} {p a : Addr} {H H' : Hp} {xs : List V} (e : Oth p H H') (n : a ≠ p) (h : Sq K H a xs) : Sq K H' a xs := by
  rcases h with h | h
  · exact .inl (e.seq n h)
  · exact .inr (e.sqT n h)
theorem ins_perm {α : Type} (ys : List α) (x : α) (r : Nat) : (ys.take r ++ [x] ++ ys.drop r).Perm (ys ++ [x]) := by
  rw [List.append_assoc]
  refine (List.perm_append_comm_assoc _ _ _).trans ?_
  rw [List.take_append_drop]
  exact List.perm_append_comm
def spStrewn (K : PySem.W.Frag) : Sp := fun vs H Q _ => ∃ (p a : Addr) (c : Int) (xs : List V), vs = [.ref p, .ref a] ∧ Bx H p c ∧ c < 2 ^ 39 ∧ a ≠ p ∧ Sq K H a xs ∧ xs.length ≤ 1000 ∧
  ∀ (H' : Hp) (l : Addr) (ys : List V) (c' : Int), H l = none → Oth p H H' → H' l = some (.lst ys) → ys.Perm xs → Bx H' p c' → c ≤ c' → c' ≤ c + xs.length → Q (.ref l) H'
end HF
namespace HF
open PySem PySem.Spec PyProof.Rows L2
/-! ### names: texts of one to six letters -/
def Lt (l : List Nat) : Prop := ∀ c ∈ l, 97 ≤ c ∧ c ≤ 122
def Nm (z : Str) : Prop := 1 ≤ z.cps.toList.length ∧ z.cps.toList.length ≤ 6 ∧ Lt z.cps.toList
abbrev abc : Str := "abcdefghijklmnopqrstuvwxyz"
theorem abc_tl : abc.cps.toList = (List.range 26).map (97 + ·) := by decide +kernel
theorem abc_len : abc.length = 26 := by decide +kernel
theorem abc_at {r : Int} (h0 : 0 ≤ r) (h1 : r < 26) : ∃ c, atI abc.cps.toList r = some c ∧ 97 ≤ c ∧ c ≤ 122 := by
  obtain ⟨n, rfl⟩ := Int.eq_ofNat_of_zero_le h0
  have hn : n < 26 := by omega
  refine ⟨97 + n, atI_nat (j := n) ?_, by omega, by omega⟩
  rw [abc_tl, List.getElem?_map, List.getElem?_range hn]
  rfl
theorem cut5 (z : Str) : cutS z none (some 5) = ⟨(z.cps.toList.take 5).toArray⟩ := by
  unfold cutS
  rw [HT.sIx_none, show HT.sIx z.length z.length (some 5) = min 5 z.length from HT.sIx_nat _ _ 5, List.drop_zero, Nat.sub_zero]
  have e : z.length = z.cps.toList.length := by
    rw [Array.length_toList]
    rfl
  rw [e, Nat.min_comm, ← List.take_take, List.take_of_length_le (l := List.take 5 z.cps.toList) (by
    rw [List.length_take]
    omega)]
theorem join_one (cs : List Nat) : Txt.join "" (cs.map fun c => (⟨#[c]⟩ : Str)) = ⟨cs.toArray⟩ := by
  have h : ∀ l : List Nat, TL.joinL [] (l.map fun c => [c]) = l := by
    intro l
    induction l with
    | nil => rfl
    | cons a r ih =>
      cases r with
      | nil => rfl
      | cons b t =>
        show [a] ++ ([] ++ TL.joinL [] ((b :: t).map fun c => [c])) = a :: b :: t
        rw [ih]
        rfl
  have h2 := SX.join_S [] (cs.map fun c => [c])
  rw [h, List.map_map] at h2
  exact h2
theorem app_tl (a b : Str) : (a ++ b).cps.toList = a.cps.toList ++ b.cps.toList := by
  show (a.cps ++ b.cps).toList = _
  rw [Array.toList_append]
theorem Lt.take {l : List Nat} (h : Lt l) (n : Nat) : Lt (l.take n) := fun c hc => h c (List.mem_of_mem_take hc)
theorem Lt.snoc {l : List Nat} {c : Nat} (h : Lt l) (h1 : 97 ≤ c) (h2 : c ≤ 122) : Lt (l ++ [c]) := fun x hx => by
  rcases List.mem_append.mp hx with q | q
  · exact h x q
  · rw [List.mem_singleton.mp q]
    exact ⟨h1, h2⟩
def cand (z : Str) (c : Nat) : Str := cutS z none (some 5) ++ ⟨#[c]⟩
theorem cand_tl (z : Str) (c : Nat) : (cand z c).cps.toList = z.cps.toList.take 5 ++ [c] := by
  unfold cand
  rw [app_tl, cut5]
theorem cand_nm {z : Str} {c : Nat} (h : Nm z) (h1 : 97 ≤ c) (h2 : c ≤ 122) : Nm (cand z c) := by
  unfold Nm
  rw [cand_tl]
  refine ⟨?_, ?_, (h.2.2.take 5).snoc h1 h2⟩
  · rw [List.length_append]
    show 1 ≤ _ + 1
    omega
  · rw [List.length_append, List.length_take]
    show _ + 1 ≤ 6
    omega
theorem cand_inj {z : Str} {c d : Nat} (h : cand z c = cand z d) : c = d := by
  have e := congrArg (fun x : Str => x.cps.toList) h
  simp only [cand_tl] at e
  have e2 := List.append_cancel_left e
  exact (List.cons.inj e2).1
theorem str_len (z : Str) : z.length = z.cps.toList.length := by
  rw [Array.length_toList]
  rfl
/-- unlike ones among others are no more than these -/
theorem nodup_le {α : Type} [DecidableEq α] : ∀ (l m : List α), l.Nodup → (∀ x ∈ l, x ∈ m) → l.length ≤ m.length
  | [], _, _, _ => Nat.zero_le _
  | a :: r, m, hn, hs => by
    have hn2 := List.nodup_cons.mp hn
    have ha : a ∈ m := hs a (List.mem_cons_self)
    have hr : ∀ x ∈ r, x ∈ m.erase a := fun x hx => by
      have hne : x ≠ a := fun e => hn2.1 (e ▸ hx)
      exact (List.mem_erase_of_ne hne).mpr (hs x (List.mem_cons_of_mem _ hx))
    have := nodup_le r (m.erase a) hn2.2 hr
    rw [List.length_erase_of_mem ha] at this
    have hp : 0 < m.length := List.length_pos_of_mem ha
    show r.length + 1 ≤ m.length
    omega
/-- a name that isn't there yet, of these -/
def cands (z : Str) : List Str := z :: (List.range 26).map fun i => cand z (97 + i)
theorem cands_free (z : Str) (zs : List Str) (h : zs.length < 26) : ∃ y r, (cands z).filter (fun y => decide (y ∉ zs)) = y :: r ∧ y ∈ cands z ∧ y ∉ zs := by
  cases e : (cands z).filter (fun y => decide (y ∉ zs)) with
  | nil =>
    exfalso
    have hall : ∀ y ∈ (List.range 26).map (fun i => cand z (97 + i)), y ∈ zs := fun y hy => by
      have := List.filter_eq_nil_iff.mp e y (List.mem_cons_of_mem _ hy)
      simpa using this
    have hnd : ((List.range 26).map (fun i => cand z (97 + i))).Nodup := by
      refine List.pairwise_map.mpr ((List.nodup_range (n := 26)).imp fun hab q => hab ?_)
      have := cand_inj q
      omega
    have := nodup_le _ _ hnd hall
    rw [List.length_map, List.length_range] at this
    omega
  | cons y r =>
    have hm : y ∈ (cands z).filter (fun y => decide (y ∉ zs)) := by
      rw [e]
      exact List.mem_cons_self
    obtain ⟨h1, h2⟩ := List.mem_filter.mp hm
    exact ⟨y, r, rfl, h1, of_decide_eq_true h2⟩
theorem cands_nm {z y : Str} (h : Nm z) (hy : y ∈ cands z) : Nm y := by
  rcases List.mem_cons.mp hy with q | q
  · rw [q]
    exact h
  · obtain ⟨i, hi, rfl⟩ := List.mem_map.mp q
    have := List.mem_range.mp hi
    exact cand_nm h (by omega) (by omega)
end HF
namespace HF
open PySem PySem.Spec PyProof.Rows L2
theorem strs_all {xs : List Str} : (xs.map V.str).all flatV = true := by
  rw [List.all_eq_true]
  intro x hx
  obtain ⟨z, _, rfl⟩ := List.mem_map.mp hx
  rfl
theorem at3 {r : Int} (h0 : 0 ≤ r) (h1 : r < 3) : ∃ j : Nat, atI [V.int 1, V.int 6, V.int 2] r = some (V.int j) ∧ 1 ≤ j ∧ j ≤ 6 := by
  obtain ⟨n, rfl⟩ := Int.eq_ofNat_of_zero_le h0
  match n, h1 with
  | 0, _ => exact ⟨1, atI_nat (j := 0) rfl, by decide, by decide⟩
  | 1, _ => exact ⟨6, atI_nat (j := 1) rfl, by decide, by decide⟩
  | 2, _ => exact ⟨2, atI_nat (j := 2) rfl, by decide, by decide⟩
  | n + 3, h => omega
theorem lt_nil : Lt [] := fun _ h => nomatch h
theorem sz27 (nm : Str) : [V.str nm].length + (List.map V.str (List.map (fun x => cand nm (97 + x)) (List.range abc.cps.size))).length ≤ sizeLine := by
  rw [List.length_map, List.length_map, List.length_range]
  show 1 + abc.cps.size ≤ sizeLine
  decide +kernel
theorem inV_strs (y : Str) (zs : List Str) : inV (.str y) (zs.map V.str) = decide (y ∈ zs) := by
  unfold inV
  rw [List.any_map]
  by_cases h : y ∈ zs
  · rw [decide_eq_true h, List.any_eq_true]
    exact ⟨y, h, by simp [eqV]⟩
  · rw [decide_eq_false h, List.any_eq_false]
    intro z hz e
    have e2 : z = y := by simpa [eqV] using e
    exact h (e2 ▸ hz)
theorem Nm.ok {z : Str} (h : Nm z) : PyData.strOk z = true := by
  unfold PyData.strOk
  rw [← Array.all_toList, List.all_eq_true]
  intro c hc
  have := h.2.2 c hc
  simp
  omega
theorem canLay_strs : ∀ {zs : List Str}, (∀ z ∈ zs, Nm z) → PyData.canLayAll0 (zs.map PyData.str) = true
  | [], _ => rfl
  | z :: r, h => by
    show (PyData.strOk z && PyData.canLayAll0 (r.map PyData.str)) = true
    rw [(h z List.mem_cons_self).ok, canLay_strs fun y hy => h y (List.mem_cons_of_mem _ hy)]
    rfl
theorem depth_strs : ∀ zs : List Str, PyData.depthAll (zs.map PyData.str) = 0
  | [] => rfl
  | z :: r => by
    show max 0 (PyData.depthAll (r.map PyData.str)) = 0
    rw [depth_strs r]
    rfl
theorem shaped_strs {zs : List Str} (h : ∀ z ∈ zs, Nm z) : SeqAt.shaped (.list (zs.map PyData.str)) = true := by
  show (PyData.canLayAll0 (zs.map PyData.str) && decide (PyData.depthAll (zs.map PyData.str) + 1 ≤ 64)) = true
  rw [canLay_strs h, depth_strs]
  rfl
theorem dp_strs {K : PySem.W.Frag} {H : Hp} : ∀ zs : List Str, DpAll K H (zs.map V.str) (zs.map PyData.str)
  | [] => .nil
  | z :: r => .cons (.str z) (dp_strs r)
theorem ones_sum : ∀ cs : List Nat, ((cs.map fun c => (⟨#[c]⟩ : Str)).map (·.length)).sum = cs.length
  | [] => rfl
  | c :: r => by
    show 1 + ((r.map fun c => (⟨#[c]⟩ : Str)).map (·.length)).sum = r.length + 1
    rw [ones_sum r]
    omega
theorem Oth.none {p l : Addr} {H H1 : Hp} {c : Int} (a : Oth p H H1) (hb : Bx H1 p c) (n : H1 l = Option.none) : H l = Option.none := by
  cases e : H l with
  | none => rfl
  | some o =>
    have hl : l ≠ p := fun z => by
      subst z
      obtain ⟨x, y, e2, _⟩ := hb
      rw [e2] at n
      cases n
    rw [a l o e hl] at n
    cases n
def spNames (K : PySem.W.Frag) : Sp := fun vs H Q _ => ∃ (p : Addr) (c : Int) (n : Nat), vs = [.ref p, .int n] ∧ Bx H p c ∧ c < 2 ^ 39 ∧ n ≤ 20 ∧
  ∀ (H' : Hp) (l : Addr) (zs : List Str) (c' : Int), H l = none → Oth p H H' → H' l = some (.lst (zs.map V.str)) → zs.length = n → zs.Nodup → (∀ z ∈ zs, Nm z) → sortedS zs = true → Bx H' p c' → c ≤ c' → c' ≤ c + 10 * n → Q (.ref l) H'
end HF
/-! rules of my own over the hand layer -/
namespace HF
open PySem PySem.Spec PyProof.Rows L2
/-- a tuple whose object is known: a plain one -/
def Tp (H : Hp) (a : Addr) (xs : List V) : Prop := ∃ ob : Obj, H a = some (.frz ob (.tup xs)) ∧ ob.cls = .type "tuple" ∧ ob.dict = none
theorem Tp.sq {K : PySem.W.Frag} {H : Hp} {a : Addr} {xs : List V} (h : Tp H a xs) : SqT K H a xs := by
  obtain ⟨ob, e, _⟩ := h
  exact .inl (.inr ⟨ob, e⟩)
theorem Tp.oth {p a : Addr} {H H' : Hp} {xs : List V} (h : Tp H a xs) (o : Oth p H H') (n : a ≠ p) : Tp H' a xs := by
  obtain ⟨ob, e, r⟩ := h
  exact ⟨ob, o _ _ e n, r⟩
theorem Tp.same {a : Addr} {H H' : Hp} {xs : List V} (h : Tp H a xs) (o : Same H H') : Tp H' a xs := by
  obtain ⟨ob, e, r⟩ := h
  exact ⟨ob, o _ _ e, r⟩
section
variable {X : Cx}
theorem call_tupleF : CallR X (.type "tuple") (fun us H Q => ∃ p ys, us = [.ref p] ∧ SqL X.K H p ys ∧ ∀ l ob, H l = none → ob.cls = .type "tuple" → ob.dict = none → Q (.ref l) (upd H l (.frz ob (.tup ys)))) := by
  intro pins st σ H xs ws Q I rel hyp
  obtain ⟨p, ys, rfl, hq, q⟩ := hyp
  obtain ⟨wv, rfl, rw1⟩ := vals1 rel
  cases rw1
  obtain ⟨its, rI, isl, hsz⟩ := I.list hq
  have hle := rI.length
  refine call_tuple_list isl.isList (fun h1 kp1 => ?_) (by simp only [List.size_toArray] <;> omega)
  have J : Inv X pins σ H { st with heap := h1 } := I.kept (t' := st.toks) kp1
  let ob : Obj := { cls := .type "tuple", data := .seq its.toArray }
  have J2 : Inv X pins σ (upd H h1.objs.size (.frz ob (.tup ys))) { st with heap := h1.push ob } :=
    J.laid (t' := st.toks) (fun b o e => Heap.get?_push_of_some _ e) (Nat.le_refl _) ⟨Heap.get?_push_size _ rfl, hsz, its, rI, IsTup.new _ _⟩
  exact ⟨.ref h1.objs.size, _, J2, rfl, q _ ob (J.hok.fresh (Nat.le_refl _)) rfl rfl⟩
/-- a method of such a tuple, with arguments -/
def tTM (r : V → List V → Hp → VK → Prop) (tob : TE) (targs : TA) : TE := fun σ H Q => tob σ H fun x H1 => (∃ p ys, x = .ref p ∧ Tp H1 p ys) ∧ targs σ H1 fun xs H2 => r x xs H2 Q
theorem pe_bmT {ob e : Expr} {es : List Expr} {tob : TE} {targs : TA} {name : Str} {apos cpos : Pos} {id : String} {r : V → List V → Hp → VK → Prop} (slot : Slot "tuple" name id) (hty : typeOf (.builtin id) = pure (.type "method_descriptor")) (hm : MtR X id r) (ho : PE X ob tob) (ha : PA X (e :: es) targs)
    (hbase : attributeBase ob name X.env (eval ob X.env) = eval ob X.env := by rfl)
    (hfew : ((backTo cpos (starEach (e :: es) X.env)).all (fun x => !x.1) && (backToKw cpos (keywordEach [] X.env)).all (fun x => x.1.isSome) && decide ((e :: es).length + ([] : List Keyword).length + (if ([] : List Keyword).isEmpty then 0 else 1) < 30)) = true := by rfl)
    (hline : (apos.endLine == cpos.line) = true := by rfl) (hs : starEach (e :: es) X.env = (false, eval e X.env) :: starEach es X.env := by rfl) (hpl : (backTo cpos (starEach es X.env)).any (·.1) = false := by rfl) :
    PE X (.Call (.Attribute ob name apos) (e :: es) [] cpos) (tTM r tob targs) := by
  refine ⟨fun pins st σ H Q I hyp => wpAny_Call_method_late hbase hfew hline rfl (thn (ho.run pins st σ H _ I hyp) ?_)⟩
  rintro vv s1 ⟨x, H1, I1, r1, ⟨p, ys, rfl, od, e1, e2, e3⟩, q1⟩
  cases r1
  have hob : s1.heap.get? p = some od := (I1.hok p _ e1).1
  refine ⟨"tuple", id, PySem.F.plainAttrs_tuple, slot, hty, ⟨od, hob, e2⟩, fun a ea => by cases ea; exact ⟨od, hob, e3⟩, ?_⟩
  have run := ha.run cpos pins s1 σ H1 _ I1 q1
  rw [hs] at run ⊢
  exact Calls.callWith_builtin (by show (false || (backTo cpos (starEach es X.env)).any (·.1)) = false; rw [hpl] <;> rfl) (Calls.evalArgs_plain (thn run fun us s2 ⟨vs, H2, I2, r2, q2⟩ => hm pins s2 σ H2 (.ref p) vs (.ref p) us Q I2 rfl r2 q2))
/-- repr of data, where no repr is under way -/
theorem call_reprD (hg : X.A.guards = some []) (hu : X.A.units + 64 < cLine) : CallR X (.builtin "repr") (fun us H Q => ∃ (a : Addr) (d : PyData), us = [.ref a] ∧ Dp X.K H (.ref a) d ∧ d.showable = true ∧ d.hasDict = false ∧ d.depth < 60 ∧ d.shown.length ≤ sizeLine ∧ Q (.str d.shown) H) := by
  intro pins st σ H xs ws Q I rel hyp
  obtain ⟨a, d, rfl, hd, hs, hn, hdep, hz, q⟩ := hyp
  obtain ⟨wv, rfl, rw1⟩ := vals1 rel
  cases rw1
  obtain ⟨as, rd⟩ := Dp.reads I d (.ref a) (.ref a) hd rfl
  exact repr_of_reads' rd hs (fun z => by rw [hn] at z; cases z) hg (by omega) (fun _ _ e => e) (fun h1 u tk kp => ⟨.str _, H, I.kept (t' := tk) kp, ⟨u, rfl⟩, q⟩) hz
end
end HF
/-! defs that ask repr: their promise holds where no repr is under way -/
namespace HF
open PySem PySem.Spec PyProof.Rows L2
structure FnG (P : Program) (w : World) (K : PySem.W.Frag) (mg : Str → Option Value) (base : Heap) (CX : CXT) (k : Nat) (f : Addr) (fd : FuncData) (ps : List Str) (sp : Sp) : Prop where
  many : ∀ vs H Q E, sp vs H Q E → vs.length = ps.length
  goes : ∀ (A : Around) (outer : List Env) (st : Shared) (H : Hp) (args : Args) (us : List Value) (vs : List V) (Q : VK) (E : XK), A.guards = some [] → Room k A → Env0 P w K mg base A outer st H → BindsTo st fd args (ps.zip us) → Vals vs us → sp vs H Q E →
    codeAny (model P w) A (.call (.ref f) args) (CR CX outer P w H st Q E) st
theorem FnG.of {P : Program} {w : World} {K : PySem.W.Frag} {mg : Str → Option Value} {base : Heap} {CX : CXT} {k : Nat} {f : Addr} {fd : FuncData} {ps : List Str} {sp : Sp} (F : FnOk P w K mg base CX k f fd ps sp) : FnG P w K mg base CX k f fd ps sp :=
  ⟨F.len, fun A outer st H args us vs Q E _ => F.run A outer st H args us vs Q E⟩
section
variable {P : Program} {w : World} {K : PySem.W.Frag} {mg : Str → Option Value} {base : Heap}
theorem okG {x qual : Str} {st : Stmt} {f : Addr} {fd : FuncData} {N ps : List Str} {k : Nat} {sp : Sp} (F : Fun K x qual st f fd) (S : FnScope N ps (defScope st)) (len : ∀ vs H Q E, sp vs H Q E → vs.length = ps.length)
    (body : ∀ (cdv : Value) (A : Around) (outer : List Env) (t : Shared) (H : Hp) (vs : List V) (Q : VK) (E : XK), A.guards = some [] → Room k (A.deeper (envOfC qual (defScope st) t.heap.objs.size f cdv)) → sp vs H Q E →
      ∃ rd, PSs (cxOf CX0 P w K mg base N qual (defScope st) f cdv A outer t H E).nox (defBody st) rd ∧ rd { nx := fun _ H' => Q .non H', rt := Q } (start N vs) H) : FnG P w K mg base CX0 (k + 1) f fd ps sp := by
  obtain ⟨oc, od, kV, doc, pm, an, cdv, ct, osl, rfl, found, code⟩ := F.ex
  refine ⟨len, fun A outer t H args us vs Q E gd room env bd rel want => ?_⟩
  have many := len _ _ _ _ want
  have kin : K.In t.heap := env.mod.kin.keeps fun b o e => (env.bs b o e).1
  have lim : t.heap.NoLimit := env.mod.nolimit.keeps fun b o e => (env.bs b o e).1
  have kinds : ∀ y ∈ ps.zip us, (defScope st).names.lookup y.1 = some .local ∨ ((defScope st).names.lookup y.1 = some .cell ∧ ((cellsFrom (t.heap.objs.size + 1) (defScope st).names []).lookup y.1).isSome = true) := by
    rintro ⟨nm, v⟩ hy
    exact (S.par nm (List.of_mem_zip hy).1).imp id fun z => ⟨z, PySem.W.cellsFrom_some _ _ _ (.inl z)⟩
  refine codeAny_call_function room.depth (kin _ _ found) rfl S.co S.gen rfl (PySem.W.codeRec_of kin code) (bd _ _ _ _ (wpAny_newFunctionEnv_cells S.kind kinds ?_))
  rintro env1 rfl t1 inC
  refine ⟨lim.keeps inC.toInCall.keep, codeAny_func ?_⟩
  obtain ⟨rd, hps, hrd⟩ := body cdv A outer t H vs Q E gd (room.deeper _) want
  have J : Inv (cxOf CX0 P w K mg base N qual (defScope st) f cdv A outer t H E) [] (start N vs) H t1 := inv_start S room.hd env many rel inC
  refine wpAny_mono (hps.nox.run [] t1 (start N vs) H _ J hrd) (fun fl t2 res => ?_) fun _ _ z => z
  cases fl with
  | ret u =>
    obtain ⟨v, σ2, H2, J2, rv, q2⟩ := res
    exact ⟨v, H2, J2.os, J2.bare, J2.base, J2.hok, rv, q2⟩
  | next =>
    obtain ⟨σ2, H2, J2, q2⟩ := res
    exact ⟨.non, H2, J2.os, J2.bare, J2.base, J2.hok, rfl, q2⟩
  | brk => exact res.elim fun _ z => z.elim fun _ z => z.2.elim
  | cont => exact res.elim fun _ z => z.elim fun _ z => z.2.elim
end
section
variable {X : Cx} {CX : CXT} {k : Nat} {f : Addr} {fd : FuncData} {ps : List Str} {sp : Sp} {E : XK} {x : Str} {p pos : Pos} {e : Expr} {es : List Expr} {ts : TA}
theorem pe_callG (F : FnG X.prog X.w X.K X.mg X.base CX k f fd ps sp) (gd : X.A.guards = some []) (room : Room k X.A) (hgl : Gl X x) (hmg : X.mg x = some (.ref f)) (hkp : PySem.W.keepIn X.K (.ref f) = true) (hbd : Binds X.K fd ps []) (hps : Passes CX X E)
    (ha : PA X (e :: es) ts) (hdb : (x == ("__debug__" : Str)) = false := by decide) (hst : starEach (e :: es) X.env = (false, eval e X.env) :: starEach es X.env := by rfl) (hpl : (backTo pos (starEach es X.env)).any (·.1) = false := by rfl) :
    PE X (.Call (.Name x p) (e :: es) [] pos) (tCall sp [] E ts) := by
  refine ⟨fun pins st σ H Q I want => wpAny_Call_Name_kw (ld_glob I hgl hmg (PySem.W.callWith_K (h₀ := X.base) I.ok.mod.kin hkp (thn (ha.run pos pins st σ H _ I want) ?_) hst hpl) hdb)⟩
  rintro us s1 ⟨vs, H1, J, rel, q⟩
  rw [List.append_nil] at q
  have hl : us.length = ps.length := rel.length.symm.trans (F.many _ _ _ _ q)
  have bd := hbd s1 us J.kIn (by rw [List.append_nil]; exact hl)
  rw [List.append_nil] at bd
  refine ⟨J.kIn, wpAny_call (codeAny_mono (F.goes X.A X.stack s1 H1 ⟨us, []⟩ us vs Q E gd room J.env0 bd rel q) fun res s2 hq => ?_)⟩
  cases res with
  | error er => exact hps pins σ H1 s1 er s2 J hq
  | ok fl =>
    cases fl with
    | ret u => exact J.after hq
    | next => exact hq.elim
    | brk => exact hq.elim
    | cont => exact hq.elim
end
/-- the law's own call, from its promise where no repr is under way -/
theorem law_callG {P : Program} {w : World} {K : PySem.W.Frag} {mg mb : Str → Option Value} {k : Nat} {fa a : Addr} {fd : FuncData} {x : Str} {sp : Sp} {t : Shared} {us : List Value} {ns : List Int}
    (kin : K.In t.heap) (gl : t.heap.Ns mainGlobals mg) (bl : t.heap.Ns builtinsNs mb) (bb : ∀ y : Str, y ≠ "__name__" → mb y = bootBuiltins y) (lim : t.heap.NoLimit) (gens : t.gens = #[])
    (scr : t.heap.get? a = some { cls := .type "list", data := .seq us.toArray }) (nsv : IntsAre us ns) (few : ns.length ≤ sizeLine) (room : Room k callerA)
    (F : ∀ base : Heap, K.In base → base.Ns mainGlobals mg → FnG P w K mg base CX0 k fa fd [x] sp) (bd : ∀ (st : Shared) (u : Value), BindsTo st fd ⟨[u], []⟩ [(x, u)])
    (want : ∀ H : Hp, Only H → SqL K H a (ns.map V.int) → sp [.ref a] H (fun v _ => v = .bl true) fun _ _ _ => False) :
    codeAny (model P w) callerA (.call (.ref fa) ⟨[.ref a], []⟩) (fun r t' => r = .ok (.ret (.bool true)) ∧ OldK t.heap t'.heap ∧ t'.os = t.os ∧ AllBare t'.gens) t := by
  have rel := vals_ints nsv
  have main : ∀ H : Hp, Only H → SqL K H a (ns.map V.int) → HOk P w H t.heap → (∀ b, H b ≠ none → b = a ∧ K.lookup a = none) →
      codeAny (model P w) callerA (.call (.ref fa) ⟨[.ref a], []⟩) (fun r t' => r = .ok (.ret (.bool true)) ∧ OldK t.heap t'.heap ∧ t'.os = t.os ∧ AllBare t'.gens) t := by
    intro H only seq ok alone
    have none_of : ∀ b, (b = a → K.lookup a ≠ none) → H b = none := fun b h => by
      cases e : H b with
      | none => rfl
      | some u =>
        have z := alone b (by rw [e]; simp)
        exact absurd z.2 (h z.1)
    have spaces : ∀ {b : Addr} {m : Str → Option Value}, t.heap.Ns b m → (hidT t.heap H).Ns b m := by
      rintro b m ⟨o, es, ep, e, d, r⟩
      refine ⟨o, es, ep, hidT_get e ?_, d, r⟩
      cases e2 : H b with
      | none => rfl
      | some u =>
        have z := (alone b (by rw [e2]; simp)).1
        subst z
        rw [scr] at e
        cases e
        exact nomatch (show Data.seq us.toArray _ = Data.dict es ep from d)
    have kin2 : K.In (hidT t.heap H) := fun b o e => hidT_get (kin b o e) (none_of b fun z => by rw [← z, e]; simp)
    obtain ⟨mc, c1, c2⟩ := lim
    have env : Env0 P w K mg (hidT t.heap H) callerA [] t H :=
      ⟨rfl, ⟨kin2, spaces gl, ⟨mb, spaces bl, bb⟩, ⟨mc, spaces c1, c2⟩⟩, fun b o e => of_hidT e, Nat.le_of_eq (hidT_size _ _), trivial, fun b hb => absurd (show b ∈ ([] : List Addr) from hb) (by simp), ok, .of_eq gens⟩
    refine codeAny_mono ((F _ kin2 (spaces gl)).goes callerA [] t H ⟨[.ref a], []⟩ [.ref a] [.ref a] _ _ rfl room env (bd t (.ref a)) (.cons rfl .nil) (want H only seq)) fun res t2 h => ?_
    cases res with
    | error er => exact h.elim
    | ok fl =>
      cases fl with
      | next => exact h.elim
      | brk => exact h.elim
      | cont => exact h.elim
      | ret u =>
        obtain ⟨v, H2, os, bare, un, ok2, rv, q⟩ := h
        cases (show v = .bl true from q)
        cases (show u = Value.bool true from rv)
        refine ⟨rfl, OldK.of_keep fun b o e => ?_, os, bare⟩
        cases e2 : H b with
        | none => exact un.keep b o e e2 (fun z => absurd (show b ∈ ([] : List Addr) from z) (by simp)) (by simp)
        | some u =>
          rcases only b with z | ⟨ob, xs, z⟩
          · rw [e2] at z
            cases z
          · have o1 := (ok b _ z).1
            have o2 := (ok2 b _ (un.frzs b ob _ z)).1
            rw [e] at o1
            cases o1
            exact o2
  cases there : K.lookup a with
  | some o =>
    have e := kin a o there
    rw [scr] at e
    cases e
    exact main (fun _ => none) (fun _ => .inl rfl) (.inr ⟨_, us.toArray, _, there, rfl, rfl, rfl, by rw [List.size_toArray, nsv.length]; exact few, by simpa using rel⟩) (fun b u z => nomatch (show (none : Option HO) = some u from z)) (fun b z => absurd rfl z)
  | none =>
    refine main (upd (fun _ => none) a (.frz { cls := .type "list", data := .seq us.toArray } (.lst (ns.map V.int)))) (fun b => ?_) (.inl (.inr ⟨_, upd_same⟩)) (fun b u z => ?_) (fun b z => ?_)
    · by_cases hb : b = a
      · rw [hb]
        exact .inr ⟨_, _, upd_same⟩
      · exact .inl (upd_ne hb)
    · by_cases hb : b = a
      · subst hb
        rw [upd_same] at z
        cases z
        exact ⟨scr, by rw [List.length_map]; exact few, us, _, rel, scr⟩
      · rw [upd_ne hb] at z
        cases z
    · by_cases hb : b = a
      · exact ⟨hb, there⟩
      · exact absurd (upd_ne hb) z
theorem walkG {l : PySem.W.OpenLaw} {n k : Nat} {q : Program} {loose : List Str} {XP : (Str → Option Value) → Heap → Prop} {YP : World → Heap → Prop} {d : DefRec} {K : Params → PySem.W.Frag} {sp : PySem.W.Frag → Sp} {x : Str}
    (most : l.most = some n) (few : n ≤ sizeLine) (nodef : d.params.defaults = []) (room : Room k callerA) (top : ∀ (w : World) (h : Heap), YP w h → (K w.params).In h)
    (F : ∀ (w : World) (mg : Str → Option Value) (fa : Addr) (h : Heap), (K w.params).In h → h.Ns mainGlobals mg → mg d.name = some (.ref fa) →
      ∃ fd : FuncData, (∀ (st : Shared) (u : Value), BindsTo st fd ⟨[u], []⟩ [(x, u)]) ∧ ∀ base : Heap, (K w.params).In base → base.Ns mainGlobals mg → FnG l.prog w (K w.params) mg base CX0 k fa fd [x] (sp (K w.params)))
    (want : ∀ (K : PySem.W.Frag) (H : Hp) (a : Addr) (ns : List Int), ns.length ≤ n → Only H → SqL K H a (ns.map V.int) → sp K [.ref a] H (fun v _ => v = .bl true) fun _ _ _ => False) :
    PySem.W.WalkO q loose XP YP l.row.toRowW d [] (fun f vs => PySem.call f vs) := by
  refine Att.attach_call most nodef fun w s0 t mg mb fa o pm cd doc a us ns G Y _ _ _ hmg scr nsv hlen gens => ?_
  obtain ⟨fd, bd, hF⟩ := F w mg fa _ (top w _ Y) G.T.g hmg
  exact law_callG (top w _ Y) G.T.g G.T.b G.T.builtins G.T.nolimit gens scr nsv (Nat.le_trans hlen few) room hF bd fun H only seq => want _ H a ns hlen only seq
end HF
namespace HF
open PySem PySem.Spec PyProof.Rows L2
/-! ### places -/
def pos (x : Str) : List Str → Nat
  | [] => 0
  | z :: r => if z = x then 0 else pos x r + 1
theorem pos_get {x : Str} : ∀ {zs : List Str}, x ∈ zs → zs[pos x zs]? = some x
  | z :: r, h => by
    unfold pos
    by_cases e : z = x
    · rw [if_pos e, e]
      rfl
    · rw [if_neg e, List.getElem?_cons_succ]
      exact pos_get ((List.mem_cons.mp h).resolve_left fun q => e q.symm)
theorem pos_first {x : Str} : ∀ {zs : List Str} {m : Nat}, m < pos x zs → zs[m]? ≠ some x
  | [], m, h => by simp
  | z :: r, m, h => by
    unfold pos at h
    by_cases e : z = x
    · rw [if_pos e] at h
      omega
    · rw [if_neg e] at h
      cases m with
      | zero =>
        intro q
        exact e (Option.some.inj q)
      | succ m =>
        rw [List.getElem?_cons_succ]
        exact pos_first (by omega)
theorem pos_inj {x y : Str} {zs : List Str} (hx : x ∈ zs) (hy : y ∈ zs) (h : pos x zs = pos y zs) : x = y := by
  have h1 := pos_get hx
  rw [h, pos_get hy] at h1
  exact (Option.some.inj h1).symm
def Hq (K : PySem.W.Frag) (H : Hp) (a : Addr) (zs : List Str) : Prop := SqL K H a (zs.map V.str) ∨ Tp H a (zs.map V.str)
theorem Hq.same {K : PySem.W.Frag} {a : Addr} {H H' : Hp} {zs : List Str} (h : Hq K H a zs) (o : Same H H') : Hq K H' a zs := h.imp (fun z => o.seq z) fun z => z.same o
theorem sameQ {K : PySem.W.Frag} {a : Addr} {H H' : Hp} {xs : List V} (o : Same H H') (h : Sq K H a xs) : Sq K H' a xs := h.imp (fun z => o.seq z) fun z => sameT o z
theorem strs_at {zs : List Str} {i : Nat} {z : Str} (h : zs[i]? = some z) : (zs.map V.str)[i]? = some (.str z) := by
  rw [List.getElem?_map, h]
  rfl
theorem strs_first {zs : List Str} {x : Str} : ∀ (m : Nat) (z : V), m < pos x zs → (zs.map V.str)[m]? = some z → eqV z (.str x) = false := by
  intro m z hm hz
  rw [List.getElem?_map] at hz
  obtain ⟨y, hy, rfl⟩ := Option.map_eq_some_iff.mp hz
  have hne : y ≠ x := fun e => pos_first hm (e ▸ hy)
  simpa [eqV] using hne
def spLies (K : PySem.W.Frag) : Sp := fun vs H Q _ => ∃ (a : Addr) (zs : List Str) (x y : Str), vs = [.ref a, .str x, .str y] ∧ Hq K H a zs ∧ x ∈ zs ∧ y ∈ zs ∧ Q (.bl (decide ((pos x zs : Int) < (pos y zs : Int)))) H
/-! ### the program's pairs round a ring, and how many go up -/
def TsAt (H : Hp) (ts : List Addr) (ps : List (V × V)) : Prop := ∀ (i : Nat) (t : Addr) (q : V × V), ts[i]? = some t → ps[i]? = some q → H t = some (.tup [q.1, q.2])
theorem prev_at {ms : List V} {y : V} {i : Nat} (hi : i < (ms ++ [y]).length) : ∃ u v, atI (ms ++ [y]) ((0 + (i : Int)) - 1) = some u ∧ atI (ms ++ [y]) (0 + (i : Int)) = some v ∧ ((y :: (ms ++ [y])).zip (ms ++ [y]))[i]? = some (u, v) := by
  have hv : (ms ++ [y])[i]? = some (ms ++ [y])[i] := List.getElem?_eq_getElem hi
  have h2 : atI (ms ++ [y]) (0 + (i : Int)) = some (ms ++ [y])[i] := by
    rw [Int.zero_add]
    exact atI_nat hv
  cases i with
  | zero =>
    refine ⟨y, _, ?_, h2, ?_⟩
    · exact atI_last ms y
    · rw [List.getElem?_zip_eq_some]
      exact ⟨rfl, hv⟩
  | succ j =>
    have hj : j < (ms ++ [y]).length := by omega
    have hu : (ms ++ [y])[j]? = some (ms ++ [y])[j] := List.getElem?_eq_getElem hj
    refine ⟨(ms ++ [y])[j], _, ?_, h2, ?_⟩
    · rw [show (0 + ((j + 1 : Nat) : Int)) - 1 = (j : Int) by omega]
      exact atI_nat hu
    · rw [List.getElem?_zip_eq_some]
      exact ⟨hu, hv⟩
def up (zs : List Str) (q : Str × Str) : Bool := decide ((pos q.2 zs : Int) < (pos q.1 zs : Int))
def num (zs : List Str) (ps : List (Str × Str)) : Nat := (ps.filter (up zs)).length
def spRt (K : PySem.W.Frag) : Sp := fun vs H Q _ => ∃ (a : Addr) (ms : List V) (y : V), vs = [.ref a] ∧ Sq K H a (ms ++ [y]) ∧ ms.length ≤ 1000 ∧
  ∀ (H' : Hp) (D : Addr) (ts : List Addr), Same H H' → H D = none → H' D = some (.lst (ts.map V.ref)) → ts.length = (ms ++ [y]).length → TsAt H' ts ((y :: (ms ++ [y])).zip (ms ++ [y])) → Q (.ref D) H'
def spRn (K : PySem.W.Frag) : Sp := fun vs H Q _ => ∃ (h a : Addr) (zs ms : List Str) (y : Str), vs = [.ref h, .ref a] ∧ Hq K H h zs ∧ Sq K H a ((ms ++ [y]).map V.str) ∧ (∀ x ∈ ms ++ [y], x ∈ zs) ∧ ms.length ≤ 1000 ∧
  ∀ H' : Hp, Same H H' → Q (.int (num zs ((y :: (ms ++ [y])).zip (ms ++ [y])) : Nat)) H'
def spNum (K : PySem.W.Frag) : Sp := fun vs H Q _ => ∃ (h a : Addr) (zs ls : List Str), vs = [.ref h, .ref a] ∧ Hq K H h zs ∧ SqL K H a (ls.map V.str) ∧ (∀ x ∈ ls, x ∈ zs) ∧ ls.length ≤ 1000 ∧ 1 ≤ ls.length ∧
  ∀ H' : Hp, Same H H' → Q (.int (num zs (ls.zip (ls.drop 1 ++ ls.take 1)) : Nat)) H'
theorem cutTo1 (xs : List V) : cutV xs none (some 1) = xs.take 1 := by
  unfold cutV
  rw [HT.sIx_none, show HT.sIx xs.length xs.length (some 1) = min 1 xs.length from HT.sIx_nat _ _ 1, List.drop_zero, Nat.sub_zero]
  cases xs with
  | nil => rfl
  | cons x r => rw [show min 1 (x :: r).length = 1 by rw [List.length_cons]; omega]
theorem cutFrom1 (xs : List V) : cutV xs (some 1) none = xs.drop 1 := by
  unfold cutV
  rw [show HT.sIx xs.length 0 (some 1) = min 1 xs.length from HT.sIx_nat xs.length 0 1, HT.sIx_none]
  cases xs with
  | nil => rfl
  | cons x r =>
    rw [show min 1 (x :: r).length = 1 by rw [List.length_cons]; omega]
    exact List.take_of_length_le (Nat.le_refl _)
end HF
namespace HF
open PySem PySem.Spec PyProof.Rows L2
/-- what is strewn of texts is texts -/
def strOf : V → Str
  | .str z => z
  | _ => ""
theorem perm_strs {ys : List V} {zs : List Str} (h : ys.Perm (zs.map V.str)) : ∃ xs : List Str, ys = xs.map V.str ∧ xs.Perm zs := by
  refine ⟨ys.map strOf, ?_, ?_⟩
  · rw [List.map_map]
    have e : ∀ y ∈ ys, (V.str ∘ strOf) y = y := fun y hy => by
      obtain ⟨z, _, rfl⟩ := List.mem_map.mp (h.mem_iff.mp hy)
      rfl
    rw [List.map_congr_left e, List.map_id']
  · have h2 := h.map strOf
    rw [List.map_map] at h2
    have e : zs.map (strOf ∘ V.str) = zs := by
      rw [show strOf ∘ V.str = id from rfl, List.map_id]
    rw [e] at h2
    exact h2
def spHeap : Sp := fun vs H Q _ => ∃ (p : Addr) (c : Int) (m n : Nat), vs = [.ref p, .int m, .int n] ∧ Bx H p c ∧ c < 2 ^ 38 ∧ m ≤ n ∧ n ≤ 20 ∧
  ∀ (H' : Hp) (t : Addr) (zs : List Str) (c' : Int), H t = none → Oth p H H' → Tp H' t (zs.map V.str) → m ≤ zs.length → zs.length ≤ n → zs.Nodup → (∀ z ∈ zs, Nm z) → Bx H' p c' → c ≤ c' → c' ≤ c + 300 → Q (.ref t) H'
end HF
namespace HF
open PySem PySem.Spec PyProof.Rows L2
theorem ty_list {K : PySem.W.Frag} {H : Hp} {a : Addr} {xs : List V} (h : SqL K H a xs) : TyX K H (.ref a) (.type "list") := by
  rcases h with (h | ⟨o, h⟩) | ⟨o, its, n, h, c, _⟩
  · exact .base (.lst h)
  · exact .base (.frz h)
  · exact .kList h c
theorem ty_tup {K : PySem.W.Frag} {H : Hp} {a : Addr} {xs : List V} (h : SqT K H a xs) : TyX K H (.ref a) (.type "tuple") := by
  rcases h with (h | ⟨o, h⟩) | ⟨o, its, n, h, c, _⟩
  · exact .base (.tup h)
  · exact .fTuple h
  · exact .kTuple h c
theorem any2 {K : PySem.W.Frag} {t a b : String} {r1 r2 : Bool} (h1 : kitB t a = some r1) (h2 : kitB t b = some r2) : PySem.W.kitAny K (.type t) [.type a, .type b] = some (r1 || r2) := by
  refine kitAny_cons (kit_ty h1) (fun e => kitAny_cons (kit_ty h2) (fun e2 => ?_) fun e2 => ?_) fun e => ?_
  · rw [e, e2]
    rfl
  · rw [e, e2]
    rfl
  · rw [e]
    rfl
theorem two_cls {a b : String} : Paired ClsV [V.ty a, V.ty b] [Value.type a, Value.type b] := .cons (.ty a) (.cons (.ty b) .nil)
theorem walk_zipT {K : PySem.W.Frag} {a b : Addr} {xs ys : List V} {n : Nat} (hx : xs.length = n) (hy : ys.length = n) : Walk (RZ.ItzT K a b) n (fun H => SqT K H a xs ∧ SqT K H b ys) (YPair (fun i => xs[i]?) (fun i => ys[i]?)) := by
  refine ⟨fun i H hi q => ⟨xs, ys, xs[i]'(by omega), ys[i]'(by omega), q.1, q.2, List.getElem?_eq_getElem _, List.getElem?_eq_getElem _⟩, fun H q => ⟨xs, ys, q.1, q.2, .inl (by omega)⟩, ?_⟩
  rintro i H x H' hi q ⟨T, u, v, e1, e2, e3, h1, h2⟩
  exact ⟨T, u, v, e1, e2, e3, h1 xs q.1, h2 ys q.2⟩
theorem dpAll_len {K : PySem.W.Frag} {H : Hp} : ∀ {xs : List V} {ds : List PyData}, DpAll K H xs ds → xs.length = ds.length
  | _, _, .nil => rfl
  | _, _, .cons _ t => by
    show _ + 1 = _ + 1
    rw [dpAll_len t]
theorem dpAll_at {K : PySem.W.Frag} {H : Hp} : ∀ {xs : List V} {ds : List PyData} {i : Nat} {x : V}, DpAll K H xs ds → xs[i]? = some x → ∃ d, ds[i]? = some d ∧ Dp K H x d
  | _, _, _, _, .nil, e => by simp at e
  | _, _, 0, _, .cons h _, e => by
    cases (show some _ = some _ from e)
    exact ⟨_, rfl, h⟩
  | _, _, i + 1, _, .cons _ t, e => dpAll_at (i := i) t (by simpa using e)
mutual
theorem Dp.up {K : PySem.W.Frag} {H H' : Hp} (sm : Same H H') : ∀ {v : V} {d : PyData}, Dp K H v d → Dp K H' v d
  | _, _, .non => .non
  | _, _, .bl b => .bl b
  | _, _, .int i => .int i
  | _, _, .str x => .str x
  | _, _, .lst h t => .lst (sm.seq h) (DpAll.up sm t)
  | _, _, .tup h t => .tup (sameT sm h) (DpAll.up sm t)
theorem DpAll.up {K : PySem.W.Frag} {H H' : Hp} (sm : Same H H') : ∀ {vs : List V} {ds : List PyData}, DpAll K H vs ds → DpAll K H' vs ds
  | _, _, .nil => .nil
  | _, _, .cons h t => .cons (Dp.up sm h) (DpAll.up sm t)
end
theorem all_at {ds : List PyData} : ∀ {i : Nat} {d : PyData}, ds[i]? = some d → PyData.canLayAll0 ds = true → PyData.canLay0 d = true ∧ PyData.depth d ≤ PyData.depthAll ds := by
  induction ds with
  | nil => intro i d h; simp at h
  | cons x r ih =>
    intro i d h c
    have c2 : (PyData.canLay0 x && PyData.canLayAll0 r) = true := c
    rw [Bool.and_eq_true] at c2
    have e : PyData.depthAll (x :: r) = max (PyData.depth x) (PyData.depthAll r) := rfl
    cases i with
    | zero =>
      cases (show some x = some d from h)
      exact ⟨c2.1, by rw [e]; omega⟩
    | succ i =>
      have := ih (show r[i]? = some d from h) c2.2
      exact ⟨this.1, by rw [e]; omega⟩
mutual
def wide : PyData → Nat
  | .list xs => max xs.length (wideAll xs)
  | .tuple xs => max xs.length (wideAll xs)
  | _ => 0
def wideAll : List PyData → Nat
  | [] => 0
  | x :: r => max (wide x) (wideAll r)
end
theorem wide_at {ds : List PyData} : ∀ {i : Nat} {d : PyData}, ds[i]? = some d → wide d ≤ wideAll ds := by
  induction ds with
  | nil => intro i d h; simp at h
  | cons x r ih =>
    intro i d h
    have e : wideAll (x :: r) = max (wide x) (wideAll r) := rfl
    cases i with
    | zero =>
      cases (show some x = some d from h)
      omega
    | succ i =>
      have := ih (show r[i]? = some d from h)
      omega
theorem trues {bs : List Bool} (h : ∀ b ∈ bs, b = true) : bs.all id = true := List.all_eq_true.mpr fun b hb => h b hb
def spSame (K : PySem.W.Frag) (n : Nat) : Sp := fun vs H Q _ => ∃ (x y : V) (d : PyData), vs = [x, y] ∧ Dp K H x d ∧ Dp K H y d ∧ d.canLay0 = true ∧ d.depth ≤ n ∧ d.depth ≤ 60 ∧ wide d ≤ 100000 ∧ ∀ H' : Hp, Same H H' → Q (.bl true) H'
end HF
namespace HF
open PySem PySem.Spec PyProof.Rows L2
/-! ### f(k = v, ..) without a value by place -/
section
variable {X : Cx} {CX : CXT} {k : Nat} {f : Addr} {fd : FuncData} {ps ks : List Str} {sp : Sp} {E : XK} {x : Str} {p pos : Pos} {kws : List Keyword} {tk : TA} {g : List Value → List Value → List Value} {gV : List V → List V → List V}
def tKw (sp : Sp) (gV : List V → List V → List V) (E : XK) (tk : TA) : TE := fun σ H Q => tk σ H fun zs H2 => sp (gV [] zs) H2 Q E
theorem pe_callK0 (F : FnOk X.prog X.w X.K X.mg X.base CX k f fd ps sp) (room : Room k X.A) (hgl : Gl X x) (hmg : X.mg x = some (.ref f)) (hkp : PySem.W.keepIn X.K (.ref f) = true) (hbd : KBinds X.K fd ps ks g gV) (hps : Passes CX X E) (hkw : PK X kws tk)
    (hall : (backToKw pos (keywordEach kws X.env)).all (·.1.isSome) = true := by rfl) (hks : (backToKw pos (keywordEach kws X.env)).filterMap (·.1) = ks := by rfl) (hdb : (x == ("__debug__" : Str)) = false := by decide)
    (hpl : ((backTo pos (starEach [] X.env)).any (·.1) || (backToKw pos (keywordEach kws X.env)).any (·.1.isNone)) = false := by rfl) :
    PE X (.Call (.Name x p) [] kws pos) (tKw sp gV E tk) := by
  refine ⟨fun pins st σ H Q I want => wpAny_Call_Name_kw (ld_glob I hgl hmg (PySem.W.callWith_KW0 (h₀ := X.base) I.ok.mod.kin hkp hall (thn (hkw.run pos pins st σ H _ I want) ?_) hpl) hdb)⟩
  rintro ws s2 ⟨zs, H2, J, rz, q⟩
  refine ⟨J.kIn, ?_⟩
  rw [hks]
  exact run_fnk F room hbd hps J .nil rz q
end
/-- two values by name, the second parameter's ahead -/
def g21 {α : Type} : List α → List α → List α
  | [], [r, h] => [h, r]
  | _, _ => []
theorem g21_rel {vs : List V} {us : List Value} {zs : List V} {ws : List Value} (h1 : Vals vs us) (h2 : Vals zs ws) : Vals (g21 vs zs) (g21 us ws) := by
  cases h1 with
  | cons _ _ => cases h2 <;> exact .nil
  | nil =>
    cases h2 with
    | nil => exact .nil
    | cons a t =>
      cases t with
      | nil => exact .nil
      | cons b t2 =>
        cases t2 with
        | nil => exact .cons b (.cons a .nil)
        | cons _ _ => exact .nil
/-! ### t[::-1] of a tuple -/
section
variable {prog : Program} {w : World} {A : Around} {E : Value → Shared → Prop} {s : Shared}
theorem sliceApplied_back {sl : Addr} {vs : Value} {n : Nat} {Q : Int × Int × Nat → Shared → Prop} (hs : s.heap.IsSliceOf sl .none .none vs) (pst : IsPart vs (some (-1)))
    (h : Q ((n : Int) - 1, -1, n) s) : wpAny (model prog w) A (Builtin.Slice.sliceApplied (.ref sl) (pure (n : Int))) Q E s := by
  obtain ⟨ob, h1, h2, h3⟩ := id hs
  unfold Builtin.Slice.sliceApplied Builtin.Slice.sliceFields
  refine wpAny_bind (wpAny_bind (wpAny_field h1 h3 (x := .none) rfl (wpAny_bind (wpAny_field h1 h3 (x := .none) rfl (wpAny_bind (wpAny_field h1 h3 (x := vs) rfl (wpAny_pure ?_)))))))
  refine wpAny_bind (HT.slicePart_ pst ?_)
  show wpAny _ _ (if ((-1 : Int) == 0) = true then _ else _) _ _ s
  rw [if_neg (by decide)]
  refine wpAny_bind (HT.slicePart_ .none (wpAny_bind (HT.slicePart_ .none (wpAny_bind (wpAny_pure ?_)))))
  have e1 : Builtin.Slice.sliceAdjust none none (-1) (n : Int) = ((n : Int) - 1, -1) := rfl
  have e2 : Builtin.Slice.slicePlaces ((n : Int) - 1) (-1) (-1) = n := by
    unfold Builtin.Slice.slicePlaces
    rw [if_neg (by decide), show (- -1 : Int) = 1 by decide, Int.ediv_one]
    split <;> omega
  show wpAny _ _ (match Builtin.Slice.sliceAdjust none none (-1) (n : Int) with | (lo, hi) => pure (lo, (-1 : Int), Builtin.Slice.slicePlaces lo hi (-1))) _ _ s
  rw [e1]
  show wpAny _ _ (pure ((n : Int) - 1, (-1 : Int), Builtin.Slice.slicePlaces ((n : Int) - 1) (-1) (-1))) _ _ s
  rw [e2]
  exact wpAny_pure h
theorem fm_congr {α β : Type} {f g : α → Option β} : ∀ {l : List α}, (∀ x ∈ l, f x = g x) → l.filterMap f = l.filterMap g
  | [], _ => rfl
  | a :: r, h => by
    rw [List.filterMap_cons, List.filterMap_cons, h a List.mem_cons_self, fm_congr fun x hx => h x (List.mem_cons_of_mem _ hx)]
theorem pick_back (xs : Array Value) : ((List.range xs.size).filterMap fun (m : Nat) => xs[(((xs.size : Int) - 1) + (m : Int) * (-1)).toNat]?).toArray = xs.toList.reverse.toArray := by
  have e : (List.range xs.size).filterMap (fun (m : Nat) => xs[(((xs.size : Int) - 1) + (m : Int) * (-1)).toNat]?) = ((List.range xs.size).map fun m => xs.size - 1 - m).filterMap (xs[·]?) := by
    rw [List.filterMap_map]
    refine fm_congr fun m hm => ?_
    have := List.mem_range.mp hm
    show xs[(((xs.size : Int) - 1) + (m : Int) * (-1)).toNat]? = xs[xs.size - 1 - m]?
    rw [show (((xs.size : Int) - 1) + (m : Int) * (-1)).toNat = xs.size - 1 - m by omega]
  rw [e, PySem.W.krv_range, List.filterMap_reverse, PySem.W.krv_all]
theorem getItem_tuple_back {t sl : Addr} {items : Array Value} {vs : Value} {Q : Value → Shared → Prop} (ht : IsTup s.heap t items) (hs : s.heap.IsSliceOf sl .none .none vs) (pst : IsPart vs (some (-1)))
    (h : Q (.ref s.heap.objs.size) { s with heap := s.heap.push { cls := .type "tuple", data := .seq items.toList.reverse.toArray } }) (hsz : items.size ≤ sizeLine) : wpAny (model prog w) A (getItem (.ref t) (.ref sl)) Q E s := by
  have hok : sizeOk (.seq items.toList.reverse.toArray) := by
    show items.toList.reverse.toArray.size ≤ sizeLine
    rw [List.size_toArray, List.length_reverse, Array.length_toList]
    exact hsz
  obtain ⟨ob, h1, h2, h3⟩ := id hs
  have hty : s.TypeIs (.ref sl) "slice" := ⟨ob, h1, h2⟩
  unfold getItem
  try with_reducible refine wpAny_holding ?_
  first | refine wpAny_bind (wpAny_pure ?_) | skip
  refine wpAny_bind (wpAny_sequenceKey ht.typeIs (by decide) (wpAny_bind (wpAny_callSpecial?_slot (name := Str.ofString "__getitem__") ht.typeIs PyProof.Rows.slot_tuple_getitem (wpAny_call_entry PyProof.Rows.slot_tuple_getitem ht.typeIs entry_tuple_getitem ?_ (args_tuple_getitem _ _)))))
  show wpAny _ _ (Builtin.Tuple.tupleItemsOf (.ref t) >>= _) _ _ s
  refine wpAny_bind (tupleItemsOf_ ht (wpAny_bind (wpAny_typeOf hty ?_)))
  rw [if_pos (by decide)]
  refine wpAny_bind (sliceApplied_back hs pst ?_)
  show wpAny _ _ (if (((items.size : Int) - 1 == 0) && ((-1 : Int) == 1) && (items.size == items.size)) = true then _ else _) _ _ s
  rw [if_neg (by simp), pick_back]
  first
    | exact wpAny_bind (m := Builtin.Tuple.tupleExact _) (wpAny_newObj_type (wpAny_pure ⟨_, rfl, wpAny_pure h⟩) hok)
    | exact wpAny_bind (m := Builtin.Tuple.tupleExact _) (wpAny_newObj_type (wpAny_bind (wpAny_pure (wpAny_pure ⟨_, rfl, wpAny_pure h⟩))) hok)
    | exact wpAny_bind (wpAny_bind (m := Builtin.Tuple.tupleExact _) (wpAny_newObj_type (wpAny_pure (wpAny_pure ⟨_, rfl, wpAny_pure h⟩)) hok))
    | exact wpAny_bind (wpAny_bind (m := Builtin.Tuple.tupleExact _) (wpAny_newObj_type (wpAny_pure ⟨_, rfl, wpAny_pure h⟩) hok))
end
section
variable {X : Cx}
def tRevT (K : PySem.W.Frag) (te : TE) : TE := fun σ H Q => te σ H fun x H1 => ∃ a xs, x = .ref a ∧ SqT K H1 a xs ∧ ∀ p ob, H1 p = none → ob.cls = .type "tuple" → ob.dict = none → Q (.ref p) (upd H1 p (.frz ob (.tup xs.reverse)))
theorem pe_revT {e : Expr} {te : TE} {k : Nat} {p1 p2 p3 pos : Pos} (he : PE X e te) : PE X (.Subscript e (.Slice none none (some (.UnaryOp .USub (.Constant (.int 1) k p1) p2)) p3) pos) (tRevT X.K te) := by
  refine ⟨fun pins st σ H Q I want => Subscript_ (thn (he.run pins st σ H _ I want) ?_)⟩
  rintro v s1 ⟨x, H1, I1, r1, a, xs, rfl, hx, q⟩
  cases r1
  have part : PO X (some (.UnaryOp .USub (.Constant (.int 1) k p1) p2)) (tPart (tUn (rU fun i => .int (-i)) (tC (.int 1)))) := po_some (pe_un un_neg pe_int)
  refine wpAny_Slice (thn (po_none.run pins s1 σ H1 (fun o H2 => o = none ∧ H2 = H1) I1 ⟨rfl, rfl⟩) ?_)
  rintro vl s2 ⟨l, H2, I2, pl, rfl, rfl⟩
  refine thn (po_none.run pins s2 σ H2 (fun o H3 => o = none ∧ H3 = H2) I2 ⟨rfl, rfl⟩) ?_
  rintro vu s3 ⟨u, H3, I3, pu, rfl, rfl⟩
  refine thn (part.run pins s3 σ H3 (fun o H4 => o = some (-1) ∧ H4 = H3) I3 ⟨1, rfl, -1, rfl, rfl, rfl⟩) ?_
  rintro vs s4 ⟨o, H4, I4, pst, rfl, rfl⟩
  cases pl
  cases pu
  have J : Inv X pins σ H4 { s4 with heap := s4.heap.push { cls := .type "slice", data := .fields #[.none, .none, vs] } } := I4.kept (t' := s4.toks) fun b ob e => Heap.get?_push_of_some _ e
  obtain ⟨its, rI, ht, hz⟩ := J.tuple hx
  have hlen := rI.length
  show wpAny (model X.prog X.w) X.A (subscriptTail e (.Slice none none (some (.UnaryOp .USub (.Constant (.int 1) k p1) p2)) p3) (.ref a) (.ref s4.heap.objs.size)) (EP X pins σ Q) X.xe { s4 with heap := s4.heap.push { cls := .type "slice", data := .fields #[.none, .none, vs] } }
  refine tail_any (ops := [.ref a, .ref s4.heap.objs.size]) ht.typeIs PyProof.Rows.slot_tuple_getitem.lookup ?_ (by with_unfolding_all rfl)
  refine getItem_tuple_back ht (Heap.IsSliceOf.new _ .none .none vs) pst ?_ (by rw [List.size_toArray]; omega)
  let od : Obj := { cls := .type "tuple", data := .seq its.reverse.toArray }
  refine ⟨.ref _, _, J.laid (t' := s4.toks) (o := .frz od (.tup xs.reverse)) (fun b ob e => Heap.get?_push_of_some _ e) (Nat.le_refl _) ?_, rfl, q _ od (J.hok.fresh (Nat.le_refl _)) rfl rfl⟩
  exact ⟨Heap.get?_push_size _ rfl, by rw [List.length_reverse]; exact hz, _, rI.reverse, IsTup.new _ _⟩
end
end HF
/-! tables of sets at masks to 511 -/
namespace HF
open PySem PySem.Spec PyProof.Rows L2
/-! ### i -> 5 i + 1 comes to every slot -/
def marks (m : Nat) : Nat → Nat → Nat → Nat
  | 0, _, acc => acc
  | n + 1, x, acc => marks m n ((x * 5 + 1) % (m + 1)) (acc ||| 2 ^ x)
theorem marks_from (m j : Nat) : ∀ (n b acc : Nat), (marks m n (lcgN m b) acc).testBit j = true → acc.testBit j = true ∨ ∃ k, k < n ∧ lcgN m (b + k) = j
  | 0, _, _, h => .inl h
  | n + 1, b, acc, h => by
    rcases marks_from m j n (b + 1) (acc ||| 2 ^ lcgN m b) h with q | ⟨k, hk, e⟩
    · rw [Nat.testBit_or, Bool.or_eq_true] at q
      rcases q with q | q
      · exact .inl q
      · rw [Nat.testBit_two_pow] at q
        exact .inr ⟨0, Nat.succ_pos n, of_decide_eq_true q⟩
    · exact .inr ⟨k + 1, Nat.succ_lt_succ hk, by rw [show b + (k + 1) = b + 1 + k by omega]; exact e⟩
structure Mo (m : Nat) : Prop where
  odd : m % 2 = 1
  few : m ≤ 511
  all : marks m (m + 1) 0 0 = 2 ^ (m + 1) - 1
  back : lcgN m (m + 1) = 0
theorem mo7 : Mo 7 := ⟨rfl, by decide, by decide +kernel, by decide +kernel⟩
theorem mo31 : Mo 31 := ⟨rfl, by decide, by decide +kernel, by decide +kernel⟩
theorem mo127 : Mo 127 := ⟨rfl, by decide, by decide +kernel, by decide +kernel⟩
theorem mo511 : Mo 511 := ⟨rfl, by decide, by decide +kernel, by decide +kernel⟩
theorem Mo.hit {m : Nat} (h : Mo m) {j : Nat} (hj : j ≤ m) : ∃ b, b ≤ m ∧ lcgN m b = j := by
  have e : (marks m (m + 1) (lcgN m 0) 0).testBit j = true := by
    show (marks m (m + 1) 0 0).testBit j = true
    rw [h.all, Nat.testBit_two_pow_sub_one]
    exact decide_eq_true (by omega)
  rcases marks_from m j (m + 1) 0 0 e with q | ⟨k, hk, q⟩
  · rw [Nat.zero_testBit] at q
    cases q
  · exact ⟨k, by omega, by rw [Nat.zero_add] at q; exact q⟩
theorem Mo.again {m : Nat} (h : Mo m) : ∀ k, lcgN m (m + 1 + k) = lcgN m k
  | 0 => h.back
  | k + 1 => congrArg (fun z => (z * 5 + 1) % (m + 1)) (Mo.again h k)
theorem Mo.cov {m : Nat} (h : Mo m) {i j : Nat} (hi : i ≤ m) (hj : j ≤ m) : ∃ k, k ≤ m ∧ lcgI m i k = j := by
  obtain ⟨a, ha, rfl⟩ := h.hit hi
  obtain ⟨b, hb, rfl⟩ := h.hit hj
  by_cases c : a ≤ b
  · exact ⟨b - a, by omega, by rw [lcgN_add, show a + (b - a) = b by omega]⟩
  · exact ⟨m + 1 + b - a, by omega, by rw [lcgN_add, show a + (m + 1 + b - a) = m + 1 + b by omega, h.again]⟩
theorem Mo.starts {m : Nat} (h : Mo m) (x : Int) {j : Nat} (hj : j ≤ m) : ∃ n, n ≤ m + 12 ∧ runI m (SetTable.bits x) n = j := by
  obtain ⟨k, hk, e⟩ := h.cov (runI_le m (SetTable.bits x) 12) hj
  exact ⟨12 + k, by omega, (runI_tail (bits_lt x) k).trans e⟩
theorem Mo.meets {m : Nat} (h : Mo m) (x : Int) {j : Nat} (hj : j ≤ m) : ∃ k, k < 10 * SetTable.turns m ∧ way m x k = j := by
  obtain ⟨n, hn, e⟩ := h.starts x hj
  obtain ⟨k, hk, e2⟩ := run_nth m (SetTable.bits x) n
  refine ⟨k, ?_, (congrArg SetTable.Probe.j e2).trans e⟩
  show k < 10 * (m + 15)
  omega
theorem way_in (m : Nat) (x : Int) (k : Nat) : way m x k ≤ m := by
  have h0 : SetTable.bits x % (m + 1) ≤ m := Nat.le_of_lt_succ (Nat.mod_lt _ (Nat.succ_pos m))
  have h1 := (runEnd_bd h0)
  have := nth_in k (runAt m (SetTable.bits x % (m + 1)) (SetTable.bits x)) (m := m) (by
    show SetTable.bits x % (m + 1) + (SetTable.runEnd m (SetTable.bits x % (m + 1)) - SetTable.bits x % (m + 1)) ≤ m
    omega)
  show (nth m _ k).j ≤ m
  omega
/-- a table in which each is met again on its hash's way -/
structure Tb (t : SetTable) (hs : List Int) : Prop where
  up : Ris t.place.toList
  none : t.dummies = #[]
  size : t.place.size = hs.length
  mo : Mo t.mask
  within : ∀ x ∈ t.place.toList, x ≤ t.mask
  met : ∀ (i : Nat) (x : Int) (j : Nat), hs[i]? = some x → t.place.toList[i]? = some j → ∃ k, way t.mask x k = j ∧ ∀ k', k' < k → way t.mask x k' ∈ t.place.toList
theorem Tb.gap {t : SetTable} {hs : List Int} (T : Tb t hs) (few : hs.length ≤ t.mask) (x : Int) : ∃ n, n < 10 * SetTable.turns t.mask ∧ way t.mask x n ∉ t.place.toList ∧ ∀ k, k < n → way t.mask x k ∈ t.place.toList := by
  obtain ⟨j, hj, free⟩ := st_missing t.place.toList (t.mask + 1) (by
    rw [Array.length_toList, T.size]
    omega)
  obtain ⟨k, hk, e⟩ := T.mo.meets x (Nat.le_of_lt_succ hj)
  obtain ⟨n, h1, h2, h3⟩ := st_least (p := fun k => way t.mask x k ∉ t.place.toList) k (by
    show way t.mask x k ∉ _
    rw [e]
    exact free)
  exact ⟨n, by omega, h2, fun k' hk' => Classical.byContradiction (h3 k' hk')⟩
theorem Tb.ahead {t : SetTable} {hs : List Int} (T : Tb t hs) {x : Int} {n i j : Nat} (free : way t.mask x n ∉ t.place.toList) (hi : hs[i]? = some x) (hj : t.place.toList[i]? = some j) : ∃ k, k < n ∧ way t.mask x k = j := by
  obtain ⟨k, e, before⟩ := T.met i x j hi hj
  refine ⟨k, Nat.lt_of_not_le fun c => ?_, e⟩
  rcases Nat.lt_or_eq_of_le c with c | c
  · exact free (before n c)
  · subst c
    rw [e] at free
    exact free (List.mem_of_getElem? hj)
theorem Tb.more {t : SetTable} {hs : List Int} (T : Tb t hs) {x : Int} {n : Nat} (free : way t.mask x n ∉ t.place.toList) (before : ∀ k, k < n → way t.mask x k ∈ t.place.toList) :
    SetTable.below t.place (way t.mask x n) ≤ hs.length ∧ Tb (t.put (way t.mask x n)).1 (hs.take (SetTable.below t.place (way t.mask x n)) ++ x :: hs.drop (SetTable.below t.place (way t.mask x n))) ∧ (t.put (way t.mask x n)).1.fill = hs.length + 1 := by
  have hin : way t.mask x n ≤ t.mask := way_in _ _ _
  generalize hw : way t.mask x n = j at *
  have cut := (below_cut T.up j).1
  have cl : SetTable.below t.place j ≤ t.place.toList.length := by
    rw [Array.length_toList]
    exact cut
  have ch : SetTable.below t.place j ≤ hs.length := T.size ▸ cut
  have pl := put_place t j
  have sz : (t.put j).1.place.size = hs.length + 1 := by
    rw [← Array.length_toList, pl, len_ins _ cl, Array.length_toList, T.size]
  have grow : ∀ {y : Nat}, y ∈ t.place.toList → y ∈ (t.put j).1.place.toList := fun hy => by
    rw [pl]
    exact mem_ins.2 (.inr hy)
  have nd := put_dm T.none j
  refine ⟨ch, ⟨ris_insert T.up fun e => free (List.mem_of_getElem? (by rw [Array.getElem?_toList]; exact e)), nd, by rw [len_ins _ ch]; exact sz, T.mo, fun y hy => ?_, fun i x' j' h1 h2 => ?_⟩, ?_⟩
  · rw [pl] at hy
    exact (mem_ins.1 hy).elim (fun e => e ▸ hin) fun e => T.within y e
  · rw [tins_get hs ch] at h1
    rw [pl, tins_get _ cl] at h2
    have old : ∀ {i : Nat}, hs[i]? = some x' → t.place.toList[i]? = some j' → ∃ k, way t.mask x' k = j' ∧ ∀ k', k' < k → way t.mask x' k' ∈ (t.put j).1.place.toList := fun e1 e2 => by
      obtain ⟨k, e, r⟩ := T.met _ x' j' e1 e2
      exact ⟨k, e, fun k' hk' => grow (r k' hk')⟩
    by_cases c : i < SetTable.below t.place j
    · rw [if_pos c] at h1 h2
      exact old h1 h2
    · rw [if_neg c] at h1 h2
      by_cases d : i = SetTable.below t.place j
      · rw [if_pos d] at h1 h2
        cases h1
        cases h2
        exact ⟨n, hw, fun k' hk' => grow (before k' hk')⟩
      · rw [if_neg d] at h1 h2
        exact old h1 h2
  · show (t.put j).1.place.size + (t.put j).1.dummies.size = hs.length + 1
    rw [sz, nd]
    rfl
/-! ### laid anew -/
theorem Mo.frees {m : Nat} (hm : Mo m) (owner : Array (Option Nat)) (x : Int) {j : Nat} (hj : j ≤ m) (hf : oAt owner j = none) :
    ∃ n, SetTable.layClean.free m owner (SetTable.turns m) (SetTable.bits x % (m + 1)) (SetTable.bits x) = some (way m x n) ∧ oAt owner (way m x n) = none ∧ ∀ k, k < n → oAt owner (way m x k) ≠ none := by
  obtain ⟨r, hr, e⟩ := hm.starts x hj
  have hw : way m x (off m (SetTable.bits x % (m + 1)) (SetTable.bits x) r) = j := by
    show (nth m _ _).j = j
    rw [nth_off, itL_run]
    exact e
  obtain ⟨n, n1, n2, n3⟩ := st_least (p := fun k => oAt owner (way m x k) = none) _ (show oAt owner (way m x _) = none from hw ▸ hf)
  refine ⟨n, free_spec m owner (SetTable.turns m) r _ _ n (by show r < m + 15; omega) n1 (fun k hk => ?_) ?_, n2, n3⟩
  · cases z : oAt owner (nth m (runAt m (SetTable.bits x % (m + 1)) (SetTable.bits x)) k).j with
    | none => exact absurd z (n3 k hk)
    | some _ => rfl
  · rw [show oAt owner (nth m (runAt m (SetTable.bits x % (m + 1)) (SetTable.bits x)) n).j = none from n2]
    rfl
theorem Mo.owns {m : Nat} (hm : Mo m) {done : List Int} {owner : Array (Option Nat)} (W : Own m done owner) (few : done.length ≤ m) (x : Int) :
    ∃ j, SetTable.layClean.free m owner (SetTable.turns m) (SetTable.bits x % (m + 1)) (SetTable.bits x) = some j ∧ Own m (done ++ [x]) (owner.setIfInBounds j (some done.length)) := by
  obtain ⟨qs, many, inq⟩ := W.ps
  obtain ⟨j0, lt0, no0⟩ := st_missing qs (m + 1) (by omega)
  have free0 : oAt owner j0 = none := by
    cases z : oAt owner j0 with
    | none => rfl
    | some k => exact absurd (inq j0 (by omega) (by rw [z]; simp)) no0
  obtain ⟨n, f1, f2, f3⟩ := hm.frees owner x (Nat.le_of_lt_succ lt0) free0
  have lem := way_in m x n
  have own := oAt_set_self (some done.length) (show way m x n < owner.size by rw [W.sz]; omega)
  have keep : ∀ {i : Nat}, oAt owner i ≠ none → oAt (owner.setIfInBounds (way m x n) (some done.length)) i ≠ none := fun {i} hi => by
    by_cases c : i = way m x n
    · rw [c, own]
      simp
    · rw [oAt_set_ne _ c]
      exact hi
  refine ⟨_, f1, ⟨by rw [Array.size_setIfInBounds]; exact W.sz, fun j k hj e => ?_, fun k hk => ?_, ⟨way m x n :: qs, by simp [many], fun j hj e => ?_⟩⟩⟩
  · by_cases c : j = way m x n
    · subst c
      rw [own] at e
      cases e
      exact ⟨x, n, by simp, rfl, fun k' hk' => keep (f3 k' hk')⟩
    · rw [oAt_set_ne _ c] at e
      obtain ⟨x', n', a1, a2, a3⟩ := W.at_ j k hj e
      exact ⟨x', n', by rw [List.getElem?_append_left (List.getElem?_eq_some_iff.mp a1).1]; exact a1, a2, fun k' hk' => keep (a3 k' hk')⟩
  · by_cases c : k < done.length
    · obtain ⟨j, hj, e⟩ := W.all k c
      exact ⟨j, hj, by rw [oAt_set_ne _ (fun z => by rw [z, f2] at e; cases e)]; exact e⟩
    · rw [List.length_append] at hk
      have ek : k = done.length := by
        have : ([x] : List Int).length = 1 := rfl
        omega
      exact ⟨_, lem, by rw [own, ek]⟩
  · by_cases c : j = way m x n
    · rw [c]
      exact List.mem_cons_self
    · rw [oAt_set_ne _ c] at e
      exact List.mem_cons_of_mem _ (inq j hj e)
theorem Mo.folds {m : Nat} (hm : Mo m) : ∀ (rest done : List Int) (owner : Array (Option Nat)), Own m done owner → done.length + rest.length ≤ m →
    ∃ ow, rest.foldl (stepF m) (some (owner, done.length)) = some (ow, (done ++ rest).length) ∧ Own m (done ++ rest) ow
  | [], done, owner, W, _ => ⟨owner, by rw [List.append_nil]; rfl, by rw [List.append_nil]; exact W⟩
  | x :: rest, done, owner, W, few => by
    have few2 : done.length + (rest.length + 1) ≤ m := few
    obtain ⟨j, e, W1⟩ := hm.owns W (by omega) x
    have l1 : (done ++ [x]).length = done.length + 1 := by simp
    obtain ⟨ow, f, W2⟩ := Mo.folds hm rest (done ++ [x]) _ W1 (by omega)
    rw [List.append_assoc, List.singleton_append] at f W2
    rw [l1] at f
    exact ⟨ow, by rw [List.foldl_cons, stepF_some e]; exact f, W2⟩
theorem relaid_mo (t : SetTable) {hs : Array Int} {wanted M : Nat} (hw : SetTable.sizeAbove wanted - 1 = M) (hM : Mo M) (few : hs.size ≤ M) :
    ∃ t' order, t.relaid hs wanted = some (t', order) ∧ order.toList.Perm (List.range hs.size) ∧ Tb t' (order.toList.map fun i => hs.getD i 0) ∧ t'.mask = M ∧ t'.led = t.led ∧ t'.plain = t.plain := by
  obtain ⟨owner, f, W⟩ := hM.folds hs.toList [] _ (Own.init M) (by show 0 + hs.toList.length ≤ M; rw [Array.length_toList]; omega)
  rw [List.nil_append] at W
  have lay : SetTable.layClean M hs = some owner := by
    rw [layClean_eq, show hs.toList.foldl (stepF M) (some (Array.replicate (M + 1) none, 0)) = some (owner, ([] ++ hs.toList).length) from f]
    rfl
  have rising := ris_live (fun j => owner.getD j none) (List.range (M + 1)) (by
    unfold Ris
    first | exact List.pairwise_lt_range | exact List.pairwise_lt_range _)
  have up : Ris ((liveOf M owner).map (·.1)) := rising.1
  have many : (liveOf M owner).length = hs.size := by
    obtain ⟨qs, q1, q2⟩ := W.ps
    have unlike : ((liveOf M owner).map (·.1)).Nodup := List.Pairwise.imp (fun h => Nat.ne_of_lt h) up
    have le1 := nat_nodup_len ((liveOf M owner).map (·.1)) qs unlike (fun y hy => by
      obtain ⟨⟨y', k⟩, hq, rfl⟩ := List.mem_map.mp hy
      obtain ⟨b1, b2⟩ := (mem_live W.sz).1 hq
      exact q2 _ b1 (by rw [b2]; simp))
    have le2 := nat_nodup_len (List.range hs.size) ((liveOf M owner).map (·.2)) List.nodup_range (fun k hk => by
      obtain ⟨j, b1, b2⟩ := W.all k (by rw [Array.length_toList]; exact List.mem_range.mp hk)
      exact List.mem_map.mpr ⟨(j, k), (mem_live W.sz).2 ⟨b1, b2⟩, rfl⟩)
    rw [List.length_map, q1] at le1
    have hz : hs.toList.length = hs.size := Array.length_toList
    rw [List.length_map, List.length_range] at le2
    omega
  refine ⟨tabOf t M owner, ((liveOf M owner).map (·.2)).toArray, by rw [relaid_eq, hw, lay]; rfl, ?_, ⟨up, rfl, ?_, hM, fun y hy => ?_, fun i x j h1 h2 => ?_⟩, rfl, rfl, rfl⟩
  · refine perm_range hs.size _ (by show ((liveOf M owner).map (·.2)).length = hs.size; rw [List.length_map]; exact many) fun k hk => ?_
    obtain ⟨j, b1, b2⟩ := W.all k (by rw [Array.length_toList]; exact hk)
    exact List.mem_map.mpr ⟨(j, k), (mem_live W.sz).2 ⟨b1, b2⟩, rfl⟩
  · show ((liveOf M owner).map (·.1)).toArray.size = (((liveOf M owner).map (·.2)).map fun i => hs.getD i 0).length
    simp
  · exact Nat.le_of_lt_succ (List.mem_range.mp (rising.2 y hy))
  · have h1' : (((liveOf M owner).map (·.2)).map fun i => hs.getD i 0)[i]? = some x := h1
    have h2' : ((liveOf M owner).map (·.1))[i]? = some j := h2
    rw [List.getElem?_map] at h2'
    rw [List.getElem?_map, List.getElem?_map] at h1'
    obtain ⟨⟨y, k⟩, hq, rfl⟩ := Option.map_eq_some_iff.mp h2'
    rw [hq] at h1'
    have ex : hs.getD k 0 = x := Option.some.inj h1'
    obtain ⟨b1, b2⟩ := (mem_live W.sz).1 (List.mem_of_getElem? hq)
    obtain ⟨x0, n, a1, a2, a3⟩ := W.at_ y k b1 b2
    have e0 : hs.getD k 0 = x0 := by
      rw [Array.getD_eq_getD_getElem?, ← Array.getElem?_toList, a1]
      rfl
    have exx : x0 = x := e0.symm.trans ex
    rw [exx] at a2 a3
    refine ⟨n, a2, fun k' hk' => ?_⟩
    show way M x k' ∈ (liveOf M owner).map (·.1)
    cases z : oAt owner (way M x k') with
    | none => exact absurd z (a3 k' hk')
    | some k2 => exact List.mem_map.mpr ⟨(_, k2), (mem_live W.sz).2 ⟨way_in _ _ _, z⟩, rfl⟩
end HF
/-! sets of tuples of texts -/
namespace HF
open PySem PySem.Spec PyProof.Rows L2
abbrev hk (P : Program) (w : World) (k : List Str) : Int := tupleKeyHash (strKind P w) k
abbrev IsS (P : Program) (w : World) (h : Heap) (k : List Str) (a : Addr) : Prop := IsTupleKey (strKind P w) h k a
abbrev SL := List (Addr × List Str)
def ents (P : Program) (w : World) (L : SL) : List (Int × Value) := L.map fun p => (hk P w p.2, Value.ref p.1)
section
variable {P : Program} {w : World} {A : Around} {E : Value → Shared → Prop} {s : Shared}
theorem its_str {k : List Str} {vs : List Value} (h : ItemsAre (strKind P w) k vs) : ∀ v ∈ vs, ∃ x t, v = Value.str x t := by
  induction h with
  | nil => exact fun v hv => nomatch hv
  | @cons k0 v0 ks vs0 h1 _ ih =>
    intro v hv
    rcases List.mem_cons.mp hv with rfl | hv
    · obtain ⟨t, e⟩ := Value.isStrOf_shape (x := k0) h1
      exact ⟨k0, t, e⟩
    · exact ih v hv
theorem cls_str (n : Nat) (x : Str) (t : Tok) : ofAClassStatement n (.str x t) = pure false := by cases n <;> rfl
theorem hby_str (n : Nat) (x : Str) (t : Tok) : hashByValue n (.str x t) = pure false := by cases n <;> rfl
theorem cls_tup {k : List Str} {b : Addr} {Q : Bool → Shared → Prop} (hb : IsS P w s.heap k b) (q : Q false s) : wpAny (model P w) A (ofAClassStatement 8 (.ref b)) Q E s := by
  have ty := hb.typeIs
  obtain ⟨ob, its, n, h1, _, h2, h3⟩ := hb
  unfold ofAClassStatement
  refine wpAny_bind (wpAny_typeOf ty ?_)
  dsimp only
  simp only [show (("tuple" : String) == "tuple") = true by decide, if_true, Bool.not_true, Bool.false_eq_true, if_false]
  try refine wpAny_bind (wpAny_pure ?_)
  try simp only [Bool.not_true, Bool.false_eq_true, if_false]
  show wpAny _ _ (seqItems? (.ref b) >>= _) _ _ s
  refine wpAny_bind (wpAny_seqItems h1 h2 ?_)
  dsimp only
  refine wpAny_bind ?_
  show wpAny _ _ (forIn its _ _) _ _ s
  rw [← Array.forIn_toList]
  refine wpAny_forIn_list _ (fun left r st => r.1 = none ∧ st = s ∧ ∀ v ∈ left, ∃ x t, v = Value.str x t) _ ?_ ?_ _ _ ⟨rfl, rfl, its_str h3⟩
  · rintro v left r st ⟨hr, rfl, hall⟩
    obtain ⟨x, t, rfl⟩ := hall v List.mem_cons_self
    rw [cls_str]
    refine wpAny_bind (wpAny_pure ?_)
    simp only [Bool.false_eq_true, if_false]
    exact wpAny_pure ⟨rfl, rfl, fun u hu => hall u (List.mem_cons_of_mem _ hu)⟩
  · rintro ⟨r1, r2⟩ st ⟨hr, rfl, _⟩
    cases (show r1 = none from hr)
    exact wpAny_pure q
theorem hby_tup {k : List Str} {b : Addr} {Q : Bool → Shared → Prop} (hb : IsS P w s.heap k b) (q : ∀ c, Q c s) : wpAny (model P w) A (hashByValue 8 (.ref b)) Q E s := by
  have ty := hb.typeIs
  obtain ⟨ob, its, n, h1, _, h2, h3⟩ := hb
  unfold hashByValue
  refine wpAny_bind (wpAny_specialOf ty F.slot_tuple_hash.lookup ?_)
  show wpAny _ _ (seqItems? (.ref b) >>= _) _ _ s
  refine wpAny_bind (wpAny_seqItems h1 h2 (wpAny_bind ?_))
  show wpAny _ _ (forIn its _ _) _ _ s
  rw [← Array.forIn_toList]
  refine wpAny_mono (wpAny_forIn_list _ (fun left r st => r.1 = none ∧ st = s ∧ ∀ v ∈ left, ∃ x t, v = Value.str x t) (fun r st => (r.1 = none ∨ r.1 = some false) ∧ st = s) ?_ ?_ _ _ ⟨rfl, rfl, its_str h3⟩) ?_ fun _ _ z => z
  · rintro v left r st ⟨hr, rfl, hall⟩
    obtain ⟨x, t, rfl⟩ := hall v List.mem_cons_self
    rw [hby_str]
    refine wpAny_bind (wpAny_pure ?_)
    simp only [Bool.not_false, if_true]
    exact wpAny_pure ⟨.inr rfl, rfl⟩
  · rintro ⟨r1, r2⟩ st ⟨hr, rfl, _⟩
    exact ⟨.inl hr, rfl⟩
  · rintro ⟨r1, r2⟩ st ⟨hr, rfl⟩
    rcases hr with hr | hr
    · cases (show r1 = none from hr)
      exact wpAny_pure (q true)
    · cases (show r1 = some false from hr)
      exact wpAny_pure (q false)
theorem seen_s {k : List Str} {b : Addr} {Q : Bool → Shared → Prop} (hb : IsS P w s.heap k b) {ys : List Value} (hy : ∀ y ∈ ys, ∃ k' c, y = Value.ref c ∧ IsS P w s.heap k' c) (q : Q false s) :
    wpAny (model P w) A (searchCouldBeSeen (.ref b) ys) Q E s := by
  unfold searchCouldBeSeen
  refine wpAny_bind ?_
  refine wpAny_forIn_list _ (fun left r st => r.1 = none ∧ st = s ∧ ∀ y ∈ left, ∃ k' c, y = Value.ref c ∧ IsS P w s.heap k' c) _ ?_ ?_ _ _ ⟨rfl, rfl, hy⟩
  · rintro v left r st ⟨hr, rfl, hall⟩
    obtain ⟨k', c, rfl, hc⟩ := hall v List.mem_cons_self
    have later := fun u hu => hall u (List.mem_cons_of_mem _ hu)
    dsimp only
    by_cases hv : (b == c || (carriedByValue (.ref b) && carriedByValue (.ref c))) = true
    · exact wp_if_pos hv (wpAny_pure ⟨rfl, rfl, later⟩)
    · refine wp_if_neg hv (wpAny_bind (wpAny_eqIsQuiet_tuple hb ?_))
      simp only [Bool.not_true, Bool.false_eq_true, if_false]
      refine wpAny_bind (wpAny_eqIsQuiet_tuple hc ?_)
      simp only [Bool.not_true, Bool.false_eq_true, if_false]
      refine wpAny_bind (cls_tup hb ?_)
      simp only [Bool.false_eq_true, if_false]
      refine wpAny_bind (cls_tup hc ?_)
      simp only [Bool.false_eq_true, if_false]
      exact wpAny_pure ⟨rfl, rfl, later⟩
  · rintro ⟨r1, r2⟩ st ⟨hr, rfl, _⟩
    cases (show r1 = none from hr)
    exact wpAny_pure q
/-- the set of the tuples of L at a -/
structure SR (P : Program) (w : World) (h : Heap) (a : Addr) (L : SL) (es : Array (Int × Value)) (ep : Nat) (t : SetTable) : Prop where
  ob : ∃ o, h.get? a = some o ∧ o.ExactSet ∧ o.data = .set es ep t
  rows : es.toList = ents P w L
  tab : Tb t (L.map fun p => hk P w p.2)
  nd : (L.map (·.2)).Nodup
  tup : ∀ p ∈ L, IsS P w h p.2 p.1
  led : w.params.followText "set-order" = true ∨ t.led = true
  room : L.length * 5 < t.mask * 3
  four : t.mask = 7 ∨ t.mask = 31 ∨ t.mask = 127 ∨ t.mask = 511
variable {a : Addr} {L : SL} {es : Array (Int × Value)} {ep : Nat} {t : SetTable}
theorem ents_size {L : SL} {es : Array (Int × Value)} (h : es.toList = ents P w L) : es.size = L.length := by
  have e := congrArg List.length h
  unfold ents at e
  rw [Array.length_toList, List.length_map] at e
  exact e
theorem ents_at {L : SL} {es : Array (Int × Value)} (h : es.toList = ents P w L) {i : Nat} {p : Addr × List Str} (hi : L[i]? = some p) : es[i]? = some (hk P w p.2, Value.ref p.1) := by
  rw [← Array.getElem?_toList, h]
  unfold ents
  rw [List.getElem?_map, hi]
  rfl
theorem fits_of {t : SetTable} {n : Nat} (h1 : t.place.size = n) (h2 : t.dummies = #[]) (h3 : n ≤ t.mask) : t.fits n = true := by
  unfold SetTable.fits SetTable.fill
  rw [h2, Bool.and_eq_true, beq_iff_eq, decide_eq_true_eq]
  exact ⟨h1, by show t.place.size + 0 ≤ t.mask; omega⟩
theorem SR.fits (R : SR P w s.heap a L es ep t) : t.fits es.size = true := by
  have h1 := R.tab.size
  rw [List.length_map] at h1
  have h2 := ents_size R.rows
  have h3 := R.room
  exact fits_of (by omega) R.tab.none (by omega)
theorem SR.stays (R : SR P w s.heap a L es ep t) : ¬ t.gaveWay = true := by
  unfold SetTable.gaveWay
  rw [R.tab.mo.odd]
  decide
theorem calm_nth (m : Nat) : ∀ (n : Nat) (p : SetTable.Probe), p.dummy = none → (nth m p n).dummy = none
  | 0, _, h => h
  | n + 1, p, h => calm_nth m n (adv m p) (by
    unfold adv
    split <;> exact h)
theorem SR.search (R : SR P w s.heap a L es ep t) {x : Addr} {k : List Str} (hx : IsS P w s.heap k x) (hu : A.units < cLine) {n : Nat} (hn : n < 10 * SetTable.turns t.mask)
    (free : way t.mask (hk P w k) n ∉ t.place.toList) (before : ∀ c, c < n → way t.mask (hk P w k) c ∈ t.place.toList) {Q : SetFound → Shared → Prop}
    (hin : k ∈ L.map (·.2) → Q (.there none) s) (hout : k ∉ L.map (·.2) → Q (.free (way t.mask (hk P w k) n) false) s) :
    ∀ (f c : Nat) (stand : Option SetTable.Probe), stand.getD (t.probeStart (hk P w k)) = nth t.mask (runAt t.mask (SetTable.bits (hk P w k) % (t.mask + 1)) (SetTable.bits (hk P w k))) c → c ≤ n → n - c < f →
      (∀ (i : Nat) p, L[i]? = some p → p.2 = k → ∃ c', c ≤ c' ∧ c' < n ∧ t.place.toList[i]? = some (way t.mask (hk P w k) c')) →
      wpAny (model P w) A (setSearchFrom a (.ref x) (hk P w k) true f stand) Q E s
  | 0, _, _, _, _, hf, _ => absurd hf (Nat.not_lt_zero _)
  | f + 1, c, stand, at_c, hc, hf, left => by
    obtain ⟨ob, o1, o2, o3⟩ := R.ob
    rw [setSearchFrom_succ]
    refine wpAny_bind (wpAny_setState_of o1 o3 R.fits ?_)
    dsimp only
    refine wp_if_neg R.stays ?_
    try refine wpAny_bind (wpAny_pure ?_)
    generalize hst : runAt t.mask (SetTable.bits (hk P w k) % (t.mask + 1)) (SetTable.bits (hk P w k)) = st0 at at_c
    have wj : ∀ q, way t.mask (hk P w k) q = (nth t.mask st0 q).j := fun q => by rw [← hst]
    have calm : (nth t.mask st0 c).dummy = none := calm_nth _ _ _ (by rw [← hst]; rfl)
    have sum : ∀ q, nth t.mask (nth t.mask st0 c) q = nth t.mask st0 (c + q) := fun q => (nth_add t.mask c _ q).symm
    have wsum : ∀ q, (nth t.mask (nth t.mask st0 c) q).j = way t.mask (hk P w k) (c + q) := fun q => by rw [sum, wj]
    have hashes : ∀ (i : Nat) p, L[i]? = some p → (es[i]?.map (·.1)).getD 0 = hk P w p.2 := fun i p hp => by
      rw [ents_at R.rows hp]
      rfl
    rcases go_spec t R.tab.up R.tab.none (fun i => (es[i]?.map (·.1)).getD 0) (hk P w k) (10 * SetTable.turns t.mask) (n - c) _ calm (by omega)
      (fun q hq => by rw [wsum]; exact before (c + q) (by omega)) (by rw [wsum, show c + (n - c) = n by omega]; exact free) with ⟨q, i, hq, hi, hh, none_yet, pr⟩ | ⟨none_yet, pr⟩
    · have pr2 : t.probe (fun i => (es[i]?.map (·.1)).getD 0) (hk P w k) (stand.getD (t.probeStart (hk P w k))) = some (.candidate (way t.mask (hk P w k) (c + q)) i (nth t.mask st0 (c + (q + 1)))) := by
        rw [at_c, ← wsum, ← sum]
        exact pr
      rw [pr2]
      dsimp only
      rw [wsum] at hi
      have hil : i < L.length := by
        have h1 := (List.getElem?_eq_some_iff.mp hi).1
        have h2 := R.tab.size
        rw [List.length_map] at h2
        rw [Array.length_toList] at h1
        omega
      obtain ⟨p, hp⟩ : ∃ p, L[i]? = some p := ⟨_, List.getElem?_eq_getElem hil⟩
      have hm := List.mem_of_getElem? hp
      have rest : wpAny (model P w) A (searchRest a (.ref x) (hk P w k) true f es t (way t.mask (hk P w k) (c + q)) i (nth t.mask st0 (c + (q + 1)))) Q E s := by
        unfold searchRest
        rw [ents_at R.rows hp]
        dsimp only
        refine wpAny_bind (wpAny_holding (wpAny_eqBool_tuple hu (R.tup p hm) hx (wpAny_bind (wpAny_setState_of o1 o3 R.fits ?_))))
        dsimp only
        by_cases same : p.2 = k
        · exact wp_if_pos (by simp [same]) (wpAny_pure (hin (List.mem_map.mpr ⟨p, hm, same⟩)))
        · refine wp_if_neg (by simp [same]) ?_
          try refine wpAny_bind (wpAny_pure ?_)
          rw [sameMem]
          dsimp only
          have live : t.slot (way t.mask (hk P w k) (c + q)) = .live i := slot_live R.tab.up hi
          simp only [if_true, live, ents_at R.rows hp]
          refine wpAny_bind (wpAny_isSame_ref_self (wpAny_bind (wpAny_pure ?_)))
          simp only [if_true]
          refine wp_if_neg (by simp [same]) ?_
          refine SR.search R hx hu hn free before hin hout f (c + (q + 1)) _ (by rw [hst]; rfl) (by omega) (by omega) fun i0 p0 h0 e0 => ?_
          obtain ⟨c', l1, l2, l3⟩ := left i0 p0 h0 e0
          refine ⟨c', ?_, l2, l3⟩
          apply Classical.byContradiction
          intro small
          by_cases c'lt : c' < c + q
          · refine none_yet (c' - c) i0 (by omega) (by rw [wsum, show c + (c' - c) = c' by omega]; exact l3) ?_
            exact (hashes i0 p0 h0).trans (congrArg (hk P w) e0)
          · have ec : c' = c + q := by omega
            rw [ec] at l3
            have live0 := slot_live R.tab.up l3
            rw [live] at live0
            cases live0
            rw [hp] at h0
            cases h0
            exact same e0
      by_cases hl : t.led = true
      · refine wp_if_neg (by simp [hl]) ?_
        try refine wpAny_bind (wpAny_pure ?_)
        exact rest
      · refine wp_if_pos (by simp [hl]) (wpAny_bind (seen_s hx (fun y hy => ?_) ?_))
        · obtain ⟨e, he, rfl⟩ := List.mem_map.mp hy
          have he1 : e ∈ es ∧ e.1 = hk P w k := by simpa using he
          have he2 : e ∈ es.toList := by simpa using he1.1
          rw [R.rows] at he2
          obtain ⟨p2, hp2, rfl⟩ := List.mem_map.mp he2
          exact ⟨p2.2, p2.1, rfl, R.tup p2 hp2⟩
        · refine wp_if_neg (by decide) ?_
          try refine wpAny_bind (wpAny_pure ?_)
          exact rest
    · have pr2 : t.probe (fun i => (es[i]?.map (·.1)).getD 0) (hk P w k) (stand.getD (t.probeStart (hk P w k))) = some (.empty (way t.mask (hk P w k) n) none) := by
        rw [at_c, show way t.mask (hk P w k) n = (nth t.mask (nth t.mask st0 c) (n - c)).j by rw [wsum, show c + (n - c) = n by omega]]
        exact pr
      rw [pr2]
      dsimp only
      refine wpAny_pure (hout fun hm => ?_)
      obtain ⟨p0, h0, e0⟩ := List.mem_map.mp hm
      obtain ⟨i0, hi0, ei⟩ := List.getElem_of_mem h0
      have h00 : L[i0]? = some p0 := by rw [List.getElem?_eq_getElem hi0, ei]
      obtain ⟨c', l1, l2, l3⟩ := left i0 p0 h00 e0
      refine none_yet (c' - c) i0 (by omega) (by rw [wsum, show c + (c' - c) = c' by omega]; exact l3) ?_
      exact (hashes i0 p0 h00).trans (congrArg (hk P w) e0)
theorem SR.look (R : SR P w s.heap a L es ep t) {x : Addr} {k : List Str} (hx : IsS P w s.heap k x) (hu : A.units < cLine) {Q : SetFound → Shared → Prop}
    (hin : k ∈ L.map (·.2) → Q (.there none) s)
    (hout : ∀ n, k ∉ L.map (·.2) → way t.mask (hk P w k) n ∉ t.place.toList → (∀ c, c < n → way t.mask (hk P w k) c ∈ t.place.toList) → Q (.free (way t.mask (hk P w k) n) false) s) :
    wpAny (model P w) A (setSearch a (.ref x) (hk P w k) true) Q E s := by
  have room := R.room
  obtain ⟨n, n1, n2, n3⟩ := R.tab.gap (by rw [List.length_map]; omega) (hk P w k)
  have small : n < 100000 := by
    have h1 := R.tab.mo.few
    have h2 : 10 * SetTable.turns t.mask = 10 * (t.mask + 15) := rfl
    omega
  unfold setSearch
  refine R.search hx hu n1 n2 n3 hin (fun hn => hout n hn n2 n3) 100000 0 none rfl (Nat.zero_le _) (by omega) fun i p hp e => ?_
  have hi : (L.map fun p => hk P w p.2)[i]? = some (hk P w k) := by
    rw [List.getElem?_map, hp, ← e]
    rfl
  have hil : i < t.place.toList.length := by
    have h1 := (List.getElem?_eq_some_iff.mp hp).1
    have h2 := R.tab.size
    rw [List.length_map] at h2
    rw [Array.length_toList]
    omega
  have hj := List.getElem?_eq_getElem hil
  obtain ⟨c, hc, ec⟩ := R.tab.ahead n2 hi hj
  exact ⟨c, Nat.zero_le _, hc, by rw [hj, ec]⟩
end
end HF
namespace HF
open PySem PySem.Spec PyProof.Rows L2
section
variable {P : Program} {w : World} {A : Around} {E : Value → Shared → Prop} {s : Shared} {a : Addr} {L : SL} {es : Array (Int × Value)} {ep : Nat} {t : SetTable}
theorem IsS.but {h h' : Heap} {k : List Str} {b : Addr} {o : Obj} (hb : IsS P w h k b) (ho : h.get? a = some o) (hd : o.data = .set es ep t) (sb : Heap.SameBut a h h') : IsS P w h' k b := by
  obtain ⟨ob, its, n, h1, h2, h3, h4⟩ := hb
  have ne : b ≠ a := by
    rintro rfl
    rw [h1] at ho
    cases ho
    rw [hd] at h3
    cases h3
  exact ⟨ob, its, n, (sb.2 b ne).trans h1, h2, h3, h4⟩
theorem IsS.keep {h h' : Heap} {k : List Str} {b : Addr} (hb : IsS P w h k b) (kp : ∀ c o, h.get? c = some o → h'.get? c = some o) : IsS P w h' k b := by
  obtain ⟨ob, its, n, h1, r⟩ := hb
  exact ⟨ob, its, n, kp _ _ h1, r⟩
theorem ents_put (L : SL) (p : Nat) (x : Addr) (k : List Str) : ents P w (L.take p ++ (x, k) :: L.drop p) = (ents P w L).take p ++ (hk P w k, Value.ref x) :: (ents P w L).drop p := by
  unfold ents
  rw [List.map_append, List.map_cons, List.map_take, List.map_drop]
theorem fm_get (L : SL) : ∀ n, n ≤ L.length → (List.range n).filterMap (fun i => L[i]?) = L.take n
  | 0, _ => rfl
  | n + 1, h => by
    rw [List.range_succ, List.filterMap_append, fm_get L n (by omega), List.take_add_one, List.getElem?_eq_getElem (show n < L.length by omega)]
    rw [List.filterMap_cons_some (List.getElem?_eq_getElem (show n < L.length by omega))]
    rfl
theorem ents_order {L : SL} {es : Array (Int × Value)} (h : es.toList = ents P w L) {order : Array Nat} (hp : order.toList.Perm (List.range L.length)) :
    ∃ L2, (order.filterMap (es[·]?)).toList = ents P w L2 ∧ L2.Perm L ∧ (L2.map fun p => hk P w p.2) = order.toList.map fun i => (es.map (·.1)).getD i 0 := by
  have key : ∀ l : List Nat, (∀ i ∈ l, i < L.length) → l.filterMap (fun i => es[i]?) = ents P w (l.filterMap fun i => L[i]?) ∧ ((l.filterMap fun i => L[i]?).map fun p => hk P w p.2) = l.map fun i => (es.map (·.1)).getD i 0 := by
    intro l
    induction l with
    | nil => exact fun _ => ⟨rfl, rfl⟩
    | cons i l ih =>
      intro hl
      obtain ⟨e1, e2⟩ := ih fun j hj => hl j (List.mem_cons_of_mem _ hj)
      have hil := hl i List.mem_cons_self
      have hi : L[i]? = some L[i] := List.getElem?_eq_getElem hil
      have he := ents_at h hi
      rw [List.filterMap_cons_some he, List.filterMap_cons_some hi, e1]
      refine ⟨rfl, ?_⟩
      rw [List.map_cons, List.map_cons, e2]
      have e5 : (es.map (·.1))[i]? = some (hk P w (L[i]).2) := by
        rw [Array.getElem?_map, he]
        rfl
      rw [show (es.map (·.1)).getD i 0 = hk P w (L[i]).2 by simp [Array.getD_eq_getD_getElem?, e5]]
  obtain ⟨e1, e2⟩ := key order.toList fun i hi => List.mem_range.mp (hp.mem_iff.mp hi)
  refine ⟨_, by first | (rw [Array.toList_filterMap]; exact e1) | simpa using e1, ?_, e2⟩
  have := hp.filterMap (fun i => L[i]?)
  rw [fm_get L _ (Nat.le_refl _), List.take_length] at this
  exact this
theorem mo_of {m : Nat} (h : m = 7 ∨ m = 31 ∨ m = 127 ∨ m = 511) : Mo m := by
  rcases h with e | e | e | e
  · exact e ▸ mo7
  · exact e ▸ mo31
  · exact e ▸ mo127
  · exact e ▸ mo511
theorem relay_s {o : Obj} (ho : s.heap.get? a = some o) (ex : o.ExactSet) (hd : o.data = .set es ep t) (rows : es.toList = ents P w L) (sz : t.place.size = es.size) (dm : t.dummies = #[]) (fl : es.size ≤ t.mask)
    (nd : (L.map (·.2)).Nodup) (tup : ∀ p ∈ L, IsS P w s.heap p.2 p.1) (ld : w.params.followText "set-order" = true ∨ t.led = true) {wanted M : Nat}
    (hw : SetTable.sizeAbove wanted - 1 = M) (hm : M = 7 ∨ M = 31 ∨ M = 127 ∨ M = 511) (hw2 : SetTable.sizeAbove wanted ≤ 512) (room : L.length * 5 < M * 3) {Q : Unit → Shared → Prop}
    (hQ : ∀ h' L' es' ep' t', Heap.SameBut a s.heap h' → SR P w h' a L' es' ep' t' → L'.Perm L → Q () { s with heap := h' }) : wpAny (model P w) A (setRelay a wanted) Q E s := by
  have hM := mo_of hm
  have el := ents_size rows
  obtain ⟨t2, order, e, hp, T, em, eled, _⟩ := relaid_mo t (hs := es.map (·.1)) hw hM (by rw [Array.size_map, el]; omega)
  rw [Array.size_map, el] at hp
  obtain ⟨L2, r1, r2, r3⟩ := ents_order rows hp
  rw [← r3] at T
  have s2 : (order.filterMap (es[·]?)).size = es.size := by rw [ents_size r1, r2.length_eq, el]
  rw [setRelay_eq]
  refine wpAny_bind (wpAny_setState_of ho hd (fits_of sz dm fl) ?_)
  dsimp only
  refine wp_if_neg (by rw [sizeLine_eq]; omega) ?_
  try refine wpAny_bind (wpAny_pure ?_)
  rw [e]
  dsimp only
  refine wpAny_bind (wp_if_neg (by rw [s2]; simp) ?_)
  try refine wpAny_bind (wpAny_pure ?_)
  refine wpAny_pure ?_
  dsimp only
  refine wpAny_storeSet_of ho hd ?_ (by rw [s2, el, sizeLine_eq]; have := hM.few; omega)
  have sb : Heap.SameBut a s.heap (s.heap.update a (Obj.putSet (order.filterMap (es[·]?)) t2)) := Heap.SameBut.update ..
  exact hQ _ L2 _ (ep + 1) t2 sb ⟨⟨_, store_at ho hd, ⟨ex.1, ex.2.1, ex.2.2⟩, rfl⟩, r1, T, (r2.map (·.2)).nodup_iff.mpr nd, fun p hpm => (tup p (r2.mem_iff.mp hpm)).but ho hd sb, by rw [eled]; exact ld, by rw [r2.length_eq, em]; exact room, by rw [em]; exact hm⟩ r2
theorem grow_sizes {m n : Nat} (hm : m = 7 ∨ m = 31 ∨ m = 127 ∨ m = 511) (r : n * 5 < m * 3) (f : (n + 1) * 5 ≥ m * 3) (few : n + 1 ≤ 306) :
    ∃ M, SetTable.sizeAbove (SetTable.grown (n + 1)) - 1 = M ∧ (M = 7 ∨ M = 31 ∨ M = 127 ∨ M = 511) ∧ SetTable.sizeAbove (SetTable.grown (n + 1)) ≤ 512 ∧ (n + 1) * 5 < M * 3 ∧ n + 1 ≤ m := by
  rcases hm with e | e | e | e
  · have en : n = 4 := by omega
    subst en e
    exact ⟨31, by decide +kernel, .inr (.inl rfl), by decide +kernel, by decide, by decide⟩
  · have en : n = 18 := by omega
    subst en e
    exact ⟨127, by decide +kernel, .inr (.inr (.inl rfl)), by decide +kernel, by decide, by decide⟩
  · have en : n = 76 := by omega
    subst en e
    exact ⟨511, by decide +kernel, .inr (.inr (.inr rfl)), by decide +kernel, by decide, by decide⟩
  · omega
/-- one more -/
theorem SR.add (R : SR P w s.heap a L es ep t) {x : Addr} {k : List Str} (hx : IsS P w s.heap k x) (hu : A.units < cLine) (few : L.length + 1 ≤ 306) {Q : Bool → Shared → Prop}
    (hQ : ∀ b h' L' es' ep' t', Heap.SameBut a s.heap h' → SR P w h' a L' es' ep' t' → (k ∈ L.map (·.2) → L' = L) → (k ∉ L.map (·.2) → L'.Perm ((x, k) :: L)) → Q b { s with heap := h' }) :
    wpAny (model P w) A (setAddHashed a (.ref x) (hk P w k)) Q E s := by
  obtain ⟨o, o1, ex, o2⟩ := R.ob
  have el := ents_size R.rows
  have room := R.room
  unfold setAddHashed
  refine wpAny_holding ?_
  rw [show (100000 : Nat) = 99999 + 1 from rfl, setAddHashedIn_succ]
  refine wpAny_bind (wpAny_setState_of o1 o2 R.fits ?_)
  dsimp only
  refine wp_if_neg (by simp [byScan, Value.scannable]) ?_
  try refine wpAny_bind (wpAny_pure ?_)
  refine wpAny_bind (R.look hx hu (fun hm => ?_) fun n hm free before => ?_)
  · dsimp only
    exact wpAny_pure (hQ false s.heap L es ep t (Heap.SameBut.refl a s.heap) R (fun _ => rfl) fun z => absurd hm z)
  · dsimp only
    refine wpAny_bind (wpAny_setState_of o1 o2 R.fits ?_)
    dsimp only
    obtain ⟨q1, q2, q3⟩ := R.tab.more free before
    have hrows : (SetTable.insertAt es (SetTable.below t.place (way t.mask (hk P w k) n)) (hk P w k, Value.ref x)).toList = ents P w (L.take (SetTable.below t.place (way t.mask (hk P w k) n)) ++ (x, k) :: L.drop (SetTable.below t.place (way t.mask (hk P w k) n))) := by
      rw [SetTable.toList_insertAt, ents_put, R.rows]
    have hhash : (L.take (SetTable.below t.place (way t.mask (hk P w k) n)) ++ (x, k) :: L.drop (SetTable.below t.place (way t.mask (hk P w k) n))).map (fun p => hk P w p.2) = (L.map fun p => hk P w p.2).take (SetTable.below t.place (way t.mask (hk P w k) n)) ++ hk P w k :: (L.map fun p => hk P w p.2).drop (SetTable.below t.place (way t.mask (hk P w k) n)) := by
      rw [List.map_append, List.map_cons, List.map_take, List.map_drop]
    rw [← hhash] at q2
    have hmask : (t.put (way t.mask (hk P w k) n)).1.mask = t.mask := rfl
    have hled : (t.put (way t.mask (hk P w k) n)).1.led = t.led := rfl
    have hsnd : (t.put (way t.mask (hk P w k) n)).2 = SetTable.below t.place (way t.mask (hk P w k) n) := rfl
    have pm := put_perm L (SetTable.below t.place (way t.mask (hk P w k) n)) (x, k)
    rw [List.length_map] at q3
    generalize t.put (way t.mask (hk P w k) n) = pt at *
    obtain ⟨t0, p0⟩ := pt
    dsimp only at q2 q3 hmask hled hsnd ⊢
    subst hsnd
    generalize SetTable.below t.place (way t.mask (hk P w k) n) = p at *
    have fin : ∀ t1 : SetTable, t1.mask = t0.mask → t1.led = t0.led → t1.place = t0.place → t1.dummies = t0.dummies →
        wpAny (model P w) A (do
          storeSet a (SetTable.insertAt es p (hk P w k, Value.ref x)) t1
          if !false && t1.tooFull then setRelay a (SetTable.grown (es.size + 1))
          return true) Q E s := by
      intro t1 m1 l1 p1 d1
      have T1 : Tb t1 ((L.take p ++ (x, k) :: L.drop p).map fun p => hk P w p.2) := by
        obtain ⟨a1, a2, a3, a4, a5, a6⟩ := q2
        exact ⟨p1 ▸ a1, d1.trans a2, p1 ▸ a3, m1 ▸ a4, fun y hy => by rw [m1]; exact a5 y (p1 ▸ hy), fun i y j h1 h2 => by rw [m1, p1]; exact a6 i y j h1 (p1 ▸ h2)⟩
      have f1 : t1.fill = L.length + 1 := by
        rw [← q3]
        show t1.place.size + t1.dummies.size = t0.place.size + t0.dummies.size
        rw [p1, d1]
      have el1 := ents_size hrows
      have ln : (L.take p ++ (x, k) :: L.drop p).length = L.length + 1 := pm.length_eq
      have nd1 : ((L.take p ++ (x, k) :: L.drop p).map (·.2)).Nodup := by
        refine (pm.map (·.2)).nodup_iff.mpr ?_
        rw [List.map_cons]
        exact List.nodup_cons.mpr ⟨hm, R.nd⟩
      rw [ln] at el1
      have rows1 := hrows
      generalize SetTable.insertAt es p (hk P w k, Value.ref x) = es1 at *
      generalize L.take p ++ (x, k) :: L.drop p = L1 at *
      refine wpAny_bind (wpAny_storeSet_of o1 o2 ?_ (by rw [el1, sizeLine_eq]; omega))
      have sb : Heap.SameBut a s.heap (s.heap.update a (Obj.putSet es1 t1)) := Heap.SameBut.update ..
      have at1 := store_at (es' := es1) (t' := t1) o1 o2
      generalize s.heap.update a (Obj.putSet es1 t1) = h1 at *
      have tup1 : ∀ p ∈ L1, IsS P w h1 p.2 p.1 := fun p hp => by
        rcases List.mem_cons.mp (pm.mem_iff.mp hp) with rfl | hp
        · exact IsS.but hx o1 o2 sb
        · exact (R.tup p hp).but o1 o2 sb
      have ld1 : w.params.followText "set-order" = true ∨ t1.led = true := by
        rw [l1, hled]
        exact R.led
      by_cases full : t1.tooFull = true
      · have f2 : (L.length + 1) * 5 ≥ t.mask * 3 := by
          unfold SetTable.tooFull at full
          rw [decide_eq_true_eq, f1, m1, hmask] at full
          exact full
        obtain ⟨M, g1, g2, g3, g4, g5⟩ := grow_sizes R.four room f2 few
        have sz1 : t1.place.size = es1.size := by
          have h := T1.size
          rw [List.length_map] at h
          omega
        have relay : ∀ {Q2 : Unit → Shared → Prop}, (∀ h2 L2 es2 ep2 t2, Heap.SameBut a h1 h2 → SR P w h2 a L2 es2 ep2 t2 → L2.Perm L1 → Q2 () { s with heap := h2 }) → wpAny (model P w) A (setRelay a (SetTable.grown (es.size + 1))) Q2 E { s with heap := h1 } := fun hq => by
          rw [el]
          exact relay_s (s := { s with heap := h1 }) at1 ⟨ex.1, ex.2.1, ex.2.2⟩ rfl rows1 sz1 T1.none (by rw [el1, m1, hmask]; exact g5) nd1 tup1 ld1 g1 g2 g3 (by rw [ln]; exact g4) hq
        first
          | (refine wpAny_bind ?_; refine wp_if_pos (by simp [full]) ?_; exact relay fun h2 L2 es2 ep2 t2 sb2 R2 pm2 => wpAny_pure (hQ true h2 L2 es2 ep2 t2 (sb.trans sb2) R2 (fun z => absurd z hm) fun _ => pm2.trans pm))
          | (refine wp_if_pos (by simp [full]) ?_; refine wpAny_bind ?_; exact relay fun h2 L2 es2 ep2 t2 sb2 R2 pm2 => wpAny_pure (hQ true h2 L2 es2 ep2 t2 (sb.trans sb2) R2 (fun z => absurd z hm) fun _ => pm2.trans pm))
      · have R1 : SR P w h1 a L1 es1 (ep + 1) t1 := ⟨⟨_, at1, ⟨ex.1, ex.2.1, ex.2.2⟩, rfl⟩, rows1, T1, nd1, tup1, ld1, by
          unfold SetTable.tooFull at full
          rw [decide_eq_true_eq, f1] at full
          rw [ln]
          omega, by rw [m1, hmask]; exact R.four⟩
        first
          | exact wp_if_neg (by simp [full]) (wpAny_pure (hQ true h1 L1 es1 (ep + 1) t1 sb R1 (fun z => absurd z hm) fun _ => pm))
          | exact wpAny_bind (wp_if_neg (by simp [full]) (wpAny_pure (wpAny_pure (hQ true h1 L1 es1 (ep + 1) t1 sb R1 (fun z => absurd z hm) fun _ => pm))))
    by_cases pl : t0.plain = true
    · first
        | (refine wpAny_bind ?_; refine wp_if_pos pl ?_; refine hby_tup hx fun c => ?_)
        | refine wp_if_pos pl (wpAny_bind (hby_tup hx fun c => ?_))
      cases c
      · exact fin { t0 with plain := false } rfl rfl rfl rfl
      · exact fin t0 rfl rfl rfl rfl
    · first
        | (refine wpAny_bind ?_; refine wp_if_neg pl ?_; refine wpAny_pure ?_; exact fin t0 rfl rfl rfl rfl)
        | (refine wp_if_neg pl ?_; refine wpAny_bind (wpAny_pure ?_); exact fin t0 rfl rfl rfl rfl)
end
end HF
namespace HF
open PySem PySem.Spec PyProof.Rows L2
/-- what the first i of ks have left -/
structure Gt (ks : SL) (i : Nat) (L : SL) : Prop where
  sub : ∀ p ∈ L, p ∈ ks.take i
  all : ∀ p ∈ ks.take i, p.2 ∈ L.map (·.2)
  few : L.length ≤ i
theorem Gt.none (ks : SL) : Gt ks 0 [] := ⟨fun p h => (nomatch h), fun p h => by simp at h, Nat.le_refl _⟩
theorem take1 {ks : SL} {i : Nat} {p : Addr × List Str} (h : ks[i]? = some p) : ks.take (i + 1) = ks.take i ++ [p] := by
  rw [List.take_add_one, h]
  rfl
theorem Gt.same {ks L : SL} {i : Nat} {p : Addr × List Str} (g : Gt ks i L) (h : ks[i]? = some p) (hm : p.2 ∈ L.map (·.2)) : Gt ks (i + 1) L := by
  refine ⟨fun q hq => ?_, fun q hq => ?_, Nat.le_succ_of_le g.few⟩
  · rw [take1 h]
    exact List.mem_append_left _ (g.sub q hq)
  · rw [take1 h] at hq
    exact (List.mem_append.mp hq).elim (g.all q) fun z => (List.mem_singleton.mp z) ▸ hm
theorem Gt.more {ks L L' : SL} {i : Nat} {p : Addr × List Str} (g : Gt ks i L) (h : ks[i]? = some p) (pm : L'.Perm (p :: L)) : Gt ks (i + 1) L' := by
  refine ⟨fun q hq => ?_, fun q hq => ?_, ?_⟩
  · rw [take1 h]
    exact (List.mem_cons.mp (pm.mem_iff.mp hq)).elim (fun e => List.mem_append_right _ (List.mem_singleton.mpr e)) fun z => List.mem_append_left _ (g.sub q z)
  · rw [(pm.map (·.2)).mem_iff, List.map_cons]
    rw [take1 h] at hq
    exact (List.mem_append.mp hq).elim (fun z => List.mem_cons_of_mem _ (g.all q z)) fun z => (List.mem_singleton.mp z) ▸ List.mem_cons_self
  · rw [pm.length_eq, List.length_cons]
    exact Nat.succ_le_succ g.few
section
variable {P : Program} {w : World} {A : Around} {E : Value → Shared → Prop} {s : Shared}
theorem SR.keep {h h' : Heap} {a : Addr} {L : SL} {es : Array (Int × Value)} {ep : Nat} {t : SetTable} (R : SR P w h a L es ep t) (ha : ∀ o, h.get? a = some o → h'.get? a = some o) (ht : ∀ p ∈ L, IsS P w h' p.2 p.1) : SR P w h' a L es ep t := by
  obtain ⟨o, ho, r⟩ := R.ob
  exact ⟨⟨o, ha o ho, r⟩, R.rows, R.tab, R.nd, ht, R.led, R.room, R.four⟩
abbrev bareSet (w : World) : Obj := { cls := .type "set", dict := none, data := .set #[] 0 (.fresh 0 0 (!w.params.followText "set-order")) }
theorem SR.bare {h : Heap} {a : Addr} (ho : h.get? a = some (bareSet w)) : SR P w h a [] #[] 0 (.fresh 0 0 (!w.params.followText "set-order")) := by
  refine ⟨⟨_, ho, ⟨rfl, rfl, rfl⟩, rfl⟩, rfl, ⟨List.Pairwise.nil, rfl, rfl, mo7, fun y hy => (nomatch hy), fun i y j hi => by simp at hi⟩, List.nodup_nil, fun p hp => (nomatch hp), ?_, by show 0 * 5 < 7 * 3; decide, .inl rfl⟩
  show _ ∨ (!w.params.followText "set-order") = true
  cases w.params.followText "set-order"
  · exact .inr rfl
  · exact .inl rfl
theorem update_s {I : Addr} {fp wr : List Addr} {G : Array GenState → Array GenState → Prop} {n : Nat} {Pv : Nat → Value → Prop} {St : Nat → Shared → Prop} {R : Result → Shared → Prop}
    (W : WalksS P w A.in1 I fp wr G n Pv St) (S : Addr) (out : S ∉ fp) (ks : SL) (hn : n = ks.length) (few : ks.length ≤ 306) (vals : ∀ i v, Pv i v → ∃ p, ks[i]? = some p ∧ v = .ref p.1)
    (h0 : Heap) (tups : ∀ p ∈ ks, IsS P w h0 p.2 p.1) (new : h0.get? S = none) (new2 : ∀ b ∈ wr, h0.get? b = none) (hu : A.in1.units < cLine) :
    ∀ (k i : Nat) (st : Shared), n - i = k → i ≤ n → St i st → (∀ b o, h0.get? b = some o → st.heap.get? b = some o) → (∃ L es ep t, SR P w st.heap S L es ep t ∧ Gt ks i L) →
      (∀ s' L es ep t, Moved (S :: wr) G st s' → SR P w s'.heap S L es ep t → Gt ks n L → (∀ b o, h0.get? b = some o → s'.heap.get? b = some o) → R (.ok (.ret .none)) s') →
      codeAny (model P w) A (.builtin "set.update.loop" ⟨[.ref S, .ref I], []⟩) R st := by
  have outw : S ∉ wr := fun h => out (W.sub _ h)
  have wider : ∀ b ∈ wr, b ∈ S :: wr := fun b hb => List.mem_cons_of_mem _ hb
  have stays : ∀ {s1 s2 : Shared}, Moved wr G s1 s2 → (∀ b o, h0.get? b = some o → s1.heap.get? b = some o) → ∀ b o, h0.get? b = some o → s2.heap.get? b = some o := fun mv kp b o e =>
    mv.heap b o (fun hb => by rw [new2 b hb] at e; cases e) (kp b o e)
  have part : ∀ {i : Nat} {L : SL}, Gt ks i L → ∀ p ∈ L, p ∈ ks := fun g p hp => List.mem_of_mem_take (g.sub p hp)
  intro k
  induction k with
  | zero =>
    rintro i st e0 hi hst kp ⟨L, es, ep, t, hS, g⟩ hR
    obtain rfl : i = n := by omega
    refine codeAny_builtin F.entry_set_update_loop ?_
    rw [Around.under_plainId F.plain_set_update_loop _]
    show wpAny _ A.in1 (pyNext (.ref I) >>= _) _ _ st
    refine wpAny_bind (W.done st _ _ hst fun s1 mv => ?_)
    have kp1 := stays mv kp
    show wpAny _ A.in1 (ret Value.none) _ _ s1
    exact wpAny_pure (hR s1 L es ep t (mv.mono wider) (hS.keep (fun o e => mv.heap S o outw e) fun p hp => (tups p (part g p hp)).keep kp1) g kp1)
  | succ k ih =>
    rintro i st e0 hi hst kp ⟨L, es, ep, t, hS, g⟩ hR
    have lt : i < n := by omega
    refine codeAny_builtin F.entry_set_update_loop ?_
    rw [Around.under_plainId F.plain_set_update_loop _]
    show wpAny _ A.in1 (pyNext (.ref I) >>= _) _ _ st
    refine wpAny_bind (W.item i st _ _ lt hst fun v s1 hP hst1 mv => ?_)
    obtain ⟨p, hp, rfl⟩ := vals i v hP
    have kp1 := stays mv kp
    have hS1 : SR P w s1.heap S L es ep t := hS.keep (fun o e => mv.heap S o outw e) fun q hq => (tups q (part g q hq)).keep kp1
    have hx : IsS P w s1.heap p.2 p.1 := (tups p (List.mem_of_getElem? hp)).keep kp1
    show wpAny _ A.in1 (holding [Value.ref p.1] (setAdd S (.ref p.1)) >>= _) _ _ s1
    refine wpAny_bind (wpAny_holding ?_)
    unfold setAdd
    refine wpAny_holding (wpAny_bind (wpAny_pyHash_tuple hu hx ?_))
    refine SR.add (s := { s1 with toks := s1.toks + (p.2.length + 1) }) hS1 hx hu (by have := g.few; omega) fun b h2 L2 es2 ep2 t2 sb hS2 c1 c2 => ?_
    have g2 : Gt ks (i + 1) L2 := by
      by_cases c : p.2 ∈ L.map (·.2)
      · rw [c1 c]
        exact g.same hp c
      · exact g.more hp (c2 c)
    have kp2 : ∀ b o, h0.get? b = some o → h2.get? b = some o := fun b o e => (sb.2 b fun z => by rw [z, new] at e; cases e).trans (kp1 b o e)
    refine wpAny_pure ⟨plainId_quiet F.plain_set_update_loop _, ih (i + 1) _ (by omega) lt (W.frame _ s1 _ _ hst1 (Nat.le_add_right _ _) fun b hb o e => ?_) kp2 ⟨L2, es2, ep2, t2, hS2, g2⟩ fun s3 L3 es3 ep3 t3 mv3 hS3 g3 kp3 => ?_⟩
    · rw [sb.2 b fun z => out (z ▸ hb)]
      exact e
    · refine hR s3 L3 es3 ep3 t3 (Moved.trans W.gtrans ((mv.mono wider).then_heap (Nat.le_add_right _ _) fun b o hb e => ?_) mv3) hS3 g3 kp3
      rw [sb.2 b fun z => hb (z ▸ List.mem_cons_self)]
      exact e
theorem call_set_s {l : Addr} {items : Array Value} (ks : SL) {Q : Value → Shared → Prop} (hh : A.handled = none) (hl : s.heap.IsList l items) (hit : items.toList = ks.map fun p => Value.ref p.1)
    (tups : ∀ p ∈ ks, IsS P w s.heap p.2 p.1) (few : ks.length ≤ 306) (hu : A.units + 3 < cLine)
    (hQ : ∀ (h' : Heap) (tk : Nat) L es ep t, SR P w h' s.heap.objs.size L es ep t → Gt ks ks.length L → (∀ b o, s.heap.get? b = some o → h'.get? b = some o) → Q (.ref s.heap.objs.size) { s with heap := h', toks := tk }) :
    wpAny (model P w) A (call (.type "set") [.ref l]) Q E s := by
  have many : items.size = ks.length := by
    have q := congrArg List.length hit
    rw [Array.length_toList, List.length_map] at q
    exact q
  obtain ⟨c, tl, hmro⟩ := F.called_set.mro
  have hmade := F.called_set.made
  have hsub := F.called_set.sub
  refine wpAny_call (codeAny_of_tree ?_)
  show wpAny _ _ (callAny (.type "set") _) _ _ _
  refine wpAny_pure ⟨Code.quiet_builtin _ (by decide +kernel), codeAny_builtin F.entry_type_call ?_⟩
  rw [Around.under_plain (weight_type_call_type "set" [.ref l] []) rfl]
  have h1 := F.called_set.notType
  have h2 := F.called_set.canCreate
  have hct := F.typeCall_set_1 (.ref l)
  repeat (any_goals (first | assumption | wp_step))
  refine codeAny_mono (code_set_led1 (.ref l) (E := E) (Q₁ := fun obj s₁ => obj = .ref s.heap.objs.size ∧ s₁ = { s with heap := s.heap.push (bareSet w) }) ⟨rfl, rfl⟩) fun r s₁ hr => ?_
  cases r with
  | error e => exact hr
  | ok fl =>
    cases fl with
    | ret obj =>
      obtain ⟨rfl, rfl⟩ := hr
      have atS : (s.heap.push (bareSet w)).get? s.heap.objs.size = some (bareSet w) := Heap.get?_push_size _ rfl
      have hT : Shared.TypeIs { s with heap := s.heap.push (bareSet w) } (.ref s.heap.objs.size) "set" := ⟨_, atS, rfl⟩
      have hli := F.called_set.init.lookup
      have hbi := F.called_set.init.bind (.ref s.heap.objs.size)
      repeat (any_goals (first | assumption | wp_step))
      refine codeAny_mono (codeAny_call_builtin (R := wants (fun r s₂ => r = .none ∧ ∃ h' tk L es ep t, s₂ = { s with heap := h', toks := tk } ∧ SR P w h' s.heap.objs.size L es ep t ∧ Gt ks ks.length L ∧ (∀ b o, s.heap.get? b = some o → h'.get? b = some o)) E) F.called_set.init.plain F.entry_set_init (check_set_init_1 hT ?_)) fun r₂ s₂ hr₂ => ?_
      · obtain ⟨⟨ocls, odict, odata, oslots⟩, hol, hcl, nl, hdl⟩ := hl
        simp only at hcl hdl
        subst hcl hdl
        have hol1 : (s.heap.push (bareSet w)).get? l = some { cls := .type "list", dict := odict, data := .seq items nl, slots := oslots } := Heap.get?_push_of_some _ hol
        have hsls := F.sub_list_set
        have hslf := F.sub_list_frozenset
        have hne : (Value.type "list" == Value.type "dict") = false := by decide
        have hl1 : (s.heap.push (bareSet w)).IsList l items := ⟨_, hol1, rfl, nl, rfl⟩
        unfold Builtin.«set.__init__» noKeywords Builtin.Frozenset.updateFrom
        generalize hPI : pyIter = PI
        wp_walk
        subst hPI
        refine wpAny_pyIter_list hl1 (wpAny_bind (wpAny_runValue ?_))
        have ltl : l < s.heap.objs.size := Heap.lt_size hol
        have sz1 : (s.heap.push (bareSet w)).objs.size = s.heap.objs.size + 1 := Heap.size_push ..
        have hval : ∀ (i : Nat) (v : Value), items[i]? = some v → ∃ p, ks[i]? = some p ∧ v = .ref p.1 := fun i v hv => by
          have q : items.toList[i]? = some v := by
            rw [Array.getElem?_toList]
            exact hv
          rw [hit, List.getElem?_map] at q
          obtain ⟨p, hp, e⟩ := Option.map_eq_some_iff.mp q
          exact ⟨p, hp, e.symm⟩
        have beyond : ∀ b, s.heap.objs.size ≤ b → s.heap.get? b = none := fun b hb => by
          cases q : s.heap.get? b with
          | none => rfl
          | some o => exact absurd (Nat.lt_of_lt_of_le (Heap.lt_size q) hb) (Nat.lt_irrefl _)
        refine update_s ((Walks.list (by simp [hh]) _ l (by rw [sz1]; exact Nat.ne_of_lt (Nat.lt_succ_of_lt ltl)) items).toS) s.heap.objs.size
          (by rw [sz1]; simp only [List.mem_cons, List.not_mem_nil, or_false, not_or]; exact ⟨Nat.ne_of_lt (Nat.lt_succ_self _), Nat.ne_of_gt ltl⟩) ks many few hval s.heap tups (beyond _ (Nat.le_refl _))
          (fun b hb => beyond b (by rw [List.mem_singleton.mp hb, sz1]; exact Nat.le_succ _)) hu (items.size - 0) 0 _ (by omega) (Nat.zero_le _)
          ⟨⟨_, Heap.get?_push_size _ rfl, rfl, rfl⟩, (hl1.push _)⟩ (fun b o e => Heap.get?_push_of_some _ (Heap.get?_push_of_some _ e)) ?hS0 ?hR
        case hS0 =>
          exact ⟨[], #[], 0, _, SR.bare (Heap.get?_push_of_some _ atS), Gt.none ks⟩
        case hR =>
          rintro ⟨h', g2, d', tk', os'⟩ L es ep t mv hS' g' kp
          have eg : g2 = s.gens := mv.gens
          have ed : d' = s.drawn := mv.drawn
          have eo : os' = s.os := mv.os
          subst eg ed eo
          show wpAny _ _ _ _ _ _
          refine wpAny_pure ?_
          show wpAny _ _ (ret Value.none) _ _ _
          rw [many] at g'
          exact wpAny_pure ⟨rfl, h', tk', L, es, ep, t, rfl, hS', g', kp⟩
      · cases r₂ with
        | error e => exact hr₂
        | ok fl₂ =>
          cases fl₂ with
          | ret r =>
            obtain ⟨rfl, h', tk, L, es, ep, t, rfl, hS', g', kp⟩ := hr₂
            repeat (any_goals (first | assumption | wp_step))
            exact hQ _ _ _ _ _ _ hS' g' kp
          | _ => exact hr₂.elim
    | _ => exact hr.elim
end
end HF
namespace HF
open PySem PySem.Spec PyProof.Rows L2
theorem perm_back {α β : Type} {f : α → β} {l m : List β} (h : l.Perm m) : ∀ L : List α, m = L.map f → ∃ L1 : List α, L1.Perm L ∧ l = L1.map f := by
  induction h with
  | nil =>
    intro L e
    cases L with
    | nil => exact ⟨[], .refl _, rfl⟩
    | cons _ _ => cases e
  | cons x _ ih =>
    intro L e
    cases L with
    | nil => cases e
    | cons y r =>
      rw [List.map_cons] at e
      cases e
      obtain ⟨L1, p, rfl⟩ := ih r rfl
      exact ⟨y :: L1, p.cons y, rfl⟩
  | swap x y l =>
    intro L e
    cases L with
    | nil => cases e
    | cons a r =>
      cases r with
      | nil => cases e
      | cons b r =>
        rw [List.map_cons, List.map_cons] at e
        cases e
        exact ⟨b :: a :: r, .swap a b r, rfl⟩
  | trans _ _ ih1 ih2 =>
    intro L e
    obtain ⟨L1, p1, e1⟩ := ih2 L e
    obtain ⟨L2, p2, e2⟩ := ih1 L1 e1
    exact ⟨L2, p2.trans p1, e2⟩
/-- the data of such a tuple -/
abbrev encS (p : Addr × List Str) : PyData := .tuple (p.2.map PyData.str)
section
variable {P : Program} {w : World} {A : Around} {E : Value → Shared → Prop} {s : Shared}
theorem reads_items {h : Heap} {k : List Str} {vs : List Value} (hi : ItemsAre (strKind P w) k vs) : ReadsAll h vs (k.map PyData.str) [] := by
  induction hi with
  | nil => exact .nil
  | @cons k0 v ks vs h1 _ ih =>
    obtain ⟨tk, rfl⟩ := Value.isStrOf_shape (x := k0) h1
    exact ReadsAll.cons (as := []) (bs := []) (.str _ _) ih
theorem IsS.reads {h : Heap} {k : List Str} {b : Addr} (hb : IsS P w h k b) : Reads h (.ref b) (.tuple (k.map PyData.str)) [] := by
  obtain ⟨o, its, n, h1, h2, h3, h4⟩ := hb
  exact .tuple h1 h2 h3 (reads_items h4)
theorem alike_strs : ∀ {xs ys : List Str}, xs.length = ys.length → PySem.W.alikeAll (xs.map PyData.str) (ys.map PyData.str) = true
  | [], [], _ => rfl
  | x :: xs, y :: ys, h => by
    show (true && PySem.W.alikeAll (xs.map PyData.str) (ys.map PyData.str)) = true
    rw [alike_strs (by simpa using h)]
    rfl
theorem each_refs {h : Heap} : ∀ {L : SL}, (∀ p ∈ L, IsS P w h p.2 p.1) → PySem.W.EachIs (fun v (p : Addr × List Str) => ∃ as, Reads h v (encS p) as ∧ ∀ a : Addr, a ∉ as) (L.map fun p => Value.ref p.1) L
  | [], _ => .nil
  | p :: r, h => .cons ⟨[], (h p List.mem_cons_self).reads, fun a z => (nomatch z)⟩ (each_refs fun q hq => h q (List.mem_cons_of_mem _ hq))
theorem each_self : ∀ L : SL, PySem.W.EachIs (fun v (p : Addr × List Str) => v = Value.ref p.1) (L.map fun p => Value.ref p.1) L
  | [] => .nil
  | p :: r => .cons rfl (each_self r)
theorem each_out : ∀ {out : List Value} {L : SL}, PySem.W.EachIs (fun v (p : Addr × List Str) => v = Value.ref p.1) out L → out = L.map fun p => Value.ref p.1
  | _, _, .nil => rfl
  | _, _, .cons h t => by rw [h, each_out t]; rfl
theorem depth_encS (p : Addr × List Str) : (encS p).depth = 1 := by
  have key : ∀ zs : List Str, PyData.depthAll (zs.map PyData.str) = 0 := by
    intro zs
    induction zs with
    | nil => rfl
    | cons z r ih =>
      show max 0 (PyData.depthAll (r.map PyData.str)) = 0
      rw [ih]
      rfl
  show PyData.depthAll (p.2.map PyData.str) + 1 = 1
  rw [key]
theorem sorted_s {a : Addr} {L : SL} {es : Array (Int × Value)} {ep : Nat} {t : SetTable} {Q : Value → Shared → Prop} (R : SR P w s.heap a L es ep t) (hh : A.handled = none) (hu : A.units + 64 < cLine) {d : Nat} (hlen : ∀ p ∈ L, p.2.length = d + 1) (few : L.length ≤ 306)
    (hQ : ∀ (s' : Shared) (p : Addr) (out : Array Value) (c : Nat) (L' : SL), (∀ b o, s.heap.get? b = some o → s'.heap.get? b = some o) → s'.gens = s.gens → s'.os = s.os → s.heap.objs.size ≤ p → s'.heap.get? p = some (seqObj "list" out c) → out.toList = L'.map (fun q => Value.ref q.1) → L'.Perm L →
      L'.Pairwise (fun p q => PySem.W.dataLe false encS p q = true) → Q (.ref p) s') :
    wpAny (model P w) A (call (.builtin "sorted") [.ref a]) Q E s := by
  obtain ⟨o, o1, ex, o2⟩ := R.ob
  have el := ents_size R.rows
  refine Calls.call_function_entry kind_sorted plain_sorted entry_sorted (args_sorted1 _) ?_
  unfold Builtin.«sorted»
  refine wpAny_bind (m := checkCount "sorted" 1 1 _) (wpAny_pure ?_)
  refine wpAny_bind (collect_set (A := A.in1) hh ⟨o, o1, ex.1, o2⟩ R.fits (by unfold scanBound; omega) R.tab.up R.led fun s1 vs k1 hz g1 os1 pm => ?_)
  have hes : es.toList.map (·.2) = L.map fun q => Value.ref q.1 := by
    rw [R.rows]
    unfold ents
    rw [List.map_map]
    rfl
  rw [hes] at pm
  obtain ⟨L1, p1, rfl⟩ := perm_back pm L rfl
  have many : (L1.map fun q => Value.ref q.1).length ≤ 306 := by rw [List.length_map, p1.length_eq]; exact few
  refine wpAny_bind (wpAny_newList ?_ (by rw [sizeLine_eq]; omega))
  have hoL : (s1.heap.push (seqObj "list" (L1.map fun q => Value.ref q.1).toArray 0)).get? s1.heap.objs.size = some (seqObj "list" (L1.map fun q => Value.ref q.1).toArray 0) := Heap.get?_push_size _ rfl
  have tup1 : ∀ q ∈ L1, IsS P w (s1.heap.push (seqObj "list" (L1.map fun q => Value.ref q.1).toArray 0)) q.2 q.1 := fun q hq => (R.tup q (p1.mem_iff.mp hq)).keep fun b u e => Heap.get?_push_of_some _ (k1 b u e)
  have len1 : ∀ q ∈ L1, q.2.length = d + 1 := fun q hq => hlen q (p1.mem_iff.mp hq)
  have hal : PySem.W.AllAlike (L1.map encS) := fun x hx y hy => by
    obtain ⟨q, hq, rfl⟩ := List.mem_map.mp hx
    obtain ⟨r, hr, rfl⟩ := List.mem_map.mp hy
    exact alike_strs ((len1 q hq).trans (len1 r hr).symm)
  have hso : PySem.W.Sortable (L1.map encS) := .inl fun x hx => by
    obtain ⟨q, hq, rfl⟩ := List.mem_map.mp hx
    have := len1 q hq
    cases e : q.2 with
    | nil => rw [e] at this; cases this
    | cons z r => exact ⟨.str z, r.map PyData.str, by show PyData.tuple (q.2.map PyData.str) = _; rw [e]; rfl⟩
  refine wpAny_bind (wpAny_holding (PySem.W.list_sort_data (s := { s1 with heap := s1.heap.push (seqObj "list" (L1.map fun q => Value.ref q.1).toArray 0) }) (enc := encS) hoL (each_self L1)
    ((each_refs tup1).mono fun v p ⟨as, h1, h2⟩ => ⟨as, h1, h2 _⟩) hal hso (by have h5 := many; rw [List.length_map] at h5; rw [sizeLine_eq]; omega) (fun b _ => by rw [depth_encS]; show A.units + 1 + 1 + 1 < cLine; omega) fun out ho eo => ?_))
  have eout := each_out eo
  obtain ⟨c, hc⟩ := sortedHeap_at (vs := L1.map fun q => Value.ref q.1) (out := List.toArray out) hoL
  have pmS := List.mergeSort_perm L1 (PySem.W.dataLe false encS)
  refine wpAny_pure ⟨_, rfl, hQ _ s1.heap.objs.size (List.toArray out) c _ (fun b u e => ?_) g1 os1 hz hc (by rw [← eout]) (pmS.trans p1) ?_⟩
  · have q := k1 b u e
    have lt := Heap.lt_size q
    show (sortedHeap (s1.heap.push (seqObj "list" (L1.map fun q => Value.ref q.1).toArray 0)) s1.heap.objs.size _ _).get? b = some u
    rw [sortedHeap_old (Nat.ne_of_lt lt) (by rw [size_push']; exact Nat.lt_succ_of_lt lt)]
    exact Heap.get?_push_of_some _ q
  · exact PySem.W.sort_pairwise (PySem.W.sortLe_total (PyProof.Rows.listOrd PyProof.Rows.itemOrd) false fun b : Addr × List Str => PySem.W.keyToks (encS b)) L1
end
/-- the set at a, without the tuples themselves -/
def S0 (P : Program) (w : World) (h : Heap) (a : Addr) (L : SL) : Prop := ∃ (es : Array (Int × Value)) (ep : Nat) (t : SetTable), (∃ o, h.get? a = some o ∧ o.ExactSet ∧ o.data = .set es ep t) ∧ es.toList = ents P w L ∧ Tb t (L.map fun p => hk P w p.2) ∧ (L.map (·.2)).Nodup ∧
  (w.params.followText "set-order" = true ∨ t.led = true) ∧ L.length * 5 < t.mask * 3 ∧ (t.mask = 7 ∨ t.mask = 31 ∨ t.mask = 127 ∨ t.mask = 511)
def SetO (P : Program) (w : World) (a : Addr) (L : SL) : HO := .ext fun h => S0 P w h a L
theorem SR.s0 {P : Program} {w : World} {h : Heap} {a : Addr} {L : SL} {es : Array (Int × Value)} {ep : Nat} {t : SetTable} (R : SR P w h a L es ep t) : S0 P w h a L := ⟨es, ep, t, R.ob, R.rows, R.tab, R.nd, R.led, R.room, R.four⟩
theorem S0.full {P : Program} {w : World} {h : Heap} {a : Addr} {L : SL} (R : S0 P w h a L) (ht : ∀ p ∈ L, IsS P w h p.2 p.1) : ∃ es ep t, SR P w h a L es ep t := by
  obtain ⟨es, ep, t, h1, h2, h3, h4, h5, h6, h7⟩ := R
  exact ⟨es, ep, t, h1, h2, h3, h4, ht, h5, h6, h7⟩
theorem SetO.new {P : Program} {w : World} {H : Hp} {h : Heap} {a : Addr} {L : SL} (R : S0 P w h a L) : ObjOk P w H h a (SetO P w a L) := by
  have ⟨_, _, _, ⟨o, ho, _⟩, _⟩ := R
  refine ⟨R, ⟨o, ho⟩, fun h1 h2 p kp => ?_⟩
  obtain ⟨es, ep, t, ⟨o2, ho2, r⟩, q⟩ := (show S0 P w h1 a L from p)
  exact ⟨es, ep, t, ⟨o2, kp o2 ho2, r⟩, q⟩
theorem items_vals {P : Program} {w : World} : ∀ {k : List Str} {us : List Value}, Vals (k.map V.str) us → ItemsAre (strKind P w) k us
  | [], _, .nil => .nil
  | n :: k, _, .cons r t => by
    obtain ⟨tk, rfl⟩ := r
    exact .cons (by show Value.isStrOf n (.str n tk) = true; simp [Value.isStrOf]) (items_vals t)
theorem refs_vals : ∀ {ks : SL} {us : List Value}, Vals (ks.map fun p => V.ref p.1) us → us = ks.map fun p => Value.ref p.1
  | [], _, .nil => rfl
  | p :: ks, _, .cons r t => by
    cases r
    rw [refs_vals t]
    rfl
theorem vals_refs : ∀ (ks : SL), Vals (ks.map fun p => V.ref p.1) (ks.map fun p => Value.ref p.1)
  | [] => .nil
  | p :: ks => .cons rfl (vals_refs ks)
section
variable {X : Cx}
theorem isS_of {pins : List (Addr × Obj)} {σ : L2.St} {H : Hp} {s : Shared} {b : Addr} {k : List Str} (I : Inv X pins σ H s) (h : SqT X.K H b (k.map V.str)) : IsS X.prog X.w s.heap k b := by
  obtain ⟨its, r, ⟨o, h1, h2, n, h3⟩, _⟩ := I.tuple h
  exact ⟨o, its.toArray, n, h1, h2, h3, by simpa using items_vals r⟩
/-- set(xs), xs a list of tuples of texts -/
def rSetS (K : PySem.W.Frag) (P : Program) (w : World) : List V → Hp → VK → Prop := fun us H Q => ∃ (l : Addr) (ks : SL), us = [V.ref l] ∧ SqL K H l (ks.map fun p => V.ref p.1) ∧ (∀ p ∈ ks, SqT K H p.1 (p.2.map V.str)) ∧ ks.length ≤ 306 ∧
  ∀ a L, H a = none → (∀ p ∈ L, p ∈ ks) → (∀ p ∈ ks, p.2 ∈ L.map (·.2)) → (L.map (·.2)).Nodup → L.length ≤ ks.length → Q (.ref a) (upd H a (SetO P w a L))
theorem cr_setS (hc : X.calm = true) (hu : X.A.units + 64 < cLine) : CallR X (.type "set") (rSetS X.K X.prog X.w) := by
  intro pins st σ H us ws Q I rel hyp
  obtain ⟨l, ks, rfl, hl, ht, few, q⟩ := hyp
  rw [Vals.ref1 rel]
  obtain ⟨its, rv, pl, hz⟩ := I.list hl
  refine call_set_s (P := X.prog) (w := X.w) ks (I.ok.hd hc) pl.isList (by simpa using refs_vals rv) (fun p hp => isS_of I (ht p hp)) few (by omega) fun h1 tk L es ep t R g kp => ?_
  exact ⟨.ref st.heap.objs.size, _, I.laid (t' := tk) kp (Nat.le_refl _) (SetO.new R.s0), rfl, q _ L (I.hok.fresh (Nat.le_refl _)) (fun p hp => List.mem_of_mem_take (g.sub p hp)) (fun p hp => g.all p (by rw [List.take_length]; exact hp)) R.nd g.few⟩
/-- sorted(set) -/
def rSortS (K : PySem.W.Frag) (P : Program) (w : World) : List V → Hp → VK → Prop := fun us H Q => ∃ (a : Addr) (L : SL) (d : Nat), us = [V.ref a] ∧ H a = some (SetO P w a L) ∧ (∀ p ∈ L, SqT K H p.1 (p.2.map V.str)) ∧ (∀ p ∈ L, p.2.length = d + 1) ∧ L.length ≤ 306 ∧
  ∀ (L' : SL) (p : Addr), L'.Perm L → (L'.map (·.2)).Nodup → L'.Pairwise (fun p q => PySem.W.dataLe false encS p q = true) → H p = none → Q (.ref p) (upd H p (.lst (L'.map fun q => V.ref q.1)))
theorem cr_sortS (hc : X.calm = true) (hu : X.A.units + 64 < cLine) : CallR X (.builtin "sorted") (rSortS X.K X.prog X.w) := by
  intro pins st σ H us ws Q I rel hyp
  obtain ⟨a, L, d, rfl, ha, ht, hlen, few, q⟩ := hyp
  obtain ⟨es, ep, t, R⟩ := S0.full (show S0 X.prog X.w st.heap a L from (I.hok a _ ha).1) fun p hp => isS_of I (ht p hp)
  rw [Vals.ref1 rel]
  refine sorted_s R (I.ok.hd hc) hu hlen few fun s2 p out c L2 kp g2 o2 hp hg hout pm pw => ?_
  have fresh : H p = none := I.hok.fresh hp
  have hv : Vals (L2.map fun q => V.ref q.1) out.toList := hout ▸ vals_refs L2
  have hz : (L2.map fun q => V.ref q.1).length ≤ sizeLine := by
    rw [List.length_map, pm.length_eq, sizeLine_eq]
    omega
  have J : Inv X pins σ (upd H p (.lst (L2.map fun q => V.ref q.1))) { st with heap := s2.heap, gens := s2.gens, drawn := s2.drawn, toks := s2.toks } :=
    I.call (ch := []) (Un.laid kp hp fresh) (I.hok.laid kp hp ⟨hz, out.toList, c, hv, hg⟩) (by rw [g2]; exact I.bare) (fun _ z => nomatch z)
  have e : s2 = { st with heap := s2.heap, gens := s2.gens, drawn := s2.drawn, toks := s2.toks } := by
    cases s2
    cases st
    cases o2
    rfl
  rw [e]
  exact ⟨.ref p, _, J, rfl, q L2 p pm ((pm.map (·.2)).nodup_iff.mpr R.nd) pw fresh⟩
end
end HF
namespace HF
open PySem PySem.Spec PyProof.Rows L2
theorem show_strs : ∀ zs : List Str, PyData.showableAll (zs.map PyData.str) = true
  | [] => rfl
  | z :: r => show_strs r
theorem nodict_strs : ∀ zs : List Str, PyData.hasDictAll (zs.map PyData.str) = false
  | [] => rfl
  | z :: r => nodict_strs r
theorem ints_strs (B : Nat) : ∀ zs : List Str, PyData.intsShortAll B (zs.map PyData.str) = true
  | [] => rfl
  | z :: r => ints_strs B r
theorem weight_strs : ∀ {zs : List Str}, (∀ z ∈ zs, Nm z) → PyData.weightAll (zs.map PyData.str) ≤ 7 * zs.length
  | [], _ => Nat.le_refl _
  | z :: r, h => by
    have ih := weight_strs fun y hy => h y (List.mem_cons_of_mem _ hy)
    have hz := (h z List.mem_cons_self).2.1
    rw [Array.length_toList] at hz
    show z.cps.size + 1 + PyData.weightAll (r.map PyData.str) ≤ 7 * (r.length + 1)
    omega
abbrev dTwo (xs ys : List Str) : PyData := .list [.tuple (xs.map PyData.str), .list (ys.map PyData.str)]
theorem two_show (xs ys : List Str) : (dTwo xs ys).showable = true := by
  show (PyData.showableAll (xs.map PyData.str) && (PyData.showableAll (ys.map PyData.str) && true)) = true
  rw [show_strs, show_strs]
  rfl
theorem two_nodict (xs ys : List Str) : (dTwo xs ys).hasDict = false := by
  show (PyData.hasDictAll (xs.map PyData.str) || (PyData.hasDictAll (ys.map PyData.str) || false)) = false
  rw [nodict_strs, nodict_strs]
  rfl
theorem two_depth (xs ys : List Str) : (dTwo xs ys).depth < 60 := by
  show max (PyData.depthAll (xs.map PyData.str) + 1) (max (PyData.depthAll (ys.map PyData.str) + 1) 0) + 1 < 60
  rw [depth_strs, depth_strs]
  decide
theorem two_fits {xs ys : List Str} (hx : ∀ z ∈ xs, Nm z) (hy : ∀ z ∈ ys, Nm z) (lx : xs.length ≤ 1000) (ly : ys.length ≤ 1000) : (dTwo xs ys).shown.length ≤ sizeLine := by
  refine PyData.shown_fits (B := 13) (by decide) (by decide) (PyData.leavesShort_of_canLay0 13 _ ?_ ?_) ?_
  · show (PyData.canLayAll0 (xs.map PyData.str) && (PyData.canLayAll0 (ys.map PyData.str) && true)) = true
    rw [canLay_strs hx, canLay_strs hy]
    rfl
  · show (PyData.intsShortAll 13 (xs.map PyData.str) && (PyData.intsShortAll 13 (ys.map PyData.str) && true)) = true
    rw [ints_strs, ints_strs]
    rfl
  · show PyData.weightAll (xs.map PyData.str) + 1 + (PyData.weightAll (ys.map PyData.str) + 1 + 0) ≤ 2 ^ 20
    have h1 := weight_strs hx
    have h2 := weight_strs hy
    omega
theorem cutTo (xs : List V) (k : Nat) : cutV xs none (some (k : Int)) = xs.take k := by
  unfold cutV
  rw [HT.sIx_none, HT.sIx_nat, List.drop_zero, Nat.sub_zero]
  rcases Nat.le_total k xs.length with h | h
  · rw [Nat.min_eq_left h]
  · rw [Nat.min_eq_right h, List.take_of_length_le (Nat.le_refl _), List.take_of_length_le h]
theorem cutFrom (xs : List V) (k : Nat) : cutV xs (some (k : Int)) none = xs.drop k := by
  unfold cutV
  rw [HT.sIx_none, HT.sIx_nat]
  rcases Nat.le_total k xs.length with h | h
  · rw [Nat.min_eq_left h]
    exact List.take_of_length_le (by rw [List.length_drop]; omega)
  · rw [Nat.min_eq_right h, Nat.sub_self, List.take_zero, List.drop_of_length_le h]
theorem Hq.of_tp {K : PySem.W.Frag} {H : Hp} {a : Addr} {zs : List Str} (h : Tp H a (zs.map V.str)) : Hq K H a zs := .inr h
theorem Tp.ne {H : Hp} {a p : Addr} {xs : List V} {c : Int} (h : Tp H a xs) (hb : Bx H p c) : a ≠ p := by
  obtain ⟨ob, e, _⟩ := h
  obtain ⟨x, y, e2, _⟩ := hb
  exact ne_of e e2 (by intro z; cases z)
theorem Bx.same {H H' : Hp} {p : Addr} {c : Int} (h : Bx H p c) (sm : Same H H') : Bx H' p c := by
  obtain ⟨a, b, e, r⟩ := h
  exact ⟨a, b, sm _ _ e, r⟩
end HF
namespace HF
open PySem PySem.Spec PyProof.Rows L2
theorem rep_mem {bs : List Addr} {k i : Nat} {x : V} (h : (List.replicate k (bs.map V.ref)).flatten[i]? = some x) : ∃ b ∈ bs, x = .ref b := by
  have hm := List.mem_of_getElem? h
  obtain ⟨l, hl, hx⟩ := List.mem_flatten.mp hm
  rw [(List.mem_replicate.mp hl).2] at hx
  obtain ⟨b, hb, rfl⟩ := List.mem_map.mp hx
  exact ⟨b, hb, rfl⟩
theorem Bx.oth {H H' : Hp} {p b : Addr} {c : Int} (h : Bx H b c) (o : Oth p H H') (n : b ≠ p) : Bx H' b c := by
  obtain ⟨x, y, e, r⟩ := h
  exact ⟨x, y, o _ _ e n, r⟩
def spLaw (K : PySem.W.Frag) : Sp := fun vs H Q _ => ∃ (a : Addr) (ns : List Int), vs = [.ref a] ∧ SqL K H a (ns.map V.int) ∧ ns.length ≤ 63 ∧ ∀ H', Q (.bl true) H'
end HF
namespace HF
open PySem PySem.Spec PyProof.Rows L2
/-- what the top has written, told once -/
structure At (K : PySem.W.Frag) (x : Str) (st : Stmt) (f : Addr) : Prop where
  ns : PySem.W.nsIn K mainGlobals x = some (some (.ref f))
  fn : ∃ (oc : Value) (od an : Option Addr) (osl : Array (Option Value)) (kV doc pm cdv ct : Value), K.lookup f = some ⟨oc, od, .func (PySem.W.fnOf x x (defArgs st) (defBody st) (defScope st) .none kV doc pm an cdv ct), osl⟩ ∧ PySem.W.codeIn K cdv x = true
  kp : PySem.W.keepIn K (.ref f) = true
theorem at_mk {K : PySem.W.Frag} {x : Str} {st : Stmt} {f : Addr} {oc : Value} {od an : Option Addr} {osl : Array (Option Value)} {kV doc pm cdv ct : Value} (n : PySem.W.nsIn K mainGlobals x = some (some (.ref f)))
    (l : K.lookup f = some ⟨oc, od, .func (PySem.W.fnOf x x (defArgs st) (defBody st) (defScope st) .none kV doc pm an cdv ct), osl⟩) (c : PySem.W.codeIn K cdv x = true) (k : PySem.W.keepIn K (.ref f) = true) : At K x st f := ⟨n, ⟨oc, od, an, osl, kV, doc, pm, cdv, ct, l, c⟩, k⟩
theorem At.fun {K : PySem.W.Frag} {x : Str} {st : Stmt} {f : Addr} (a : At K x st f) : ∃ fd, Fun K x x st f fd ∧ ∃ (kV doc pm : Value) (an : Option Addr) (cdv ct : Value), fd = PySem.W.fnOf x x (defArgs st) (defBody st) (defScope st) .none kV doc pm an cdv ct := by
  obtain ⟨oc, od, an, osl, kV, doc, pm, cdv, ct, l, c⟩ := a.fn
  exact ⟨_, fun_mk l c a.kp, kV, doc, pm, an, cdv, ct, rfl⟩
end HF
namespace HF
open PySem PySem.Spec PyProof.Rows L2
/-! ### sorted texts, as a function of the texts -/
def srt (xs : List Str) : List Str := xs.mergeSort (PySem.W.dataLe false PyData.str)
theorem srt_perm (xs : List Str) : (srt xs).Perm xs := List.mergeSort_perm xs _
theorem srt_len (xs : List Str) : (srt xs).length = xs.length := (srt_perm xs).length_eq
theorem each_texts : ∀ {xs : List Str} {us : List Value}, Vals (xs.map V.str) us → PySem.W.EachIs (fun v (x : Str) => ∃ t, v = Value.str x t) us xs
  | [], _, .nil => .nil
  | x :: r, _, .cons h t => .cons h (each_texts t)
theorem texts_each : ∀ {xs : List Str} {us : List Value}, PySem.W.EachIs (fun v (x : Str) => ∃ t, v = Value.str x t) us xs → Vals (xs.map V.str) us
  | _, _, .nil => .nil
  | _, _, .cons h t => .cons h (texts_each t)
theorem each_reads {h : Heap} : ∀ {xs : List Str} {us : List Value}, PySem.W.EachIs (fun v (x : Str) => ∃ t, v = Value.str x t) us xs → PySem.W.EachIs (fun v (x : Str) => ∃ as, Reads h v (PyData.str x) as ∧ ∀ a : Addr, a ∉ as) us xs
  | _, _, .nil => .nil
  | _, _, .cons ⟨t, e⟩ r => .cons ⟨[], e ▸ .str _ t, fun _ z => nomatch z⟩ (each_reads r)
theorem alike_texts (xs : List Str) : PySem.W.AllAlike (xs.map PyData.str) := fun x hx y hy => by
  obtain ⟨a, _, rfl⟩ := List.mem_map.mp hx
  obtain ⟨b, _, rfl⟩ := List.mem_map.mp hy
  rfl
theorem sortable_texts (xs : List Str) : PySem.W.Sortable (xs.map PyData.str) := .inr fun x hx => by
  obtain ⟨a, _, rfl⟩ := List.mem_map.mp hx
  exact ⟨by simp, by simp⟩
section
variable {X : Cx}
def rSrt (K : PySem.W.Frag) : List V → Hp → VK → Prop := fun us H Q => ∃ (a : Addr) (xs : List Str), us = [V.ref a] ∧ Sq K H a (xs.map V.str) ∧ xs.length ≤ 1000 ∧ ∀ p, H p = none → Q (.ref p) (upd H p (.lst ((srt xs).map V.str)))
theorem cr_srt (hu : X.A.units + 64 < cLine) : CallR X (.builtin "sorted") (rSrt X.K) := by
  intro pins st σ H us ws Q I rel hyp
  obtain ⟨a, xs, rfl, hq, few, q⟩ := hyp
  rw [Vals.ref1 rel]
  have hz : ((srt xs).map V.str).length ≤ sizeLine := by
    rw [List.length_map, srt_len, sizeLine_eq]
    omega
  rcases hq with hq | hq
  · obtain ⟨its, rv, hl, _⟩ := I.list hq
    have ev := each_texts rv
    refine PySem.W.sorted_data (enc := PyData.str) hl.isList ev ((each_reads ev).mono fun v x ⟨as, h1, _⟩ => ⟨as, h1⟩) (alike_texts xs) (sortable_texts xs) (by rw [sizeLine_eq]; omega) (fun b _ => by show X.A.units + 2 + 0 < cLine; omega) fun out hout eo => ?_
    obtain ⟨ep, he⟩ := PyProof.Rows.sortedAll_at st.heap its (List.toArray out)
    exact ⟨.ref _, _, I.laid (t' := st.toks) (o := .lst ((srt xs).map V.str)) (fun _ _ => PyProof.Rows.sortedAll_old) (Nat.le_succ _) ⟨hz, out, ep, texts_each eo, he⟩, rfl, q _ (I.hok.fresh (Nat.le_succ _))⟩
  · obtain ⟨its, rv, ⟨ob, h1, h2, n, h3⟩, _⟩ := I.tuple hq
    have hlen := rv.length
    rw [List.length_map] at hlen
    have ev := each_texts rv
    refine Calls.call_function_entry kind_sorted plain_sorted entry_sorted (args_sorted1 _) ?_
    unfold Builtin.«sorted»
    refine wpAny_bind (m := checkCount "sorted" 1 1 _) (wpAny_pure ?_)
    refine wpAny_bind (wpAny_collect_seq a (.inr rfl) h1 h2 h3 (fun h4 kp => ?_) (by rw [List.size_toArray, sizeLine_eq]; omega))
    show wpAny _ _ (newList its >>= _) _ _ _
    refine wpAny_bind (wpAny_newList ?_ (by rw [sizeLine_eq]; omega))
    have hoL : (h4.push (seqObj "list" its.toArray 0)).get? h4.objs.size = some (seqObj "list" its.toArray 0) := Heap.get?_push_size _ rfl
    refine wpAny_bind (wpAny_holding (PySem.W.list_sort_data (s := { st with heap := h4.push (seqObj "list" its.toArray 0) }) (enc := PyData.str) hoL ev ((each_reads ev).mono fun v x ⟨as, g1, g2⟩ => ⟨as, g1, g2 _⟩) (alike_texts xs) (sortable_texts xs) (by rw [sizeLine_eq]; omega)
      (fun b _ => by show X.A.units + 1 + 1 + 0 < cLine; omega) fun out hout eo => ?_))
    obtain ⟨c, hc⟩ := sortedHeap_at (vs := its) (out := List.toArray out) hoL
    have I4 : Inv X pins σ H { st with heap := h4 } := I.kept (t' := st.toks) kp
    refine wpAny_pure ⟨_, rfl, .ref h4.objs.size, _, I4.laid (t' := st.toks) (o := .lst ((srt xs).map V.str)) (fun b u e => ?_) (Nat.le_refl _) ⟨hz, out, c, texts_each eo, hc⟩, rfl, q _ (I4.hok.fresh (Nat.le_refl _))⟩
    have lt := Heap.lt_size e
    show (sortedHeap (h4.push (seqObj "list" its.toArray 0)) h4.objs.size _ _).get? b = some u
    rw [sortedHeap_old (Nat.ne_of_lt lt) (by rw [size_push']; exact Nat.lt_succ_of_lt lt)]
    exact Heap.get?_push_of_some _ e
end
end HF
namespace HF
open PySem PySem.Spec PyProof.Rows L2
def topS (i : Nat) : Stmt := PySem.Challenge.pw_heapfriends_k06_errors_and_limits.main.body.getD i (.Pass ⟨0, 0, 0, 0⟩)
abbrev sBox : Stmt := topS 27
abbrev sTake : Stmt := topS 28
abbrev sSame : Stmt := topS 30
section
variable {P : Program} {w : World} {K : PySem.W.Frag} {mg : Str → Option Value} {base : Heap}
theorem scBox : FnScope ["_law_script", "_law_k", "_law_cell"] ["_law_script", "_law_k"] (defScope sBox) := ⟨rfl, rfl, rfl, by decide +kernel, rfl, by decide +kernel, by decide +kernel⟩
theorem scTake : FnScope ["_law_box_here", "_law_bound", "_law_found", "_law_once"] ["_law_box_here", "_law_bound"] (defScope sTake) := ⟨rfl, rfl, rfl, by decide +kernel, rfl, by decide +kernel, by decide +kernel⟩
theorem ok_take {f : Addr} {fd : FuncData} {k : Nat} (F : Fun K "_law_take" "_law_take" sTake f fd) : FnOk P w K mg base CX0 (k + 1) f fd ["_law_box_here", "_law_bound"] spTake := by
  refine F.ok scTake (fun vs H Q E h => ?_) (fun cdv A outer s H vs Q E hr h => ?_)
  · obtain ⟨p, m, c, rfl, _⟩ := h
    rfl
  · obtain ⟨p, m, c, rfl, ⟨a, b, hp, ha, hb, hb2, hc⟩, hc2, hm, hm2, q⟩ := h
    refine ⟨_, pss_cons (ps_if (pt_cmpR op_gt (pe_ix ix_list (pv 0) pe_int (fun _ _ => rfl)) pe_int (nomark _))
        (pss_cons (ps_set (i := 2) scTake.nd rfl (.inl rfl) (pe_op op_modN (pe_ix ix_list (pv 0) pe_int (fun _ _ => rfl)) (pv 1)))
        (pss_cons (ps_asg (pe_op op_fdivN (pe_ix ix_list (pv 0) pe_int (fun _ _ => rfl)) (pv 1)) (pg_sub (pv 0) pe_int set_list))
        (pss_one (ps_ret (pv 2))))) pss_nil)
      (pss_cons (ps_asg (pe_op op_add (pe_ix ix_list (pv 0) pe_int (fun _ _ => rfl)) pe_int) (pg_sub (pv 0) pe_int set_list))
      (pss_cons (ps_set (i := 3) scTake.nd rfl (.inl rfl) (pe_op op_modN (pe_op op_pow (pe_op op_add (pe_ix ix_list (pv 0) pe_int (fun _ _ => rfl)) (pe_op op_mul pe_int (pe_ix ix_list (pv 0) pe_int (fun _ _ => rfl)))) pe_int) pe_int))
      (pss_one (ps_ret (pe_op op_modN (pe_op op_fdivN (pe_op op_modN (pe_op op_add (pe_op op_mul (pv 3) (pe_op op_add (pe_op op_modN (pv 3) pe_int) pe_int)) (pe_op op_mul (pe_ix ix_list (pv 0) pe_int (fun _ _ => rfl)) pe_int)) pe_int) pe_int) (pv 1)))))), ?_⟩
    refine ⟨.ref p, rfl, p, _, 0, .int a, rfl, rfl, .inl (.inl hp), atI_nat (j := 0) rfl, a, 0, rfl, rfl, _, rfl, ite2 (fun e => ?_) (fun e => ?_)⟩
    · refine ⟨.ref p, rfl, p, _, 0, .int a, rfl, rfl, .inl (.inl hp), atI_nat (j := 0) rfl, .int m, rfl, a, m, rfl, rfl, by omega, ?_⟩
      refine ⟨.ref p, rfl, p, _, 0, .int a, rfl, rfl, .inl (.inl hp), atI_nat (j := 0) rfl, .int m, rfl, a, m, rfl, rfl, ⟨by omega, by omega⟩, .ref p, rfl, p, _, 0, 0, rfl, rfl, hp, rfl, ?_⟩
      exact ⟨_, rfl, q _ c _ (fmod_in a hm).1 (fmod_in a hm).2 (by omega) (by omega) ⟨_, _, upd_same, fdiv_nn ha hm, hb, hb2, hc⟩⟩
    · have hp2 : (upd H p (.lst [.int a, .int b, .int (c + 1)])) p = some (.lst [.int a, .int b, .int (c + 1)]) := upd_same
      have ho := fmod_in ((b + 39373 * (c + 1)) ^ 5) (m := 2147483647) (by decide)
      refine ⟨.ref p, rfl, p, _, 2, .int c, rfl, rfl, .inl (.inl hp), atI_nat (j := 2) rfl, c, 1, rfl, rfl, .ref p, rfl, p, _, 2, 2, rfl, rfl, hp, rfl, ?_⟩
      refine ⟨.ref p, rfl, p, _, 1, .int b, rfl, rfl, .inl (.inl hp2), atI_nat (j := 1) rfl, .ref p, rfl, p, _, 2, .int (c + 1), rfl, rfl, .inl (.inl hp2), atI_nat (j := 2) rfl,
        39373, c + 1, rfl, rfl, .inl ⟨by decide, by decide⟩, b, 39373 * (c + 1), rfl, rfl, b + 39373 * (c + 1), 5, rfl, rfl, ⟨by decide, by decide, by omega⟩, _, 2147483647, rfl, rfl, nz (by decide), ?_⟩
      refine ⟨_, rfl, _, rfl, _, 40009, rfl, rfl, nz (by decide), _, 7, rfl, rfl, _, _, rfl, rfl, .inl ⟨?_, ?_⟩, .ref p, rfl, p, _, 2, .int (c + 1), rfl, rfl, .inl (.inl hp2), atI_nat (j := 2) rfl, c + 1, 7919, rfl, rfl, .inr ⟨by decide, by decide⟩,
        _, _, rfl, rfl, _, 2147483629, rfl, rfl, nz (by decide), _, 64, rfl, rfl, ⟨by decide, by decide⟩, .int m, rfl, _, m, rfl, rfl, by omega, ?_⟩
      · exact Int.lt_of_lt_of_le (by decide) ho.1
      · exact Int.lt_trans ho.2 (by decide)
      · exact q _ (c + 1) _ (fmod_in _ hm).1 (fmod_in _ hm).2 (by omega) (by omega) ⟨_, _, upd_same, ha, hb, hb2, by omega⟩
theorem ok_box {f : Addr} {fd : FuncData} {k : Nat} (F : Fun K "_law_box" "_law_box" sBox f fd) (ml : mg "len" = none) (mA : mg "abs" = none) (mi : mg "int" = none) : FnOk P w K mg base CX0 (k + 1) f fd ["_law_script", "_law_k"] (spBox K) := by
  refine F.ok scBox (fun vs H Q E h => ?_) (fun cdv A outer s H vs Q E hr h => ?_)
  · obtain ⟨a, ns, k, rfl, _⟩ := h
    rfl
  · obtain ⟨a, ns, k, rfl, hS, hk, q⟩ := h
    refine ⟨_, pss_cons (ps_set (i := 2) scBox.nd rfl (.inl rfl) pe_int)
      (pss_cons (ps_if (pt_cmpR op_lt (pv 1) (pe_callB call_len_seq (by rfl) ml PySem.boot_len (pa_cons (pv 0) pa_nil)) (nomark _))
        (pss_one (ps_set (i := 2) scBox.nd rfl (.inl rfl) (pe_ix ix_list (pv 0) (pv 1) (fun _ _ => rfl)))) pss_nil)
      (pss_one (ps_ret (pe_lst (pa_cons (pe_op op_mul (pe_callB call_abs (by rfl) mA (by decide +kernel) (pa_cons (pv 2) pa_nil))
          (pe_callTy call_int1 (by rfl) mi (by decide +kernel) (pa_cons (pe_cmpR op_ge (pe_callB call_abs (by rfl) mA (by decide +kernel) (pa_cons (pv 2) pa_nil)) (pe_op op_pow pe_int pe_int) (nomark _)) pa_nil)))
        (pa_cons (pe_op op_add (pe_op op_add (pe_op op_modN (pv 2) pe_int) (pe_op op_mul pe_int (pv 1))) pe_int) (pa_cons pe_int pa_nil))))))), ?_⟩
    refine ⟨_, rfl, .ref a, rfl, a, _, rfl, .inl hS, _, _, rfl, rfl, _, rfl, ?_⟩
    have hz : (3 : Nat) ≤ sizeLine := by decide
    refine ite2 (fun e => ?_) (fun e => ?_)
    · have e1 : (k : Int) < ((ns.map V.int).length : Nat) := of_decide_eq_true e
      have hk2 : k < ns.length := by
        rw [List.length_map] at e1
        omega
      refine ⟨.ref a, rfl, .int k, rfl, a, _, k, .int ns[k], rfl, rfl, hS, atI_nat (j := k) (by rw [List.getElem?_map, List.getElem?_eq_getElem hk2]; rfl), ?_⟩
      have hm := fmod_in ns[k] (m := 2147483629) (by decide)
      refine ⟨_, rfl, ns[k], rfl, _, rfl, ns[k], rfl, 10, 18, rfl, rfl, ⟨by decide, by decide, by decide⟩, _, _, rfl, rfl, .inr ⟨_, rfl, _, _, rfl, rfl, .inr ⟨?_, ?_⟩, _, rfl, ns[k], 2147483629, rfl, rfl, nz (by decide), .int k, rfl, 6151, k, rfl, rfl, .inl ⟨by decide, by decide⟩, _, _, rfl, rfl, _, 29, rfl, rfl, hz, fun p hp => ?_⟩⟩
      · exact (b01 _).1
      · exact (b01 _).2
      · refine q p _ hp ⟨_, _, upd_same, ?_, ?_, ?_, by decide⟩
        · split <;> split <;> omega
        · omega
        · omega
    · have hm := fmod_in 0 (m := 2147483629) (by decide)
      refine ⟨_, rfl, 0, rfl, _, rfl, 0, rfl, 10, 18, rfl, rfl, ⟨by decide, by decide, by decide⟩, _, _, rfl, rfl, .inr ⟨_, rfl, _, _, rfl, rfl, .inr ⟨?_, ?_⟩, _, rfl, 0, 2147483629, rfl, rfl, nz (by decide), .int k, rfl, 6151, k, rfl, rfl, .inl ⟨by decide, by decide⟩, _, _, rfl, rfl, _, 29, rfl, rfl, hz, fun p hp => ?_⟩⟩
      · exact (b01 _).1
      · exact (b01 _).2
      · refine q p _ hp ⟨_, _, upd_same, ?_, ?_, ?_, by decide⟩
        · split <;> split <;> omega
        · omega
        · omega
abbrev nSame : List Str := ["_law_found", "_law_due", "_law_mine", "_law_its"]
theorem scSame : FnScope nSame ["_law_found", "_law_due"] (defScope sSame) := ⟨rfl, rfl, rfl, by decide +kernel, rfl, by decide +kernel, by decide +kernel⟩
theorem same_scal {f : Addr} {fd : FuncData} {k : Nat} (F : Fun K "_law_same" "_law_same" sSame f fd) (mI : mg "isinstance" = none) (mL : mg "list" = none) (mT : mg "tuple" = none) (mB : mg "bool" = none) (mS : mg "str" = none) (mN : mg "int" = none)
    {cdv : Value} {A : Around} {outer : List Env} {s : Shared} {H : Hp} {Q : VK} {E : XK} (hr : Room k (A.deeper (envOfC "_law_same" (defScope sSame) s.heap.objs.size f cdv))) {x y : V} {d : PyData} (hx : Dp K H x d) (hy : Dp K H y d) (hc : d.canLay0 = true) (h0 : d.depth = 0) (q : ∀ H' : Hp, Same H H' → Q (.bl true) H') :
    ∃ t, PSs (cxOf CX0 P w K mg base nSame "_law_same" (defScope sSame) f cdv A outer s H E).nox (defBody sSame) t ∧ t { nx := fun _ H' => Q .non H', rt := Q } (start nSame [x, y]) H := by
  have hsh : SeqAt.shaped d = true := by
    show (d.canLay0 && decide (d.depth ≤ 64)) = true
    rw [hc, h0]
    rfl
  have hx2 := hx
  have hy2 := hy
  cases hx with
  | non =>
    cases hy
    refine ⟨_, pss_cons (ps_if (pt_val (pe_callB call_isiT (by rfl) mI (by decide +kernel) (pa_cons (pv 1) (pa_cons (pe_tup (pa_cons (pe_bltn (v := .ty "list") (by rfl) mL (by decide +kernel) rfl) (pa_cons (pe_bltn (v := .ty "tuple") (by rfl) mT (by decide +kernel) rfl) pa_nil))) pa_nil)))) pss_never pss_nil)
        (pss_cons (ps_if (PW.pt (pw_or (pt_cmpR op_isN (pv 1) pe_non (nomark _)) (pw_or1 (pt_val (pe_callB call_isiT (by rfl) mI (by decide +kernel) (pa_cons (pv 1) (pa_cons (pe_tup (pa_cons (pe_bltn (v := .ty "bool") (by rfl) mB (by decide +kernel) rfl) (pa_cons (pe_bltn (v := .ty "str") (by rfl) mS (by decide +kernel) rfl) pa_nil))) pa_nil)))))))
          (pss_one (ps_ret (pe_and (pe_cmpR (op_eqD hr.units) (pv 0) (pv 1) (nomark _)) (pe_and (pe_cmpR op_eq (pe_callB call_isi (by rfl) mI (by decide +kernel) (pa_cons (pv 0) (pa_cons (pe_bltn (v := .ty "bool") (by rfl) mB (by decide +kernel) rfl) pa_nil))) (pe_callB call_isi (by rfl) mI (by decide +kernel) (pa_cons (pv 1) (pa_cons (pe_bltn (v := .ty "bool") (by rfl) mB (by decide +kernel) rfl) pa_nil))) (nomark _)) (pe_one (pe_cmpR op_eq (pe_cmp (pc_isN (pv 0)) rfl) (pe_cmp (pc_isN (pv 1)) rfl) (nomark _))))))) pss_nil)
        (pss_one (ps_ret (pe_and (pe_callB call_isi (by rfl) mI (by decide +kernel) (pa_cons (pv 0) (pa_cons (pe_bltn (v := .ty "int") (by rfl) mN (by decide +kernel) rfl) pa_nil))) (pe_and (pe_not (pe_callB call_isi (by rfl) mI (by decide +kernel) (pa_cons (pv 0) (pa_cons (pe_bltn (v := .ty "bool") (by rfl) mB (by decide +kernel) rfl) pa_nil)))) (pe_one (pe_cmpR (op_eqD hr.units) (pv 0) (pv 1) (nomark _)))))))), ?_⟩
    refine ⟨_, rfl, (by decide : (2 : Nat) ≤ sizeLine), fun T nT => ⟨_, T, _, _, _, _, rfl, upd_same, two_cls, (.base .non), any2 (r1 := false) (r2 := false) (by decide +kernel) (by decide +kernel), _, rfl, iteF ?_⟩⟩
    have s1 : Same H (upd H T (.tup [V.ty "list", V.ty "tuple"])) := same_upd nT
    generalize (upd H T (.tup [V.ty "list", V.ty "tuple"])) = H1 at *
    refine ⟨_, rfl, rfl, _, rfl, iteT (iteT ?_)⟩
    have s2 := s1
    exact ⟨_, rfl, _, rfl, _, _, Dp.up s2 hx2, Dp.up s2 hy2, hsh, hsh, _, rfl, (by rw [SeqAt.eqv_refl _ hc]; refine iteT ?_; exact ⟨_, rfl, _, _, _, _, false, rfl, .ty _, (.base .non), kit_ty (by decide +kernel), _, rfl, _, _, _, _, false, rfl, .ty _, (.base .non), kit_ty (by decide +kernel), rfl, _, rfl, iteT ⟨_, rfl, _, rfl, rfl, q _ s2⟩⟩)⟩
  | bl b =>
    cases hy
    refine ⟨_, pss_cons (ps_if (pt_val (pe_callB call_isiT (by rfl) mI (by decide +kernel) (pa_cons (pv 1) (pa_cons (pe_tup (pa_cons (pe_bltn (v := .ty "list") (by rfl) mL (by decide +kernel) rfl) (pa_cons (pe_bltn (v := .ty "tuple") (by rfl) mT (by decide +kernel) rfl) pa_nil))) pa_nil)))) pss_never pss_nil)
        (pss_cons (ps_if (PW.pt (pw_or (pt_cmpR op_isN (pv 1) pe_non (nomark _)) (pw_or1 (pt_val (pe_callB call_isiT (by rfl) mI (by decide +kernel) (pa_cons (pv 1) (pa_cons (pe_tup (pa_cons (pe_bltn (v := .ty "bool") (by rfl) mB (by decide +kernel) rfl) (pa_cons (pe_bltn (v := .ty "str") (by rfl) mS (by decide +kernel) rfl) pa_nil))) pa_nil)))))))
          (pss_one (ps_ret (pe_and (pe_cmpR (op_eqD hr.units) (pv 0) (pv 1) (nomark _)) (pe_and (pe_cmpR op_eq (pe_callB call_isi (by rfl) mI (by decide +kernel) (pa_cons (pv 0) (pa_cons (pe_bltn (v := .ty "bool") (by rfl) mB (by decide +kernel) rfl) pa_nil))) (pe_callB call_isi (by rfl) mI (by decide +kernel) (pa_cons (pv 1) (pa_cons (pe_bltn (v := .ty "bool") (by rfl) mB (by decide +kernel) rfl) pa_nil))) (nomark _)) (pe_one (pe_cmpR op_eq (pe_cmp (pc_isN (pv 0)) rfl) (pe_cmp (pc_isN (pv 1)) rfl) (nomark _))))))) pss_nil)
        (pss_one (ps_ret (pe_and (pe_callB call_isi (by rfl) mI (by decide +kernel) (pa_cons (pv 0) (pa_cons (pe_bltn (v := .ty "int") (by rfl) mN (by decide +kernel) rfl) pa_nil))) (pe_and (pe_not (pe_callB call_isi (by rfl) mI (by decide +kernel) (pa_cons (pv 0) (pa_cons (pe_bltn (v := .ty "bool") (by rfl) mB (by decide +kernel) rfl) pa_nil)))) (pe_one (pe_cmpR (op_eqD hr.units) (pv 0) (pv 1) (nomark _)))))))), ?_⟩
    refine ⟨_, rfl, (by decide : (2 : Nat) ≤ sizeLine), fun T nT => ⟨_, T, _, _, _, _, rfl, upd_same, two_cls, (.base (.bl _)), any2 (r1 := false) (r2 := false) (by decide +kernel) (by decide +kernel), _, rfl, iteF ?_⟩⟩
    have s1 : Same H (upd H T (.tup [V.ty "list", V.ty "tuple"])) := same_upd nT
    generalize (upd H T (.tup [V.ty "list", V.ty "tuple"])) = H1 at *
    refine ⟨_, rfl, rfl, _, rfl, iteF ⟨_, rfl, (by decide : (2 : Nat) ≤ sizeLine), fun T2 nT2 => ⟨_, T2, _, _, _, _, rfl, upd_same, two_cls, (.base (.bl _)), any2 (r1 := true) (r2 := false) (by decide +kernel) (by decide +kernel), _, rfl, iteT ?_⟩⟩⟩
    have s2 : Same H (upd H1 T2 (.tup [V.ty "bool", V.ty "str"])) := s1.trans (same_upd nT2)
    generalize (upd H1 T2 (.tup [V.ty "bool", V.ty "str"])) = H2 at *
    exact ⟨_, rfl, _, rfl, _, _, Dp.up s2 hx2, Dp.up s2 hy2, hsh, hsh, _, rfl, (by rw [SeqAt.eqv_refl _ hc]; refine iteT ?_; exact ⟨_, rfl, _, _, _, _, true, rfl, .ty _, (.base (.bl _)), kit_ty (by decide +kernel), _, rfl, _, _, _, _, true, rfl, .ty _, (.base (.bl _)), kit_ty (by decide +kernel), rfl, _, rfl, iteT ⟨_, rfl, _, rfl, rfl, q _ s2⟩⟩)⟩
  | int i =>
    cases hy
    refine ⟨_, pss_cons (ps_if (pt_val (pe_callB call_isiT (by rfl) mI (by decide +kernel) (pa_cons (pv 1) (pa_cons (pe_tup (pa_cons (pe_bltn (v := .ty "list") (by rfl) mL (by decide +kernel) rfl) (pa_cons (pe_bltn (v := .ty "tuple") (by rfl) mT (by decide +kernel) rfl) pa_nil))) pa_nil)))) pss_never pss_nil)
        (pss_cons (ps_if (PW.pt (pw_or (pt_cmpR op_isN (pv 1) pe_non (nomark _)) (pw_or1 (pt_val (pe_callB call_isiT (by rfl) mI (by decide +kernel) (pa_cons (pv 1) (pa_cons (pe_tup (pa_cons (pe_bltn (v := .ty "bool") (by rfl) mB (by decide +kernel) rfl) (pa_cons (pe_bltn (v := .ty "str") (by rfl) mS (by decide +kernel) rfl) pa_nil))) pa_nil)))))))
          (pss_one (ps_ret (pe_and (pe_cmpR (op_eqD hr.units) (pv 0) (pv 1) (nomark _)) (pe_and (pe_cmpR op_eq (pe_callB call_isi (by rfl) mI (by decide +kernel) (pa_cons (pv 0) (pa_cons (pe_bltn (v := .ty "bool") (by rfl) mB (by decide +kernel) rfl) pa_nil))) (pe_callB call_isi (by rfl) mI (by decide +kernel) (pa_cons (pv 1) (pa_cons (pe_bltn (v := .ty "bool") (by rfl) mB (by decide +kernel) rfl) pa_nil))) (nomark _)) (pe_one (pe_cmpR op_eq (pe_cmp (pc_isN (pv 0)) rfl) (pe_cmp (pc_isN (pv 1)) rfl) (nomark _))))))) pss_nil)
        (pss_one (ps_ret (pe_and (pe_callB call_isi (by rfl) mI (by decide +kernel) (pa_cons (pv 0) (pa_cons (pe_bltn (v := .ty "int") (by rfl) mN (by decide +kernel) rfl) pa_nil))) (pe_and (pe_not (pe_callB call_isi (by rfl) mI (by decide +kernel) (pa_cons (pv 0) (pa_cons (pe_bltn (v := .ty "bool") (by rfl) mB (by decide +kernel) rfl) pa_nil)))) (pe_one (pe_cmpR (op_eqD hr.units) (pv 0) (pv 1) (nomark _)))))))), ?_⟩
    refine ⟨_, rfl, (by decide : (2 : Nat) ≤ sizeLine), fun T nT => ⟨_, T, _, _, _, _, rfl, upd_same, two_cls, (.base (.int _)), any2 (r1 := false) (r2 := false) (by decide +kernel) (by decide +kernel), _, rfl, iteF ?_⟩⟩
    have s1 : Same H (upd H T (.tup [V.ty "list", V.ty "tuple"])) := same_upd nT
    generalize (upd H T (.tup [V.ty "list", V.ty "tuple"])) = H1 at *
    refine ⟨_, rfl, rfl, _, rfl, iteF ⟨_, rfl, (by decide : (2 : Nat) ≤ sizeLine), fun T2 nT2 => ⟨_, T2, _, _, _, _, rfl, upd_same, two_cls, (.base (.int _)), any2 (r1 := false) (r2 := false) (by decide +kernel) (by decide +kernel), _, rfl, iteF ?_⟩⟩⟩
    have s2 : Same H (upd H1 T2 (.tup [V.ty "bool", V.ty "str"])) := s1.trans (same_upd nT2)
    generalize (upd H1 T2 (.tup [V.ty "bool", V.ty "str"])) = H2 at *
    refine ⟨_, rfl, _, _, _, _, true, rfl, .ty _, (.base (.int _)), kit_ty (by decide +kernel), _, rfl, iteT ⟨_, rfl, _, _, _, _, false, rfl, .ty _, (.base (.int _)), kit_ty (by decide +kernel), _, rfl, _, rfl, iteT ⟨_, rfl, _, rfl, _, _, Dp.up s2 hx2, Dp.up s2 hy2, hsh, hsh, ?_⟩⟩⟩
    rw [SeqAt.eqv_refl _ hc]
    exact q _ s2
  | str z =>
    cases hy
    refine ⟨_, pss_cons (ps_if (pt_val (pe_callB call_isiT (by rfl) mI (by decide +kernel) (pa_cons (pv 1) (pa_cons (pe_tup (pa_cons (pe_bltn (v := .ty "list") (by rfl) mL (by decide +kernel) rfl) (pa_cons (pe_bltn (v := .ty "tuple") (by rfl) mT (by decide +kernel) rfl) pa_nil))) pa_nil)))) pss_never pss_nil)
        (pss_cons (ps_if (PW.pt (pw_or (pt_cmpR op_isN (pv 1) pe_non (nomark _)) (pw_or1 (pt_val (pe_callB call_isiT (by rfl) mI (by decide +kernel) (pa_cons (pv 1) (pa_cons (pe_tup (pa_cons (pe_bltn (v := .ty "bool") (by rfl) mB (by decide +kernel) rfl) (pa_cons (pe_bltn (v := .ty "str") (by rfl) mS (by decide +kernel) rfl) pa_nil))) pa_nil)))))))
          (pss_one (ps_ret (pe_and (pe_cmpR (op_eqD hr.units) (pv 0) (pv 1) (nomark _)) (pe_and (pe_cmpR op_eq (pe_callB call_isi (by rfl) mI (by decide +kernel) (pa_cons (pv 0) (pa_cons (pe_bltn (v := .ty "bool") (by rfl) mB (by decide +kernel) rfl) pa_nil))) (pe_callB call_isi (by rfl) mI (by decide +kernel) (pa_cons (pv 1) (pa_cons (pe_bltn (v := .ty "bool") (by rfl) mB (by decide +kernel) rfl) pa_nil))) (nomark _)) (pe_one (pe_cmpR op_eq (pe_cmp (pc_isN (pv 0)) rfl) (pe_cmp (pc_isN (pv 1)) rfl) (nomark _))))))) pss_nil)
        (pss_one (ps_ret (pe_and (pe_callB call_isi (by rfl) mI (by decide +kernel) (pa_cons (pv 0) (pa_cons (pe_bltn (v := .ty "int") (by rfl) mN (by decide +kernel) rfl) pa_nil))) (pe_and (pe_not (pe_callB call_isi (by rfl) mI (by decide +kernel) (pa_cons (pv 0) (pa_cons (pe_bltn (v := .ty "bool") (by rfl) mB (by decide +kernel) rfl) pa_nil)))) (pe_one (pe_cmpR (op_eqD hr.units) (pv 0) (pv 1) (nomark _)))))))), ?_⟩
    refine ⟨_, rfl, (by decide : (2 : Nat) ≤ sizeLine), fun T nT => ⟨_, T, _, _, _, _, rfl, upd_same, two_cls, (.base (.str _)), any2 (r1 := false) (r2 := false) (by decide +kernel) (by decide +kernel), _, rfl, iteF ?_⟩⟩
    have s1 : Same H (upd H T (.tup [V.ty "list", V.ty "tuple"])) := same_upd nT
    generalize (upd H T (.tup [V.ty "list", V.ty "tuple"])) = H1 at *
    refine ⟨_, rfl, rfl, _, rfl, iteF ⟨_, rfl, (by decide : (2 : Nat) ≤ sizeLine), fun T2 nT2 => ⟨_, T2, _, _, _, _, rfl, upd_same, two_cls, (.base (.str _)), any2 (r1 := false) (r2 := true) (by decide +kernel) (by decide +kernel), _, rfl, iteT ?_⟩⟩⟩
    have s2 : Same H (upd H1 T2 (.tup [V.ty "bool", V.ty "str"])) := s1.trans (same_upd nT2)
    generalize (upd H1 T2 (.tup [V.ty "bool", V.ty "str"])) = H2 at *
    exact ⟨_, rfl, _, rfl, _, _, Dp.up s2 hx2, Dp.up s2 hy2, hsh, hsh, _, rfl, (by rw [SeqAt.eqv_refl _ hc]; refine iteT ?_; exact ⟨_, rfl, _, _, _, _, false, rfl, .ty _, (.base (.str _)), kit_ty (by decide +kernel), _, rfl, _, _, _, _, false, rfl, .ty _, (.base (.str _)), kit_ty (by decide +kernel), rfl, _, rfl, iteT ⟨_, rfl, _, rfl, rfl, q _ s2⟩⟩)⟩
  | lst _ _ => cases h0
  | tup _ _ => cases h0
theorem same_seq {f : Addr} {fd : FuncData} {k n : Nat} (F : Fun K "_law_same" "_law_same" sSame f fd) (bS : Binds K fd ["_law_found", "_law_due"] []) (gS : mg "_law_same" = some (.ref f)) (mI : mg "isinstance" = none) (mL : mg "list" = none) (mT : mg "tuple" = none) (mB : mg "bool" = none) (mS : mg "str" = none) (mN : mg "int" = none) (ml : mg "len" = none) (mA : mg "all" = none) (mZ : mg "zip" = none) (IH : FnOk P w K mg base CX0 k f fd ["_law_found", "_law_due"] (spSame K n))
    {cdv : Value} {A : Around} {outer : List Env} {s : Shared} {H : Hp} {Q : VK} {E : XK} (hr : Room k (A.deeper (envOfC "_law_same" (defScope sSame) s.heap.objs.size f cdv))) {x y : V} {d : PyData} (hx : Dp K H x d) (hy : Dp K H y d) (hc : d.canLay0 = true) (h0 : d.depth ≠ 0) (hn : d.depth ≤ n + 1) (h60 : d.depth ≤ 60) (hw : wide d ≤ 100000) (q : ∀ H' : Hp, Same H H' → Q (.bl true) H') :
    ∃ t, PSs (cxOf CX0 P w K mg base nSame "_law_same" (defScope sSame) f cdv A outer s H E).nox (defBody sSame) t ∧ t { nx := fun _ H' => Q .non H', rt := Q } (start nSame [x, y]) H := by
  cases hx with
  | non => exact absurd rfl h0
  | bl b => exact absurd rfl h0
  | int i => exact absurd rfl h0
  | str z => exact absurd rfl h0
  | @lst a xs ds hqx hdx =>
    cases hy with
    | @lst b ys _ hqy hdy =>
      have hc : PyData.canLayAll0 ds = true := hc
      have hn2 : PyData.depthAll ds + 1 ≤ n + 1 := hn
      have h602 : PyData.depthAll ds + 1 ≤ 60 := h60
      have hw2 : max ds.length (wideAll ds) ≤ 100000 := hw
      refine ⟨_, pss_cons (ps_if (pt_val (pe_callB call_isiT (by rfl) mI (by decide +kernel) (pa_cons (pv 1) (pa_cons (pe_tup (pa_cons (pe_bltn (v := .ty "list") (by rfl) mL (by decide +kernel) rfl) (pa_cons (pe_bltn (v := .ty "tuple") (by rfl) mT (by decide +kernel) rfl) pa_nil))) pa_nil))))
          (pss_cons (ps_if (PW.pt (pw_or (pt_cmpR op_ne (pe_callB call_isi (by rfl) mI (by decide +kernel) (pa_cons (pv 0) (pa_cons (pe_bltn (v := .ty "list") (by rfl) mL (by decide +kernel) rfl) pa_nil))) (pe_callB call_isi (by rfl) mI (by decide +kernel) (pa_cons (pv 1) (pa_cons (pe_bltn (v := .ty "list") (by rfl) mL (by decide +kernel) rfl) pa_nil))) (nomark _)) (pw_or1 (pt_cmpR op_ne (pe_callB call_isi (by rfl) mI (by decide +kernel) (pa_cons (pv 0) (pa_cons (pe_bltn (v := .ty "tuple") (by rfl) mT (by decide +kernel) rfl) pa_nil))) (pe_callB call_isi (by rfl) mI (by decide +kernel) (pa_cons (pv 1) (pa_cons (pe_bltn (v := .ty "tuple") (by rfl) mT (by decide +kernel) rfl) pa_nil))) (nomark _))))) pss_never pss_nil)
          (pss_one (ps_ret (pe_and (pe_cmpR op_eq (pe_callB call_len_seq (by rfl) ml PySem.boot_len (pa_cons (pv 0) pa_nil)) (pe_callB call_len_seq (by rfl) ml PySem.boot_len (pa_cons (pv 1) pa_nil)) (nomark _))
            (pe_one (pe_callB (cr_all rfl) (by rfl) mA (by decide +kernel) (pa_cons (pe_lc (own := [("_law_mine", 2), ("_law_its", 3)]) (g := gTup K 2 (gCons (gName 2) (gCons (gName 3) gNil))) (tt := tYes) rfl scSame.nd
              (RZ.pi_zipA (by rfl) mZ (pa_cons (pv 0) (pa_cons (pv 1) pa_nil)))
              (blkOk_by (N := nSame) (sc := defScope sSame) (by decide +kernel)) (fun _ _ _ _ _ => pg_tup rfl (pgs_cons (pg_name (i := 2) scSame.nd rfl (.inl rfl)) (pgs_cons (pg_name (i := 3) scSame.nd rfl (.inl rfl)) pgs_nil)))
              (fun _ _ _ _ _ => pts_nil) (fun _ _ _ _ _ => pe_call IH hr (by rfl) gS F.kp bS .nil pass0 (pa_cons (pv 2) (pa_cons (pv 3) pa_nil)))) pa_nil))))))) pss_nil)
        pss_never, ?_⟩
      refine ⟨_, rfl, (by decide : (2 : Nat) ≤ sizeLine), fun T nT => ⟨_, T, _, _, _, _, rfl, upd_same, two_cls, ty_list ((same_upd nT).seq hqy), any2 (r1 := true) (r2 := false) (by decide +kernel) (by decide +kernel), _, rfl, iteT ?_⟩⟩
      have s1 : Same H (upd H T (.tup [V.ty "list", V.ty "tuple"])) := same_upd nT
      generalize (upd H T (.tup [V.ty "list", V.ty "tuple"])) = H1 at *
      refine ⟨_, rfl, _, _, _, _, true, rfl, .ty _, ty_list ((s1).seq hqx), kit_ty (by decide +kernel), _, rfl, _, _, _, _, true, rfl, .ty _, ty_list ((s1).seq hqy), kit_ty (by decide +kernel), rfl, _, rfl, iteF ⟨_, rfl, _, _, _, _, false, rfl, .ty _, ty_list ((s1).seq hqx), kit_ty (by decide +kernel), _, rfl, _, _, _, _, false, rfl, .ty _, ty_list ((s1).seq hqy), kit_ty (by decide +kernel), rfl, _, rfl, iteF ?_⟩⟩
      have hxl : xs.length = ds.length := dpAll_len hdx
      have hyl : ys.length = ds.length := dpAll_len hdy
      refine ⟨_, rfl, _, _, rfl, .inl ((s1).seq hqx), _, rfl, _, _, rfl, .inl ((s1).seq hqy), rfl, _, rfl, ?_⟩
      rw [hxl, hyl]
      simp only [decide_true]
      refine ⟨.ref a, rfl, .ref b, rfl, a, b, xs, ys, rfl, .inl ⟨(s1).seq hqx, (s1).seq hqy, fun D nD => ?_⟩⟩
      refine lc_it (n := ds.length) (walk_zip (xs := xs) (ys := ys) (by omega)) (fun i H4 => H4 D = some (.lst ((List.replicate i true).map V.bl)) ∧ Same H1 H4) ?_ ?_ ?_ ?_
      · exact ⟨upd_same, same_upd nD⟩
      · rintro i H4 hi ⟨hD, s4⟩
        exact ⟨(s1.trans s4).seq hqx, (s1.trans s4).seq hqy⟩
      · rintro i v H4 H5 hi ⟨hD, s4⟩ ⟨T2, u1, u2, rfl, nT2, rfl, hu1, hu2⟩
        have s5 : Same H4 (upd H4 T2 (.tup [u1, u2])) := same_upd nT2
        obtain ⟨d1, hd1, hdp1⟩ := dpAll_at hdx hu1
        obtain ⟨d2, hd2, hdp2⟩ := dpAll_at hdy hu2
        rw [hd1] at hd2
        cases hd2
        have hca := all_at hd1 hc
        have sA : Same H (upd H4 T2 (.tup [u1, u2])) := (s1.trans s4).trans s5
        refine ⟨T2, _, rfl, .inl (.inl upd_same), rfl, _, _, rfl, _, _, rfl, rfl, rfl, ?_⟩
        refine ⟨u1, rfl, u2, rfl, u1, u2, d1, rfl, Dp.up sA hdp1, Dp.up sA hdp2, hca.1, by omega, by omega, (by have := wide_at hd1; omega), ?_⟩
        intro H6 s6
        have hD6 := s6 _ _ (s5 _ _ hD)
        refine ⟨_, hD6, ?_, ?_, ?_⟩
        · rw [List.length_map, List.length_replicate, PySem.sizeLine_eq]
          omega
        · rw [upd_same, List.replicate_succ', List.map_append]
          rfl
        · intro z o ez
          rw [upd_ne (ne_of_none ez nD)]
          exact s6 _ _ (s5 _ _ (s4 _ _ ez))
      · rintro H4 ⟨hD, s4⟩
        refine ⟨D, _, rfl, .inl (.inl hD), ?_⟩
        rw [trues (bs := List.replicate ds.length true) fun z hz => (List.mem_replicate.mp hz).2]
        exact q H4 (s1.trans s4)
  | @tup a xs ds hqx hdx =>
    cases hy with
    | @tup b ys _ hqy hdy =>
      have hc : PyData.canLayAll0 ds = true := hc
      have hn2 : PyData.depthAll ds + 1 ≤ n + 1 := hn
      have h602 : PyData.depthAll ds + 1 ≤ 60 := h60
      have hw2 : max ds.length (wideAll ds) ≤ 100000 := hw
      refine ⟨_, pss_cons (ps_if (pt_val (pe_callB call_isiT (by rfl) mI (by decide +kernel) (pa_cons (pv 1) (pa_cons (pe_tup (pa_cons (pe_bltn (v := .ty "list") (by rfl) mL (by decide +kernel) rfl) (pa_cons (pe_bltn (v := .ty "tuple") (by rfl) mT (by decide +kernel) rfl) pa_nil))) pa_nil))))
          (pss_cons (ps_if (PW.pt (pw_or (pt_cmpR op_ne (pe_callB call_isi (by rfl) mI (by decide +kernel) (pa_cons (pv 0) (pa_cons (pe_bltn (v := .ty "list") (by rfl) mL (by decide +kernel) rfl) pa_nil))) (pe_callB call_isi (by rfl) mI (by decide +kernel) (pa_cons (pv 1) (pa_cons (pe_bltn (v := .ty "list") (by rfl) mL (by decide +kernel) rfl) pa_nil))) (nomark _)) (pw_or1 (pt_cmpR op_ne (pe_callB call_isi (by rfl) mI (by decide +kernel) (pa_cons (pv 0) (pa_cons (pe_bltn (v := .ty "tuple") (by rfl) mT (by decide +kernel) rfl) pa_nil))) (pe_callB call_isi (by rfl) mI (by decide +kernel) (pa_cons (pv 1) (pa_cons (pe_bltn (v := .ty "tuple") (by rfl) mT (by decide +kernel) rfl) pa_nil))) (nomark _))))) pss_never pss_nil)
          (pss_one (ps_ret (pe_and (pe_cmpR op_eq (pe_callB call_len_seq (by rfl) ml PySem.boot_len (pa_cons (pv 0) pa_nil)) (pe_callB call_len_seq (by rfl) ml PySem.boot_len (pa_cons (pv 1) pa_nil)) (nomark _))
            (pe_one (pe_callB (cr_all rfl) (by rfl) mA (by decide +kernel) (pa_cons (pe_lc (own := [("_law_mine", 2), ("_law_its", 3)]) (g := gTup K 2 (gCons (gName 2) (gCons (gName 3) gNil))) (tt := tYes) rfl scSame.nd
              (RZ.pi_zipA (by rfl) mZ (pa_cons (pv 0) (pa_cons (pv 1) pa_nil)))
              (blkOk_by (N := nSame) (sc := defScope sSame) (by decide +kernel)) (fun _ _ _ _ _ => pg_tup rfl (pgs_cons (pg_name (i := 2) scSame.nd rfl (.inl rfl)) (pgs_cons (pg_name (i := 3) scSame.nd rfl (.inl rfl)) pgs_nil)))
              (fun _ _ _ _ _ => pts_nil) (fun _ _ _ _ _ => pe_call IH hr (by rfl) gS F.kp bS .nil pass0 (pa_cons (pv 2) (pa_cons (pv 3) pa_nil)))) pa_nil))))))) pss_nil)
        pss_never, ?_⟩
      refine ⟨_, rfl, (by decide : (2 : Nat) ≤ sizeLine), fun T nT => ⟨_, T, _, _, _, _, rfl, upd_same, two_cls, ty_tup (sameT (same_upd nT) hqy), any2 (r1 := false) (r2 := true) (by decide +kernel) (by decide +kernel), _, rfl, iteT ?_⟩⟩
      have s1 : Same H (upd H T (.tup [V.ty "list", V.ty "tuple"])) := same_upd nT
      generalize (upd H T (.tup [V.ty "list", V.ty "tuple"])) = H1 at *
      refine ⟨_, rfl, _, _, _, _, false, rfl, .ty _, ty_tup (sameT (s1) hqx), kit_ty (by decide +kernel), _, rfl, _, _, _, _, false, rfl, .ty _, ty_tup (sameT (s1) hqy), kit_ty (by decide +kernel), rfl, _, rfl, iteF ⟨_, rfl, _, _, _, _, true, rfl, .ty _, ty_tup (sameT (s1) hqx), kit_ty (by decide +kernel), _, rfl, _, _, _, _, true, rfl, .ty _, ty_tup (sameT (s1) hqy), kit_ty (by decide +kernel), rfl, _, rfl, iteF ?_⟩⟩
      have hxl : xs.length = ds.length := dpAll_len hdx
      have hyl : ys.length = ds.length := dpAll_len hdy
      refine ⟨_, rfl, _, _, rfl, .inr (sameT (s1) hqx), _, rfl, _, _, rfl, .inr (sameT (s1) hqy), rfl, _, rfl, ?_⟩
      rw [hxl, hyl]
      simp only [decide_true]
      refine ⟨.ref a, rfl, .ref b, rfl, a, b, xs, ys, rfl, .inr ⟨sameT (s1) hqx, sameT (s1) hqy, fun D nD => ?_⟩⟩
      refine lc_it (n := ds.length) (walk_zipT (xs := xs) (ys := ys) hxl hyl) (fun i H4 => H4 D = some (.lst ((List.replicate i true).map V.bl)) ∧ Same H1 H4) ?_ ?_ ?_ ?_
      · exact ⟨upd_same, same_upd nD⟩
      · rintro i H4 hi ⟨hD, s4⟩
        exact ⟨sameT (s1.trans s4) hqx, sameT (s1.trans s4) hqy⟩
      · rintro i v H4 H5 hi ⟨hD, s4⟩ ⟨T2, u1, u2, rfl, nT2, rfl, hu1, hu2⟩
        have s5 : Same H4 (upd H4 T2 (.tup [u1, u2])) := same_upd nT2
        obtain ⟨d1, hd1, hdp1⟩ := dpAll_at hdx hu1
        obtain ⟨d2, hd2, hdp2⟩ := dpAll_at hdy hu2
        rw [hd1] at hd2
        cases hd2
        have hca := all_at hd1 hc
        have sA : Same H (upd H4 T2 (.tup [u1, u2])) := (s1.trans s4).trans s5
        refine ⟨T2, _, rfl, .inl (.inl upd_same), rfl, _, _, rfl, _, _, rfl, rfl, rfl, ?_⟩
        refine ⟨u1, rfl, u2, rfl, u1, u2, d1, rfl, Dp.up sA hdp1, Dp.up sA hdp2, hca.1, by omega, by omega, (by have := wide_at hd1; omega), ?_⟩
        intro H6 s6
        have hD6 := s6 _ _ (s5 _ _ hD)
        refine ⟨_, hD6, ?_, ?_, ?_⟩
        · rw [List.length_map, List.length_replicate, PySem.sizeLine_eq]
          omega
        · rw [upd_same, List.replicate_succ', List.map_append]
          rfl
        · intro z o ez
          rw [upd_ne (ne_of_none ez nD)]
          exact s6 _ _ (s5 _ _ (s4 _ _ ez))
      · rintro H4 ⟨hD, s4⟩
        refine ⟨D, _, rfl, .inl (.inl hD), ?_⟩
        rw [trues (bs := List.replicate ds.length true) fun z hz => (List.mem_replicate.mp hz).2]
        exact q H4 (s1.trans s4)
theorem ok_same {f : Addr} {fd : FuncData} (F : Fun K "_law_same" "_law_same" sSame f fd) (bS : Binds K fd ["_law_found", "_law_due"] []) (gS : mg "_law_same" = some (.ref f)) (mI : mg "isinstance" = none) (mL : mg "list" = none) (mT : mg "tuple" = none) (mB : mg "bool" = none) (mS : mg "str" = none) (mN : mg "int" = none) (ml : mg "len" = none) (mA : mg "all" = none) (mZ : mg "zip" = none) : ∀ n : Nat, FnOk P w K mg base CX0 (n + 1) f fd ["_law_found", "_law_due"] (spSame K n)
  | 0 => by
    refine F.ok scSame (fun vs H Q E h => ?_) (fun cdv A outer s H vs Q E hr h => ?_)
    · obtain ⟨x, y, d, rfl, _⟩ := h
      rfl
    · obtain ⟨x, y, d, rfl, hx, hy, hc, h0, _, _, q⟩ := h
      exact same_scal F mI mL mT mB mS mN hr hx hy hc (by omega) q
  | n + 1 => by
    have IH := ok_same F bS gS mI mL mT mB mS mN ml mA mZ n
    refine F.ok scSame (fun vs H Q E h => ?_) (fun cdv A outer s H vs Q E hr h => ?_)
    · obtain ⟨x, y, d, rfl, _⟩ := h
      rfl
    · obtain ⟨x, y, d, rfl, hx, hy, hc, h0, h60, hw, q⟩ := h
      by_cases hz : d.depth = 0
      · exact same_scal F mI mL mT mB mS mN hr hx hy hc hz q
      · exact same_seq F bS gS mI mL mT mB mS mN ml mA mZ IH hr hx hy hc hz h0 h60 hw q
end
end HF
namespace HF
open PySem PySem.Spec PyProof.Rows L2
/-! ### lists of pairs of books -/
def OkP (zs : List Str) (p : Addr × List Str) : Prop := ∃ x y, p.2 = [x, y] ∧ x ∈ zs ∧ y ∈ zs ∧ x ≠ y
def Prs (zs : List Str) (H : Hp) (L : SL) : Prop := ∀ p ∈ L, H p.1 = some (.tup (p.2.map V.str)) ∧ OkP zs p
abbrev rf (L : SL) : List V := L.map fun p => V.ref p.1
theorem Prs.same {zs : List Str} {H H' : Hp} {L : SL} (h : Prs zs H L) (sm : Same H H') : Prs zs H' L := fun p hp => ⟨sm _ _ (h p hp).1, (h p hp).2⟩
theorem Prs.oth {zs : List Str} {H H' : Hp} {L : SL} {p : Addr} {c : Int} (h : Prs zs H L) (o : Oth p H H') (hb : Bx H p c) : Prs zs H' L := fun q hq => by
  refine ⟨o _ _ (h q hq).1 ?_, (h q hq).2⟩
  obtain ⟨x, y, e, _⟩ := hb
  exact ne_of (h q hq).1 e (by intro z; cases z)
theorem Prs.nil {zs : List Str} {H : Hp} : Prs zs H [] := fun p hp => nomatch hp
theorem Prs.app {zs : List Str} {H : Hp} {L M : SL} (h : Prs zs H L) (g : Prs zs H M) : Prs zs H (L ++ M) := fun p hp => (List.mem_append.mp hp).elim (h p) (g p)
theorem Prs.one {zs : List Str} {H : Hp} {T : Addr} {x y : Str} (h : H T = some (.tup [.str x, .str y])) (hx : x ∈ zs) (hy : y ∈ zs) (ne : x ≠ y) : Prs zs H [(T, [x, y])] := fun p hp => by
  rw [List.mem_singleton.mp hp]
  exact ⟨h, x, y, rfl, hx, hy, ne⟩
theorem Prs.sq {K : PySem.W.Frag} {zs : List Str} {H : Hp} {L : SL} (h : Prs zs H L) : ∀ p ∈ L, SqT K H p.1 (p.2.map V.str) := fun p hp => .inl (.inl (h p hp).1)
theorem Prs.two {zs : List Str} {H : Hp} {L : SL} (h : Prs zs H L) : ∀ p ∈ L, p.2.length = 1 + 1 := fun p hp => by
  obtain ⟨x, y, e, _⟩ := (h p hp).2
  rw [e]
  rfl
/-- the ties of a heap: unlike pairs, rising -/
def Ties (zs : List Str) (H : Hp) (r : Addr) (L : SL) : Prop := Tp H r (rf L) ∧ Prs zs H L ∧ (L.map (·.2)).Nodup ∧ L.Pairwise (fun p q => PySem.W.dataLe false encS p q = true)
theorem Ties.same {zs : List Str} {H H' : Hp} {r : Addr} {L : SL} (h : Ties zs H r L) (sm : Same H H') : Ties zs H' r L := ⟨h.1.same sm, h.2.1.same sm, h.2.2⟩
theorem Ties.oth {zs : List Str} {H H' : Hp} {r p : Addr} {L : SL} {c : Int} (h : Ties zs H r L) (o : Oth p H H') (hb : Bx H p c) : Ties zs H' r L := ⟨h.1.oth o (h.1.ne hb), h.2.1.oth o hb, h.2.2⟩
theorem at7 {r : Int} (h0 : 0 ≤ r) (h1 : r < 7) : ∃ j : Int, atI [V.int 0, V.int 6, V.int 3, V.int 2, V.int 4, V.int 6, V.int 4] r = some (V.int j) ∧ 0 ≤ j ∧ j ≤ 6 := by
  obtain ⟨n, rfl⟩ := Int.eq_ofNat_of_zero_le h0
  match n, h1 with
  | 0, _ => exact ⟨0, atI_nat (j := 0) rfl, by decide, by decide⟩
  | 1, _ => exact ⟨6, atI_nat (j := 1) rfl, by decide, by decide⟩
  | 2, _ => exact ⟨3, atI_nat (j := 2) rfl, by decide, by decide⟩
  | 3, _ => exact ⟨2, atI_nat (j := 3) rfl, by decide, by decide⟩
  | 4, _ => exact ⟨4, atI_nat (j := 4) rfl, by decide, by decide⟩
  | 5, _ => exact ⟨6, atI_nat (j := 5) rfl, by decide, by decide⟩
  | 6, _ => exact ⟨4, atI_nat (j := 6) rfl, by decide, by decide⟩
  | n + 7, h => omega
def spTies (K : PySem.W.Frag) : Sp := fun vs H Q _ => ∃ (p t : Addr) (c : Int) (zs : List Str), vs = [.ref p, .ref t] ∧ Bx H p c ∧ c < 2 ^ 38 ∧ Sq K H t (zs.map V.str) ∧ t ≠ p ∧ zs.Nodup ∧ zs.length ≤ 12 ∧
  ∀ (H' : Hp) (r : Addr) (L : SL) (c' : Int), H r = none → Oth p H H' → Ties zs H' r L → Bx H' p c' → c ≤ c' → c' ≤ c + 200 → Q (.ref r) H'
end HF
/-! enumerate(tuple) -/
namespace HF
open PySem PySem.Spec PyProof.Rows L2
theorem enum_new1 {v : Value} {ob : Obj} {Hv : Heap → Prop} (B : Begins v ob Hv) :
    Meets (Builtin.«enumerate.__new__» ⟨[.type "enumerate", v], []⟩) (fun _ R st => Hv st.heap ∧
      R (.ok (.ret (.ref (st.heap.push ob).objs.size))) { st with heap := (st.heap.push ob).push { cls := .type "enumerate", data := .fields #[.none, .bool false, .ref st.heap.objs.size, rawInt 0, .none, .none] } }) := by
  refine .of_wp fun prog w A R st hyp => ?_
  obtain ⟨hp, gg, dd, tk, os⟩ := st
  obtain ⟨h1, h2⟩ := hyp
  have hsub := sub_enumerate
  have walkI : ∀ {A' : Around} {E : Value → Shared → Prop} {Q : Value → Shared → Prop}, Q (.ref hp.objs.size) ⟨hp.push ob, gg, dd, tk, os⟩ → wpAny (model prog w) A' (pyIter v) Q E ⟨hp, gg, dd, tk, os⟩ := fun q => B.iter prog w _ _ ⟨hp, gg, dd, tk, os⟩ _ h1 q
  wp_walk using walkI
  refine wpAny_stack_any fun stk => wpAny_pure ?_
  split
  · rename_i cc _ _ _ _ _
    cases (cc == Value.type "enumerate") <;> (wp_walk using walkI; exact ⟨_, rfl, h2⟩)
  · wp_walk using walkI
    exact ⟨_, rfl, h2⟩
section
variable {prog : Program} {w : World} {A : Around} {E : Value → Shared → Prop} {s : Shared}
theorem enum_call1 {v : Value} {ob : Obj} {Hv : Heap → Prop} {Q : Value → Shared → Prop} (B : Begins v ob Hv) (h1 : Hv s.heap)
    (hQ : ∀ h', IsEnum h' (s.heap.objs.size + 1) s.heap.objs.size 0 .none → h'.get? s.heap.objs.size = some ob → (∀ b o, s.heap.get? b = some o → h'.get? b = some o) → Q (.ref (s.heap.objs.size + 1)) { s with heap := h' }) :
    wpAny (model prog w) A (call (.type "enumerate") [v]) Q E s := by
  refine callType_new F.called_enumerate (by decide) (F.typeCall_enumerate_1 _) (F.newCall_enumerate_1 _) (fun obj => F.args_object_init_2 obj _) F.entry_enumerate_new (enum_new1 B) ⟨h1, ?_⟩
  have hz : (s.heap.push ob).objs.size = s.heap.objs.size + 1 := Heap.size_push ..
  show _ ∧ _
  rw [hz]
  have he : IsEnum ((s.heap.push ob).push { cls := .type "enumerate", data := .fields #[.none, .bool false, .ref s.heap.objs.size, rawInt 0, .none, .none] }) (s.heap.objs.size + 1) s.heap.objs.size 0 .none := by
    have e := Heap.get?_push_size (s.heap.push ob) (o := { cls := .type "enumerate", data := .fields #[.none, .bool false, .ref s.heap.objs.size, rawInt 0, .none, .none] }) rfl
    rw [hz] at e
    exact e
  exact ⟨⟨_, he, rfl⟩, hQ _ he (Heap.get?_push_of_some _ (Heap.get?_push_size _ B.free)) fun b o x => Heap.get?_push_of_some _ (Heap.get?_push_of_some _ x)⟩
theorem enum_end_t {e it a : Addr} {its : Array Value} {i : Nat} {j : Int} {old : Value} {Q : Option Value → Shared → Prop} (hh : A.handled = none) (he : IsEnum s.heap e it j old) (hit : s.heap.IsTupleIter it a i) (ht : s.heap.IsTuple a its) (hi : its.size ≤ i)
    (hQ : ∀ h', Heap.ExtBut it s.heap h' → Q none { s with heap := h' }) : wpAny (model prog w) A (pyNext (.ref e)) Q E s := by
  have ty : s.TypeIs (.ref e) "enumerate" := ⟨_, he, rfl⟩
  unfold pyNext
  refine wpAny_bind (wpAny_attempt (wpAny_callSpecial?_slot (name := Str.ofString "__next__") ty F.slot_enumerate_next (wpAny_call_entry F.slot_enumerate_next ty F.entry_enumerate_next ?_ (F.args_enumerate_next_1 _))))
  show wpAny _ _ (field (.ref e) 2 >>= _) _ _ _
  refine wpAny_bind (wpAny_field he rfl (x := .ref it) rfl (wpAny_bind (wpAny_nextOf_tuple_end (A := A.in1) hh hit ht (by simp; omega) fun h1 x kp stop => ?_)))
  obtain ⟨o, ho, hc⟩ := stop
  exact wpAny_bind (wpAny_isInstance (T := "StopIteration") (b := true) ⟨o, ho, hc⟩ isSubtype_stop (wpAny_pure (hQ _ kp)))
end
/-- the tuple's items in new pairs with their places -/
def ItE (K : PySem.W.Frag) (a : Addr) : It :=
  ⟨fun i H => ∃ (xs : List V) (x : V), SqT K H a xs ∧ xs[i]? = some x, fun i H v H' => ∃ T x, v = .ref T ∧ H T = none ∧ H' = upd H T (.tup [.int (i : Nat), x]) ∧ ∀ xs, SqT K H a xs → xs[i]? = some x, fun i H => ∃ xs : List V, SqT K H a xs ∧ xs.length ≤ i⟩
theorem turn_E {P : Program} {w : World} {K : PySem.W.Frag} {elts : List Expr} {kk : Nat} {tpos : Pos} (a e it : Addr) :
    Turn P w K (.Tuple elts kk tpos) (ItE K a) [e, it] e (fun i h => (∃ old, IsEnum h e it ((i : Nat) : Int) old) ∧ h.IsTupleIter it a i ∧ e ≠ it ∧ a ≠ it ∧ e ≠ a) where
  mem := by simp
  obj := fun i h st b hb => by
    obtain ⟨⟨old, he⟩, ⟨o, ho, hc, hd⟩, _⟩ := st
    rcases (show b = e ∨ b = it by simpa using hb) with rfl | rfl
    · exact ⟨_, he, fun v q => nomatch q⟩
    · exact ⟨o, ho, fun v q => by rw [hd] at q; cases q⟩
  keep := fun i h h' st kp => let ⟨⟨old, he⟩, hi, r⟩ := st; ⟨⟨old, kp e (by simp) _ he⟩, hi.at fun o q => kp it (by simp) o q, r⟩
  item := by
    intro X hP hw hK hc i pins st σ H E I hf inv hg
    subst hP hw hK
    obtain ⟨⟨old, he⟩, hit, ne1, ne2, ne3⟩ := inv
    obtain ⟨xs, x, hq, hx⟩ := hg
    obtain ⟨its, rv, pl, hz⟩ := I.tuple hq
    obtain ⟨u, hu, ru⟩ := rv.get hx
    have lte : e < st.heap.objs.size := Heap.lt_size he
    have lti : it < st.heap.objs.size := by obtain ⟨_, q, _⟩ := hit; exact Heap.lt_size q
    have hui : its.toArray[i]? = some u := by simpa using hu
    have hlt : i < its.toArray.size := (Array.getElem?_eq_some_iff.mp hui).1
    refine wpAny_pyNext_enum_itemD (Draws.tuple (A := X.A.in1) (show X.A.in1.handled = none from I.ok.hd hc) it a ne2 its.toArray) he ⟨hit, pl⟩ hlt ne1 (by simp [ne1, ne3]) fun y h1 tk hy ho hst hT hsz kp => ?_
    have ey : y = u := Option.some.inj ((show its.toArray[i]? = some y from hy).symm.trans hui)
    subst ey
    refine ⟨_, rfl, wpAny_letOwnedTupleGo_enum (s := { st with heap := h1, toks := tk + 1 }) ho fun h2 he2 sb => ?_⟩
    have hT2 : h2.get? st.heap.objs.size = some { cls := .type "tuple", data := .seq #[.int i tk, y] } := (sb.2 _ (Nat.ne_of_gt lte)).trans hT
    have new : ObjOk X.prog X.w (upd H st.heap.objs.size (.tup [.int (i : Nat), x])) h2 st.heap.objs.size (.tup [.int (i : Nat), x]) :=
      ⟨(by decide : (2 : Nat) ≤ sizeLine), [.int i tk, y], .cons ⟨_, rfl⟩ (.cons ru .nil), ⟨_, hT2, rfl, _, rfl⟩⟩
    have J : Inv X pins σ (upd H st.heap.objs.size (.tup [.int (i : Nat), x])) { st with heap := h2, toks := tk + 1 } :=
      I.turnedNew (ch := [e, it]) (fun b ob hb q => (sb.2 b (fun z => hb (by simp [z]))).trans (kp b ob (fun z => hb (by simp [z])) (fun z => hb (by simp [z])) q)) hf (Nat.le_refl _) new
    refine ⟨.ref st.heap.objs.size, _, J, rfl, ⟨_, x, rfl, I.hok.fresh (Nat.le_refl _), rfl, fun ys hy => by rw [I.tuple_inj hy hq]; exact hx⟩, ⟨⟨y, ?_⟩, hst.1.at fun o q => (sb.2 it (Ne.symm ne1)).trans q, ne1, ne2, ne3⟩, fun b hb => ?_⟩
    · rw [show ((i + 1 : Nat) : Int) = (i : Int) + 1 by omega]
      exact he2
    · have lb : b < st.heap.objs.size := by
        rcases (show b = e ∨ b = it by simpa using hb) with rfl | rfl
        · exact lte
        · exact lti
      rw [upd_ne (Nat.ne_of_lt lb)]
      exact (hf b hb).1
  done := by
    intro X hP hw hK hc i pins st σ H E I hf inv hg
    subst hP hw hK
    obtain ⟨⟨old, he⟩, hit, ne1, ne2, ne3⟩ := inv
    obtain ⟨xs, hq, hx⟩ := hg
    obtain ⟨its, rv, pl, hz⟩ := I.tuple hq
    obtain ⟨f0, f1, f2, f3, f4, f5⟩ := hf it (by simp)
    have hl := rv.length
    exact enum_end_t (I.ok.hd hc) he hit pl (by simp; omega) fun h1 eb => ⟨rfl, I.turned (t' := st.toks) (fun b o hb q => eb b o hb q) f0 f1 f3 f4 f5⟩
  self := fun A i st Q E inv h => let ⟨⟨_, he⟩, _⟩ := inv; wpAny_pyIter_enum he h
def iEnT (K : PySem.W.Frag) (ta : TA) : TI := fun σ H R => ta σ H fun vs H1 => ∃ a xs, vs = [.ref a] ∧ SqT K H1 a xs ∧ R (ItE K a) H1
theorem pi_enT {X : Cx} {e : Expr} {ta : TA} {p pos tpos : Pos} {elts : List Expr} {kk : Nat} (hg : Gl X "enumerate") (hm : X.mg "enumerate" = none) (ha : PA X [e] ta) (hst : starEach [e] X.env = [(false, eval e X.env)] := by rfl) :
    PI X (.Tuple elts kk tpos) (.Call (.Name "enumerate" p) [e] [] pos) (iEnT X.K ta) := by
  refine ⟨fun pins st σ H R I hyp => Call_ (ld_blt I hg hm boot_enumerate (PyProof.Rows.callWith_type1 (thn (ha.run pos pins st σ H _ I hyp) ?_) hst rfl))⟩
  rintro us s1 ⟨vs, H1, J, rel, a, xs, rfl, hq, q⟩
  obtain ⟨uv, rfl, ru⟩ := vals1 rel
  cases ru
  obtain ⟨its, rv, pl, hz⟩ := J.tuple hq
  have lta : a < s1.heap.objs.size := by obtain ⟨o, ho, _⟩ := pl; exact Heap.lt_size ho
  refine enum_call1 (begins_tuple a its.toArray) pl fun h1 he hit kp => wpAny_pyIter_enum he ?_
  have J2 : Inv X pins σ H1 { s1 with heap := h1 } := J.kept (t' := s1.toks) kp
  refine ⟨s1.heap.objs.size + 1, [s1.heap.objs.size + 1, s1.heap.objs.size], _, _, H1, rfl, J2, turn_E a (s1.heap.objs.size + 1) s1.heap.objs.size, ⟨⟨.none, he⟩, ⟨_, hit, rfl, rfl⟩, Nat.succ_ne_self _, Nat.ne_of_lt lta, Nat.ne_of_gt (Nat.lt_succ_of_lt lta)⟩, fun b hb => ?_, q⟩
  have hle : s1.heap.objs.size ≤ b := by
    rcases (show b = s1.heap.objs.size + 1 ∨ b = s1.heap.objs.size by simpa using hb) with rfl | rfl
    · exact Nat.le_succ _
    · exact Nat.le_refl _
  exact J.fpOk hle (J.hok.fresh hle)
theorem walk_enT {K : PySem.W.Frag} {a : Addr} {xs : List V} : Walk (ItE K a) xs.length (fun H => SqT K H a xs) (YPair (fun i => some (.int (i : Nat))) (fun i => xs[i]?)) := by
  refine ⟨fun i H hi q => ⟨xs, xs[i], q, List.getElem?_eq_getElem hi⟩, fun H q => ⟨xs, q, Nat.le_refl _⟩, ?_⟩
  rintro i H x H' hi q ⟨T, u, e1, e2, e3, h1⟩
  exact ⟨T, _, u, e1, e2, e3, rfl, h1 xs q⟩
end HF
namespace HF
open PySem PySem.Spec PyProof.Rows L2
/-! ### lists for tuples, at any depth -/
mutual
def lsD : PyData → PyData
  | .list xs => .list (lsAll xs)
  | .tuple xs => .list (lsAll xs)
  | d => d
def lsAll : List PyData → List PyData
  | [] => []
  | x :: r => lsD x :: lsAll r
end
theorem lsAll_len : ∀ ds : List PyData, (lsAll ds).length = ds.length
  | [] => rfl
  | x :: r => by
    show (lsAll r).length + 1 = r.length + 1
    rw [lsAll_len r]
theorem lsAll_snoc : ∀ (ds : List PyData) (d : PyData), lsAll (ds ++ [d]) = lsAll ds ++ [lsD d]
  | [], _ => rfl
  | x :: r, d => by
    show lsD x :: lsAll (r ++ [d]) = _
    rw [lsAll_snoc r d]
    rfl
mutual
/-- data whose lists are new since H -/
inductive Nw (H H' : Hp) : V → PyData → Prop
  | non : Nw H H' .non .none
  | bl (b : Bool) : Nw H H' (.bl b) (.bool b)
  | int (i : Int) : Nw H H' (.int i) (.int i)
  | str (x : Str) : Nw H H' (.str x) (.str x)
  | lst {a : Addr} {xs : List V} {ds : List PyData} : H a = none → H' a = some (.lst xs) → NwAll H H' xs ds → Nw H H' (.ref a) (.list ds)
inductive NwAll (H H' : Hp) : List V → List PyData → Prop
  | nil : NwAll H H' [] []
  | cons {v : V} {vs : List V} {d : PyData} {ds : List PyData} : Nw H H' v d → NwAll H H' vs ds → NwAll H H' (v :: vs) (d :: ds)
end
mutual
theorem Nw.dp {K : PySem.W.Frag} {H H' : Hp} : ∀ {v : V} {d : PyData}, Nw H H' v d → Dp K H' v d
  | _, _, .non => .non
  | _, _, .bl b => .bl b
  | _, _, .int i => .int i
  | _, _, .str x => .str x
  | _, _, .lst _ h t => .lst (.inl (.inl h)) (NwAll.dp t)
theorem NwAll.dp {K : PySem.W.Frag} {H H' : Hp} : ∀ {vs : List V} {ds : List PyData}, NwAll H H' vs ds → DpAll K H' vs ds
  | _, _, .nil => .nil
  | _, _, .cons h t => .cons (Nw.dp h) (NwAll.dp t)
end
mutual
theorem Nw.go {H H' G G' : Hp} (h1 : ∀ a, H a = none → G a = none) (h2 : ∀ a o, H a = none → H' a = some o → G' a = some o) : ∀ {v : V} {d : PyData}, Nw H H' v d → Nw G G' v d
  | _, _, .non => .non
  | _, _, .bl b => .bl b
  | _, _, .int i => .int i
  | _, _, .str x => .str x
  | _, _, .lst n h t => .lst (h1 _ n) (h2 _ _ n h) (NwAll.go h1 h2 t)
theorem NwAll.go {H H' G G' : Hp} (h1 : ∀ a, H a = none → G a = none) (h2 : ∀ a o, H a = none → H' a = some o → G' a = some o) : ∀ {vs : List V} {ds : List PyData}, NwAll H H' vs ds → NwAll G G' vs ds
  | _, _, .nil => .nil
  | _, _, .cons h t => .cons (Nw.go h1 h2 h) (NwAll.go h1 h2 t)
end
theorem NwAll.snoc {H H' : Hp} : ∀ {vs : List V} {ds : List PyData} {v : V} {d : PyData}, NwAll H H' vs ds → Nw H H' v d → NwAll H H' (vs ++ [v]) (ds ++ [d])
  | _, _, _, _, .nil, h => .cons h .nil
  | _, _, _, _, .cons a t, h => .cons a (NwAll.snoc t h)
def spListed (K : PySem.W.Frag) (n : Nat) : Sp := fun vs H Q _ => ∃ (x : V) (d : PyData), vs = [x] ∧ Dp K H x d ∧ d.depth ≤ n ∧ wide d ≤ 100000 ∧ ∀ (H' : Hp) (y : V), Same H H' → Nw H H' y (lsD d) → Q y H'
/-! ### pairs, as tuples of tuples or as lists of lists -/
def PqT (K : PySem.W.Frag) (H : Hp) (r : Addr) (qs : List (Str × Str)) : Prop := ∃ as : List Addr, SqT K H r (as.map V.ref) ∧ as.length = qs.length ∧ ∀ (i : Nat) (a : Addr) (q : Str × Str), as[i]? = some a → qs[i]? = some q → SqT K H a [.str q.1, .str q.2]
def PqL (K : PySem.W.Frag) (H : Hp) (r : Addr) (qs : List (Str × Str)) : Prop := ∃ as : List Addr, SqL K H r (as.map V.ref) ∧ as.length = qs.length ∧ ∀ (i : Nat) (a : Addr) (q : Str × Str), as[i]? = some a → qs[i]? = some q → SqL K H a [.str q.1, .str q.2]
theorem PqT.same {K : PySem.W.Frag} {H H' : Hp} {r : Addr} {qs : List (Str × Str)} (h : PqT K H r qs) (sm : Same H H') : PqT K H' r qs := by
  obtain ⟨as, h1, h2, h3⟩ := h
  exact ⟨as, sameT sm h1, h2, fun i a q e1 e2 => sameT sm (h3 i a q e1 e2)⟩
def prOf (p : Addr × List Str) : Str × Str := match p.2 with
  | [x, y] => (x, y)
  | _ => ("", "")
theorem Ties.pq {K : PySem.W.Frag} {zs : List Str} {H : Hp} {r : Addr} {L : SL} (h : Ties zs H r L) : PqT K H r (L.map prOf) := by
  refine ⟨L.map (·.1), by rw [List.map_map]; exact h.1.sq, by rw [List.length_map, List.length_map], fun i a q e1 e2 => ?_⟩
  rw [List.getElem?_map] at e1 e2
  obtain ⟨p, hp, rfl⟩ := Option.map_eq_some_iff.mp e1
  rw [hp] at e2
  cases (show some (prOf p) = some q from e2)
  obtain ⟨g1, x, y, e, _⟩ := h.2.1 p (List.mem_of_getElem? hp)
  have ep : prOf p = (x, y) := by
    unfold prOf
    rw [e]
  rw [e] at g1
  rw [ep]
  exact .inl (.inl g1)
def sndOf (b : Str) (qs : List (Str × Str)) : List Str := (qs.filter fun q => decide (q.1 = b)).map (·.2)
def fstOf (b : Str) (qs : List (Str × Str)) : List Str := (qs.filter fun q => decide (q.2 = b)).map (·.1)
theorem sndOf_len (b : Str) (qs : List (Str × Str)) : (sndOf b qs).length ≤ qs.length := by
  unfold sndOf
  rw [List.length_map]
  exact List.length_filter_le _ _
theorem fstOf_len (b : Str) (qs : List (Str × Str)) : (fstOf b qs).length ≤ qs.length := by
  unfold fstOf
  rw [List.length_map]
  exact List.length_filter_le _ _
theorem sndOf_snoc (b : Str) (qs : List (Str × Str)) (q : Str × Str) : sndOf b (qs ++ [q]) = sndOf b qs ++ (if q.1 = b then [q.2] else []) := by
  unfold sndOf
  rw [List.filter_append, List.map_append]
  by_cases e : q.1 = b
  · rw [if_pos e, List.filter_cons_of_pos (p := fun q : Str × Str => decide (q.1 = b)) (decide_eq_true e)]
    rfl
  · rw [if_neg e, List.filter_cons_of_neg (p := fun q : Str × Str => decide (q.1 = b)) (by rw [decide_eq_true_eq]; exact e)]
    rfl
theorem fstOf_snoc (b : Str) (qs : List (Str × Str)) (q : Str × Str) : fstOf b (qs ++ [q]) = fstOf b qs ++ (if q.2 = b then [q.1] else []) := by
  unfold fstOf
  rw [List.filter_append, List.map_append]
  by_cases e : q.2 = b
  · rw [if_pos e, List.filter_cons_of_pos (p := fun q : Str × Str => decide (q.2 = b)) (decide_eq_true e)]
    rfl
  · rw [if_neg e, List.filter_cons_of_neg (p := fun q : Str × Str => decide (q.2 = b)) (by rw [decide_eq_true_eq]; exact e)]
    rfl
inductive PqA (K : PySem.W.Frag) (H : Hp) (r : Addr) (qs : List (Str × Str)) : Prop
  | inl (h : PqT K H r qs)
  | inr (h : PqL K H r qs)
  | inm (h : ∃ as : List Addr, Sq K H r (as.map V.ref) ∧ as.length = qs.length ∧ ∀ (i : Nat) (a : Addr) (q : Str × Str), as[i]? = some a → qs[i]? = some q → Sq K H a [.str q.1, .str q.2])
def spPick (K : PySem.W.Frag) (g : Str → List (Str × Str) → List Str) : Sp := fun vs H Q _ => ∃ (r : Addr) (b : Str) (qs : List (Str × Str)), vs = [.ref r, .str b] ∧ PqA K H r qs ∧ qs.length ≤ 400 ∧
  ∀ (H' : Hp) (l : Addr), Same H H' → H l = none → H' l = some (.lst ((srt (g b qs)).map V.str)) → Q (.ref l) H'
theorem fn_false {P : Program} {w : World} {K : PySem.W.Frag} {mg : Str → Option Value} {base : Heap} {k : Nat} {f : Addr} {fd : FuncData} {ps : List Str} : FnOk P w K mg base CX0 k f fd ps (fun _ _ _ _ => False) := ⟨fun _ _ _ _ h => h.elim, fun _ _ _ _ _ _ _ _ _ _ _ _ _ h => h.elim⟩
end HF
/-! heaps and ties as data -/
namespace HF
open PySem PySem.Spec PyProof.Rows L2
theorem pos_at {x : Str} : ∀ {zs : List Str} {i : Nat}, zs.Nodup → zs[i]? = some x → pos x zs = i
  | z :: r, 0, _, h => by
    have e : z = x := Option.some.inj h
    unfold pos
    rw [if_pos e]
  | z :: r, i + 1, nd, h => by
    have h' : r[i]? = some x := h
    obtain ⟨n1, n2⟩ := List.nodup_cons.mp nd
    have e : z ≠ x := fun e => n1 (e ▸ List.mem_of_getElem? h')
    unfold pos
    rw [if_neg e, pos_at n2 h']
abbrev dRow (p : Addr × List Str) : PyData := .tuple (p.2.map PyData.str)
abbrev dTies (L : SL) : PyData := .tuple (L.map dRow)
theorem dp_rows {K : PySem.W.Frag} {zs : List Str} {H : Hp} : ∀ {L : SL}, Prs zs H L → DpAll K H (rf L) (L.map dRow)
  | [], _ => .nil
  | p :: r, h => .cons (.tup (.inl (.inl (h p List.mem_cons_self).1)) (dp_strs _)) (dp_rows fun q hq => h q (List.mem_cons_of_mem _ hq))
theorem Ties.dp {K : PySem.W.Frag} {zs : List Str} {H : Hp} {r : Addr} {L : SL} (h : Ties zs H r L) : Dp K H (.ref r) (dTies L) := .tup h.1.sq (dp_rows h.2.1)
theorem show_rows : ∀ L : SL, PyData.showableAll (L.map dRow) = true
  | [] => rfl
  | p :: r => by
    show (PyData.showableAll (p.2.map PyData.str) && PyData.showableAll (r.map dRow)) = true
    rw [show_strs, show_rows r]
    rfl
theorem nodict_rows : ∀ L : SL, PyData.hasDictAll (L.map dRow) = false
  | [] => rfl
  | p :: r => by
    show (PyData.hasDictAll (p.2.map PyData.str) || PyData.hasDictAll (r.map dRow)) = false
    rw [nodict_strs, nodict_rows r]
    rfl
theorem ints_rows (B : Nat) : ∀ L : SL, PyData.intsShortAll B (L.map dRow) = true
  | [] => rfl
  | p :: r => by
    show (PyData.intsShortAll B (p.2.map PyData.str) && PyData.intsShortAll B (r.map dRow)) = true
    rw [ints_strs, ints_rows B r]
    rfl
theorem depth_rows : ∀ L : SL, PyData.depthAll (L.map dRow) ≤ 1
  | [] => Nat.zero_le _
  | p :: r => by
    show max (PyData.depthAll (p.2.map PyData.str) + 1) (PyData.depthAll (r.map dRow)) ≤ 1
    rw [depth_strs]
    have := depth_rows r
    omega
theorem OkP.nm {zs : List Str} {p : Addr × List Str} (h : OkP zs p) (hn : ∀ z ∈ zs, Nm z) : ∀ z ∈ p.2, Nm z := by
  obtain ⟨x, y, e, hx, hy, _⟩ := h
  rw [e]
  intro z hz
  rcases List.mem_cons.mp hz with h1 | h1
  · rw [h1]; exact hn _ hx
  · rw [List.mem_singleton.mp h1]; exact hn _ hy
theorem lay_rows {zs : List Str} (hn : ∀ z ∈ zs, Nm z) : ∀ {L : SL}, (∀ p ∈ L, OkP zs p) → PyData.canLayAll0 (L.map dRow) = true
  | [], _ => rfl
  | p :: r, h => by
    show (PyData.canLayAll0 (p.2.map PyData.str) && PyData.canLayAll0 (r.map dRow)) = true
    rw [canLay_strs ((h p List.mem_cons_self).nm hn), lay_rows hn fun q hq => h q (List.mem_cons_of_mem _ hq)]
    rfl
theorem weight_rows {zs : List Str} (hn : ∀ z ∈ zs, Nm z) : ∀ {L : SL}, (∀ p ∈ L, OkP zs p) → PyData.weightAll (L.map dRow) ≤ 15 * L.length
  | [], _ => Nat.le_refl _
  | p :: r, h => by
    have ih := weight_rows hn (L := r) fun q hq => h q (List.mem_cons_of_mem _ hq)
    have h1 := weight_strs ((h p List.mem_cons_self).nm hn)
    obtain ⟨x, y, e, _⟩ := h p List.mem_cons_self
    have hl : p.2.length = 2 := by rw [e]; rfl
    show PyData.weightAll (p.2.map PyData.str) + 1 + PyData.weightAll (r.map dRow) ≤ 15 * (r.length + 1)
    omega
/-- [heap, ties] -/
abbrev dHT (xs : List Str) (L : SL) : PyData := .list [.tuple (xs.map PyData.str), dTies L]
theorem ht_show (xs : List Str) (L : SL) : (dHT xs L).showable = true := by
  show (PyData.showableAll (xs.map PyData.str) && (PyData.showableAll (L.map dRow) && true)) = true
  rw [show_strs, show_rows]
  rfl
theorem ht_nodict (xs : List Str) (L : SL) : (dHT xs L).hasDict = false := by
  show (PyData.hasDictAll (xs.map PyData.str) || (PyData.hasDictAll (L.map dRow) || false)) = false
  rw [nodict_strs, nodict_rows]
  rfl
theorem ht_depth (xs : List Str) (L : SL) : (dHT xs L).depth < 60 := by
  show max (PyData.depthAll (xs.map PyData.str) + 1) (max (PyData.depthAll (L.map dRow) + 1) 0) + 1 < 60
  rw [depth_strs]
  have := depth_rows L
  omega
theorem ht_fits {xs zs : List Str} {L : SL} (hx : ∀ z ∈ xs, Nm z) (hn : ∀ z ∈ zs, Nm z) (hL : ∀ p ∈ L, OkP zs p) (lx : xs.length ≤ 1000) (ly : L.length ≤ 1000) : (dHT xs L).shown.length ≤ sizeLine := by
  refine PyData.shown_fits (B := 13) (by decide) (by decide) (PyData.leavesShort_of_canLay0 13 _ ?_ ?_) ?_
  · show (PyData.canLayAll0 (xs.map PyData.str) && (PyData.canLayAll0 (L.map dRow) && true)) = true
    rw [canLay_strs hx, lay_rows hn hL]
    rfl
  · show (PyData.intsShortAll 13 (xs.map PyData.str) && (PyData.intsShortAll 13 (L.map dRow) && true)) = true
    rw [ints_strs, ints_rows]
    rfl
  · show PyData.weightAll (xs.map PyData.str) + 1 + (PyData.weightAll (L.map dRow) + 1 + 0) ≤ 2 ^ 20
    have h1 := weight_strs hx
    have h2 := weight_rows hn hL
    omega
/-! few pairs -/
theorem len_sub {α : Type} [BEq α] [LawfulBEq α] : ∀ {l m : List α}, l.Nodup → l ⊆ m → l.length ≤ m.length
  | [], _, _, _ => Nat.zero_le _
  | x :: r, m, nd, h => by
    obtain ⟨n1, n2⟩ := List.nodup_cons.mp nd
    have hx : x ∈ m := h List.mem_cons_self
    have ih := len_sub (m := m.erase x) n2 fun y hy => (List.mem_erase_of_ne (fun (e : y = x) => n1 (e ▸ hy))).mpr (h (List.mem_cons_of_mem _ hy))
    rw [List.length_erase_of_mem hx] at ih
    have := List.length_pos_of_mem hx
    rw [List.length_cons]
    omega
theorem sub_len {zs : List Str} {L : SL} (h : ∀ p ∈ L, OkP zs p) (nd : (L.map (·.2)).Nodup) : L.length ≤ zs.length * zs.length := by
  have hs : (L.map (·.2)) ⊆ (zs.flatMap fun x => zs.map fun y => [x, y]) := by
    intro a ha
    obtain ⟨p, hp, rfl⟩ := List.mem_map.mp ha
    obtain ⟨x, y, e, hx, hy, _⟩ := h p hp
    rw [e]
    exact List.mem_flatMap.mpr ⟨x, hx, List.mem_map.mpr ⟨y, hy, rfl⟩⟩
  have := len_sub nd hs
  rw [List.length_map] at this
  refine Nat.le_trans this ?_
  have hl : ∀ ys : List Str, (ys.flatMap fun x => zs.map fun y => [x, y]).length = ys.length * zs.length := by
    intro ys
    induction ys with
    | nil => simp
    | cons y r ih =>
      rw [List.flatMap_cons, List.length_append, ih, List.length_map, List.length_cons, Nat.succ_mul, Nat.add_comm]
  rw [hl]
  exact Nat.le_refl _
/-! lists for tuples -/
theorem nw_strs {H H' : Hp} : ∀ {zs : List Str} {vs : List V}, NwAll H H' vs (lsAll (zs.map PyData.str)) → vs = zs.map V.str
  | [], _, .nil => rfl
  | z :: r, _, .cons h t => by
    have e := nw_strs t
    have h1 : Nw H H' _ (PyData.str z) := h
    cases h1
    rw [e]
    rfl
theorem nw_rows {H H' : Hp} : ∀ {L : SL} {vs : List V}, NwAll H H' vs (lsAll (L.map dRow)) → ∃ as : List Addr, vs = as.map V.ref ∧ as.length = L.length ∧ ∀ (i : Nat) (a : Addr) (p : Addr × List Str), as[i]? = some a → L[i]? = some p → H' a = some (.lst (p.2.map V.str))
  | [], _, .nil => ⟨[], rfl, rfl, fun i a p h => by simp at h⟩
  | p :: r, _, .cons h t => by
    obtain ⟨as, e, hl, hat⟩ := nw_rows t
    have h1 : Nw H H' _ (PyData.list (lsAll (p.2.map PyData.str))) := h
    obtain ⟨n1, n2, n3⟩ := h1
    rename_i a xs n1 n2 n3
    have ex := nw_strs n3
    subst ex
    refine ⟨a :: as, by rw [e]; rfl, by rw [List.length_cons, List.length_cons, hl], fun i b q hb hq => ?_⟩
    cases i with
    | zero =>
      cases (show some a = some b from hb)
      cases (show some p = some q from hq)
      exact n2
    | succ i => exact hat i b q hb hq
theorem nw_pq {K : PySem.W.Frag} {zs : List Str} {H H' : Hp} {y : V} {L : SL} (h : Nw H H' y (lsD (dTies L))) (hL : ∀ p ∈ L, OkP zs p) : ∃ r, y = .ref r ∧ H r = none ∧ PqL K H' r (L.map prOf) := by
  have h1 : Nw H H' y (PyData.list (lsAll (L.map dRow))) := h
  cases h1 with
  | lst n1 n2 n3 =>
    obtain ⟨as, e, hl, hat⟩ := nw_rows n3
    subst e
    refine ⟨_, rfl, n1, as, .inl (.inl n2), by rw [hl, List.length_map], fun i a q e1 e2 => ?_⟩
    rw [List.getElem?_map] at e2
    obtain ⟨p, hp, rfl⟩ := Option.map_eq_some_iff.mp e2
    have g1 := hat i a p e1 hp
    obtain ⟨x, y, e, _⟩ := hL p (List.mem_of_getElem? hp)
    have ep : prOf p = (x, y) := by
      unfold prOf
      rw [e]
    rw [e] at g1
    rw [ep]
    exact .inl (.inl g1)
theorem PqL.same {K : PySem.W.Frag} {H H' : Hp} {r : Addr} {qs : List (Str × Str)} (h : PqL K H r qs) (sm : Same H H') : PqL K H' r qs := by
  obtain ⟨as, h1, h2, h3⟩ := h
  exact ⟨as, sm.seq h1, h2, fun i a q e1 e2 => sm.seq (h3 i a q e1 e2)⟩
theorem wide_strs : ∀ zs : List Str, wideAll (zs.map PyData.str) = 0
  | [] => rfl
  | z :: r => by
    show max 0 (wideAll (r.map PyData.str)) = 0
    rw [wide_strs r]
    rfl
theorem wide_rows {zs : List Str} : ∀ {L : SL}, (∀ p ∈ L, OkP zs p) → wideAll (L.map dRow) ≤ 2
  | [], _ => Nat.zero_le _
  | p :: r, h => by
    have ih := wide_rows (L := r) fun q hq => h q (List.mem_cons_of_mem _ hq)
    obtain ⟨x, y, e, _⟩ := h p List.mem_cons_self
    show max (max (p.2.map PyData.str).length (wideAll (p.2.map PyData.str))) (wideAll (r.map dRow)) ≤ 2
    rw [wide_strs, List.length_map, e]
    have : [x, y].length = 2 := rfl
    omega
/-- two lists of texts -/
abbrev dLL (xs ys : List Str) : PyData := .list [.list (xs.map PyData.str), .list (ys.map PyData.str)]
theorem ll_lay {xs ys : List Str} (hx : ∀ z ∈ xs, Nm z) (hy : ∀ z ∈ ys, Nm z) : (dLL xs ys).canLay0 = true := by
  show (PyData.canLayAll0 (xs.map PyData.str) && (PyData.canLayAll0 (ys.map PyData.str) && true)) = true
  rw [canLay_strs hx, canLay_strs hy]
  rfl
theorem ll_depth (xs ys : List Str) : (dLL xs ys).depth = 2 := by
  show max (PyData.depthAll (xs.map PyData.str) + 1) (max (PyData.depthAll (ys.map PyData.str) + 1) 0) + 1 = 2
  rw [depth_strs, depth_strs]
  rfl
theorem ll_wide {xs ys : List Str} (hx : xs.length ≤ 1000) (hy : ys.length ≤ 1000) : wide (dLL xs ys) ≤ 100000 := by
  show max 2 (max (max (xs.map PyData.str).length (wideAll (xs.map PyData.str))) (max (max (ys.map PyData.str).length (wideAll (ys.map PyData.str))) 0)) ≤ 100000
  rw [wide_strs, wide_strs, List.length_map, List.length_map]
  omega
theorem ties_depth (L : SL) : (dTies L).depth ≤ 2 := by
  show PyData.depthAll (L.map dRow) + 1 ≤ 2
  have := depth_rows L
  omega
theorem ties_wide {zs : List Str} {L : SL} (h : ∀ p ∈ L, OkP zs p) (hl : L.length ≤ 1000) : wide (dTies L) ≤ 100000 := by
  show max (L.map dRow).length (wideAll (L.map dRow)) ≤ 100000
  have := wide_rows h
  rw [List.length_map]
  omega
/-! who is picked -/
theorem snd_nm {zs : List Str} {L : SL} (h : ∀ p ∈ L, OkP zs p) (hn : ∀ z ∈ zs, Nm z) {b : Str} : ∀ z ∈ srt (sndOf b (L.map prOf)), Nm z := by
  intro z hz
  have h1 : z ∈ sndOf b (L.map prOf) := (srt_perm _).mem_iff.mp hz
  unfold sndOf at h1
  obtain ⟨q, hq, rfl⟩ := List.mem_map.mp h1
  obtain ⟨p, hp, rfl⟩ := List.mem_map.mp (List.mem_filter.mp hq).1
  obtain ⟨x, y, e, hx, hy, _⟩ := h p hp
  unfold prOf
  rw [e]
  exact hn _ hy
theorem fst_nm {zs : List Str} {L : SL} (h : ∀ p ∈ L, OkP zs p) (hn : ∀ z ∈ zs, Nm z) {b : Str} : ∀ z ∈ srt (fstOf b (L.map prOf)), Nm z := by
  intro z hz
  have h1 : z ∈ fstOf b (L.map prOf) := (srt_perm _).mem_iff.mp hz
  unfold fstOf at h1
  obtain ⟨q, hq, rfl⟩ := List.mem_map.mp h1
  obtain ⟨p, hp, rfl⟩ := List.mem_map.mp (List.mem_filter.mp hq).1
  obtain ⟨x, y, e, hx, hy, _⟩ := h p hp
  unfold prOf
  rw [e]
  exact hn _ hx
end HF
/-! goings: rules for tuples, what goings are, as functions of lists of texts -/
namespace HF
open PySem PySem.Spec PyProof.Rows L2
section
variable {X : Cx}
/-- a tuple written out, its object known -/
def tTupF (t : TA) : TE := fun σ H Q => t σ H fun xs H1 => xs.length ≤ sizeLine ∧ ∀ l ob, H1 l = none → ob.cls = .type "tuple" → ob.dict = none → Q (.ref l) (upd H1 l (.frz ob (.tup xs)))
theorem pe_tupF {es : List Expr} {x1 : Nat} {pos : Pos} {t : TA} (h : PA X es t) : PE X (.Tuple es x1 pos) (tTupF t) := by
  refine ⟨fun pins s σ H Q I hq => wpAny_Tuple_spliced (thn (h.run pos pins s σ H _ I hq) ?_)⟩
  rintro us s1 ⟨xs, H1, J, rel, z, q⟩
  refine ⟨by rw [← rel.length]; exact z, ?_⟩
  exact ⟨.ref s1.heap.objs.size, _, J.laid (t' := s1.toks) (o := .frz { cls := .type "tuple", data := .seq us.toArray } (.tup xs)) (fun b u e => Heap.get?_push_of_some _ e) (Nat.le_refl _) ⟨Heap.get?_push_size _ rfl, z, us, rel, ⟨_, Heap.get?_push_size _ rfl, rfl, _, rfl⟩⟩, rfl, q _ _ (J.hok.fresh (Nat.le_refl _)) rfl rfl⟩
/-- t + u, t not bare -/
def rCatF (K : PySem.W.Frag) : R2 := fun x y H Q => ∃ a b xs ys, x = .ref a ∧ y = .ref b ∧ SqT K H a xs ∧ SqT K H b ys ∧ xs ≠ [] ∧ xs.length + ys.length ≤ sizeLine ∧
  (ys = [] → Q (.ref a) H) ∧ (ys ≠ [] → ∀ l ob, H l = none → ob.cls = .type "tuple" → ob.dict = none → Q (.ref l) (upd H l (.frz ob (.tup (xs ++ ys)))))
theorem op_catF : OpR X (binaryOp .Add) (rCatF X.K) := by
  intro pins s σ H x y v u Q I rx ry hyp
  obtain ⟨a, b, xs, ys, rfl, rfl, ha, hb, hx, hz, q1, q2⟩ := hyp
  cases rx
  cases ry
  obtain ⟨its, r1, p1, _⟩ := I.tuple ha
  obtain ⟨its2, r2, p2, _⟩ := I.tuple hb
  refine HT.cat_tup p1 p2 (fun z => hx (r1.nil_iff.mp z)) (fun z => ⟨.ref a, H, I, rfl, q1 (r2.nil_iff.mp z)⟩) (fun z => ?_) (by rw [← r1.length, ← r2.length]; exact hz)
  exact ⟨.ref s.heap.objs.size, _, I.laid (t' := s.toks) (o := .frz { cls := .type "tuple", data := .seq (its ++ its2).toArray } (.tup (xs ++ ys))) (fun b ob q => Heap.get?_push_of_some _ q) (Nat.le_refl _) ⟨Heap.get?_push_size _ rfl, by rw [List.length_append]; exact hz, _, r1.append r2, IsTup.new _ _⟩, rfl, q2 (fun w => z (r2.nil_iff.mpr w)) _ _ (I.hok.fresh (Nat.le_refl _)) rfl rfl⟩
end
/-! ### places -/
theorem pos_le (x : Str) : ∀ zs : List Str, pos x zs ≤ zs.length
  | [] => Nat.le_refl _
  | z :: r => by
    unfold pos
    have := pos_le x r
    by_cases e : z = x
    · rw [if_pos e]; exact Nat.zero_le _
    · rw [if_neg e, List.length_cons]; omega
theorem pos_lt {x : Str} : ∀ {zs : List Str}, x ∈ zs → pos x zs < zs.length
  | z :: r, h => by
    unfold pos
    by_cases e : z = x
    · rw [if_pos e, List.length_cons]; omega
    · rw [if_neg e, List.length_cons]
      have := pos_lt ((List.mem_cons.mp h).resolve_left fun q => e q.symm)
      omega
theorem pos_out {x : Str} : ∀ {zs : List Str}, x ∉ zs → pos x zs = zs.length
  | [], _ => rfl
  | z :: r, h => by
    unfold pos
    rw [if_neg (fun (e : z = x) => h (e ▸ List.mem_cons_self)), pos_out fun q => h (List.mem_cons_of_mem _ q), List.length_cons]
theorem mem_take_pos {x : Str} : ∀ {zs : List Str} {n : Nat}, n ≤ zs.length → (x ∈ zs.take n ↔ pos x zs < n)
  | zs, 0, _ => by simp
  | [], n + 1, h => by simp at h
  | z :: r, n + 1, h => by
    rw [List.take_succ_cons, List.mem_cons]
    unfold pos
    by_cases e : z = x
    · rw [if_pos e]
      exact ⟨fun _ => Nat.zero_lt_succ _, fun _ => .inl e.symm⟩
    · rw [if_neg e]
      have := mem_take_pos (x := x) (zs := r) (n := n) (by rw [List.length_cons] at h; omega)
      constructor
      · rintro (q | q)
        · exact absurd q.symm e
        · have := this.mp q
          omega
      · intro q
        exact .inr (this.mpr (by omega))
/-! ### goings -/
def onTop (b : Str) (zs : List Str) : List Str := b :: zs.filter fun z => decide (z ≠ b)
def lets (qs : List (Str × Str)) (zs : List Str) (b : Str) : Bool := (sndOf b qs).all fun f => decide ((pos f zs : Int) < (pos b zs : Int))
def lefts (zs : List Str) (row : List Str) : List Str := row.foldl (fun z b => onTop b z) zs
def refAt (qs : List (Str × Str)) : List Str → List Str → Option Nat
  | _, [] => none
  | zs, b :: r => if lets qs zs b = true then (refAt qs (onTop b zs) r).map (· + 1) else some 0
theorem onTop_perm {b : Str} : ∀ {zs : List Str}, zs.Nodup → b ∈ zs → (onTop b zs).Perm zs
  | z :: r, nd, h => by
    obtain ⟨n1, n2⟩ := List.nodup_cons.mp nd
    unfold onTop
    by_cases e : z = b
    · subst e
      rw [List.filter_cons_of_neg (by simp)]
      have : r.filter (fun x => decide (x ≠ z)) = r := List.filter_eq_self.mpr fun x hx => decide_eq_true fun q => n1 (q ▸ hx)
      rw [this]
    · rw [List.filter_cons_of_pos (by simp [e])]
      have ih := onTop_perm n2 ((List.mem_cons.mp h).resolve_left fun q => e q.symm)
      exact (List.Perm.swap z b _).trans (ih.cons z)
theorem onTop_len {b : Str} {zs : List Str} (nd : zs.Nodup) (h : b ∈ zs) : (onTop b zs).length = zs.length := (onTop_perm nd h).length_eq
theorem lefts_perm : ∀ {row zs : List Str}, zs.Nodup → (∀ b ∈ row, b ∈ zs) → (lefts zs row).Perm zs
  | [], zs, _, _ => .refl _
  | b :: r, zs, nd, h => by
    have hp := onTop_perm nd (h b List.mem_cons_self)
    exact (lefts_perm (row := r) (hp.nodup_iff.mpr nd) fun x hx => hp.mem_iff.mpr (h x (List.mem_cons_of_mem _ hx))).trans hp
theorem lefts_app (zs a b : List Str) : lefts zs (a ++ b) = lefts (lefts zs a) b := List.foldl_append ..
theorem refAt_app (qs : List (Str × Str)) : ∀ (a zs b : List Str), refAt qs zs (a ++ b) = match refAt qs zs a with
    | some i => some i
    | none => (refAt qs (lefts zs a) b).map (· + a.length)
  | [], zs, b => by
    show refAt qs zs b = (refAt qs zs b).map (· + 0)
    simp
  | x :: a, zs, b => by
    show (if lets qs zs x = true then (refAt qs (onTop x zs) (a ++ b)).map (· + 1) else some 0) = _
    rw [refAt_app qs a (onTop x zs) b]
    show _ = match (if lets qs zs x = true then (refAt qs (onTop x zs) a).map (· + 1) else some 0) with
      | some i => some i
      | none => (refAt qs (lefts (onTop x zs) a) b).map (· + (a.length + 1))
    by_cases e : lets qs zs x = true
    · rw [if_pos e, if_pos e]
      cases refAt qs (onTop x zs) a with
      | some i => rfl
      | none =>
        show Option.map (· + 1) (Option.map (· + a.length) _) = _
        rw [Option.map_map]
        rfl
    · rw [if_neg e, if_neg e]
/-- the lowest may always go -/
theorem low_lets {qs : List (Str × Str)} {zs : List Str} (nd : zs.Nodup) (hq : ∀ q ∈ qs, q.2 ∈ zs ∧ q.1 ≠ q.2) (ne : zs ≠ []) : ∃ b ∈ zs, lets qs zs b = true := by
  refine ⟨zs.getLast ne, List.getLast_mem ne, ?_⟩
  have hl : zs[zs.length - 1]? = some (zs.getLast ne) := by
    rw [← List.getLast?_eq_getElem?]
    exact List.getLast?_eq_some_getLast ne
  have hp := pos_at nd hl
  unfold lets
  rw [List.all_eq_true]
  intro f hf
  unfold sndOf at hf
  obtain ⟨q, hq1, rfl⟩ := List.mem_map.mp hf
  obtain ⟨h1, h2⟩ := List.mem_filter.mp hq1
  have e1 : q.1 = zs.getLast ne := of_decide_eq_true h2
  have hne : pos q.2 zs ≠ pos (zs.getLast ne) zs := fun e => (hq q h1).2 (e1.trans (pos_inj (hq q h1).1 (List.getLast_mem ne) e).symm)
  have := pos_lt (hq q h1).1
  exact decide_eq_true (by omega)
/-! ### by last goings -/
def ded : List Str → List Str
  | [] => []
  | y :: r => y :: (ded r).filter fun x => decide (x ≠ y)
def dedG (acc ys : List Str) : List Str := ys.foldl (fun a y => if y ∈ a then a else a ++ [y]) acc
theorem dedG_eq : ∀ (ys acc : List Str), dedG acc ys = acc ++ (ded ys).filter fun x => decide (x ∉ acc)
  | [], acc => by simp [dedG, ded]
  | y :: r, acc => by
    show dedG (if y ∈ acc then acc else acc ++ [y]) r = _
    rw [dedG_eq r, show ded (y :: r) = y :: (ded r).filter (fun x => decide (x ≠ y)) from rfl]
    by_cases e : y ∈ acc
    · rw [if_pos e, List.filter_cons_of_neg (by simp [e]), List.filter_filter]
      congr 1
      refine List.filter_congr fun x _ => ?_
      by_cases h : x ∈ acc
      · simp [h]
      · have : x ≠ y := fun q => h (q ▸ e)
        simp [h, this]
    · rw [if_neg e, List.filter_cons_of_pos (by simp [e]), List.filter_filter, List.append_assoc]
      congr 1
      rw [List.singleton_append]
      congr 1
      refine List.filter_congr fun x _ => ?_
      by_cases h : x ∈ acc
      · simp [h]
      · by_cases h2 : x = y
        · simp [h2]
        · simp [h, h2]
theorem dedG_nil (ys : List Str) : dedG [] ys = ded ys := by
  rw [dedG_eq, List.nil_append]
  exact List.filter_eq_self.mpr fun x _ => by simp
theorem ded_mem {x : Str} : ∀ {ys : List Str}, x ∈ ded ys ↔ x ∈ ys
  | [] => Iff.rfl
  | y :: r => by
    show x ∈ y :: (ded r).filter (fun x => decide (x ≠ y)) ↔ _
    rw [List.mem_cons, List.mem_cons, List.mem_filter, ded_mem (ys := r)]
    by_cases e : x = y
    · simp [e]
    · simp [e]
def byLast (zs steps : List Str) : List Str := ded steps.reverse ++ zs.filter fun z => decide (z ∉ ded steps.reverse)
theorem byLast_eq {zs : List Str} : ∀ (n : Nat) (steps : List Str), steps.length = n → lefts zs steps = byLast zs steps
  | 0, steps, h => by
    have : steps = [] := List.length_eq_zero_iff.mp h
    subst this
    show zs = [] ++ zs.filter _
    rw [List.nil_append]
    exact (List.filter_eq_self.mpr fun x _ => by simp [ded]).symm
  | n + 1, steps, h => by
    obtain ⟨s, b, rfl⟩ : ∃ s b, steps = s ++ [b] := by
      have hne : steps ≠ [] := fun e => by rw [e] at h; simp at h
      exact ⟨steps.dropLast, steps.getLast hne, (List.dropLast_concat_getLast hne).symm⟩
    rw [List.length_append] at h
    have ih := byLast_eq (zs := zs) n s (by simpa using h)
    rw [lefts_app, ih]
    show onTop b (byLast zs s) = _
    unfold onTop byLast
    rw [List.reverse_append]
    show b :: List.filter _ (ded s.reverse ++ _) = (b :: (ded s.reverse).filter _) ++ _
    rw [List.filter_append, List.cons_append, List.filter_filter]
    congr 2
    refine List.filter_congr fun x _ => ?_
    show _ = decide (x ∉ b :: (ded s.reverse).filter _)
    by_cases e1 : x = b
    · simp [e1]
    · by_cases e2 : x ∈ ded s.reverse
      · simp [e1, e2]
      · simp [e1, e2]
theorem lefts_last (zs steps : List Str) : lefts zs steps = byLast zs steps := byLast_eq _ steps rfl
theorem last_again (zs steps : List Str) : lefts (byLast zs steps) steps = byLast zs steps := by
  rw [lefts_last]
  show ded steps.reverse ++ (ded steps.reverse ++ zs.filter fun z => decide (z ∉ ded steps.reverse)).filter _ = ded steps.reverse ++ _
  congr 1
  rw [List.filter_append, List.filter_filter]
  have : (ded steps.reverse).filter (fun z => decide (z ∉ ded steps.reverse)) = [] := List.filter_eq_nil_iff.mpr fun x hx => by simp [hx]
  rw [this, List.nil_append]
  refine List.filter_congr fun x _ => ?_
  simp
theorem ded_rise : ∀ R : List Str, (ded R).Pairwise fun x y => pos x R < pos y R
  | [] => .nil
  | y :: r => by
    refine List.Pairwise.cons (fun x hx => ?_) ?_
    · have hx2 : x ≠ y := of_decide_eq_true (List.mem_filter.mp hx).2
      unfold pos
      rw [if_pos rfl, if_neg hx2.symm]
      exact Nat.zero_lt_succ _
    · refine ((ded_rise r).filter _).imp_of_mem fun {u v} hu hv h => ?_
      have h1 : u ≠ y := of_decide_eq_true (List.mem_filter.mp hu).2
      have h2 : v ≠ y := of_decide_eq_true (List.mem_filter.mp hv).2
      unfold pos
      rw [if_neg h1.symm, if_neg h2.symm]
      exact Nat.succ_lt_succ h
theorem nodup_rise {zs : List Str} (nd : zs.Nodup) : zs.Pairwise fun x y => pos x zs < pos y zs := by
  rw [List.pairwise_iff_getElem]
  intro i j hi hj hij
  rw [pos_at nd (List.getElem?_eq_getElem hi), pos_at nd (List.getElem?_eq_getElem hj)]
  exact hij
/-- of each two the upper one went later, or neither went and it lay above -/
def Later (zs steps : List Str) (x y : Str) : Prop := pos x steps.reverse < pos y steps.reverse ∨ (pos x steps.reverse = steps.length ∧ pos y steps.reverse = steps.length ∧ pos x zs < pos y zs)
theorem last_rise {zs : List Str} (nd : zs.Nodup) (steps : List Str) : (byLast zs steps).Pairwise (Later zs steps) := by
  unfold byLast
  rw [List.pairwise_append]
  refine ⟨(ded_rise _).imp fun h => .inl h, ((nodup_rise nd).filter _).imp_of_mem fun {u v} hu hv h => .inr ⟨?_, ?_, h⟩, fun u hu v hv => .inl ?_⟩
  · have h1 : u ∉ ded steps.reverse := of_decide_eq_true (List.mem_filter.mp hu).2
    rw [pos_out fun q => h1 (ded_mem.mpr q), List.length_reverse]
  · have h1 : v ∉ ded steps.reverse := of_decide_eq_true (List.mem_filter.mp hv).2
    rw [pos_out fun q => h1 (ded_mem.mpr q), List.length_reverse]
  · have h1 : v ∉ ded steps.reverse := of_decide_eq_true (List.mem_filter.mp hv).2
    rw [pos_out (x := v) fun q => h1 (ded_mem.mpr q)]
    exact pos_lt (ded_mem.mp hu)
theorem pw_next {α : Type} {R : α → α → Prop} : ∀ {l : List α} {i : Nat} {x y : α}, l.Pairwise R → l[i]? = some x → l[i + 1]? = some y → R x y
  | a :: b :: r, 0, x, y, h, h1, h2 => by
    cases (show some a = some x from h1)
    cases (show some b = some y from h2)
    exact (List.pairwise_cons.mp h).1 _ List.mem_cons_self
  | a :: r, i + 1, x, y, h, h1, h2 => pw_next (List.pairwise_cons.mp h).2 (show r[i]? = some x from h1) (show r[i + 1]? = some y from h2)
end HF
/-! promises of the functions about goings -/
namespace HF
open PySem PySem.Spec PyProof.Rows L2
variable (K : PySem.W.Frag)
def spPk : Sp := fun vs H Q _ => ∃ (p a : Addr) (c : Int) (xs : List V), vs = [.ref p, .ref a] ∧ Bx H p c ∧ c < 2 ^ 39 ∧ SqL K H a xs ∧ a ≠ p ∧ 0 < xs.length ∧ xs.length ≤ 1000 ∧
  ∀ (i : Nat) (v : V) (c' : Int) (o : HO), xs[i]? = some v → c ≤ c' → c' ≤ c + 1 → Bx (upd H p o) p c' → Q v (upd H p o)
def spPickU (g : Str → List (Str × Str) → List Str) : Sp := fun vs H Q _ => ∃ (r : Addr) (b : Str) (qs : List (Str × Str)), vs = [.ref r, .str b] ∧ PqT K H r qs ∧ qs.length ≤ 400 ∧
  ∀ (H' : Hp) (l : Addr), Same H H' → H l = none → H' l = some (.lst ((g b qs).map V.str)) → Q (.ref l) H'
def spLet : Sp := fun vs H Q _ => ∃ (h r : Addr) (b : Str) (zs : List Str) (qs : List (Str × Str)), vs = [.ref h, .ref r, .str b] ∧ Hq K H h zs ∧ PqT K H r qs ∧ b ∈ zs ∧ (∀ q ∈ qs, q.2 ∈ zs) ∧ qs.length ≤ 400 ∧
  ∀ H' : Hp, Same H H' → Q (.bl (lets qs zs b)) H'
def spTop : Sp := fun vs H Q _ => ∃ (h : Addr) (b : Str) (zs : List Str), vs = [.ref h, .str b] ∧ Hq K H h zs ∧ zs.length ≤ 1000 ∧
  ∀ (H' : Hp) (t : Addr), Same H H' → H t = none → Tp H' t ((onTop b zs).map V.str) → Q (.ref t) H'
def spMay : Sp := fun vs H Q _ => ∃ (h r : Addr) (zs : List Str) (qs : List (Str × Str)), vs = [.ref h, .ref r] ∧ Hq K H h zs ∧ PqT K H r qs ∧ (∀ q ∈ qs, q.2 ∈ zs) ∧ zs.length ≤ 1000 ∧ qs.length ≤ 400 ∧
  ∀ (H' : Hp) (l : Addr), Same H H' → H l = none → H' l = some (.lst (((srt zs).filter (lets qs zs)).map V.str)) → Q (.ref l) H'
def spRun : Sp := fun vs H Q _ => ∃ (p h r : Addr) (n : Nat) (c : Int) (zs : List Str) (L : SL), vs = [.ref p, .ref h, .ref r, .int n] ∧ Bx H p c ∧ c < 2 ^ 38 ∧ n ≤ 1000 ∧ Tp H h (zs.map V.str) ∧ zs.Nodup ∧ zs ≠ [] ∧ zs.length ≤ 12 ∧ Ties zs H r L ∧
  ∀ (H' : Hp) (t l s : Addr) (steps : List Str) (c' : Int), Oth p H H' → H t = none → H l = none → H' t = some (.tup [.ref l, .ref s]) → H' l = some (.lst (steps.map V.str)) → Tp H' s ((lefts zs steps).map V.str) → steps.length = n → (∀ b ∈ steps, b ∈ zs) → refAt (L.map prOf) zs steps = none → Bx H' p c' → c ≤ c' → c' ≤ c + n → Q (.ref t) H'
/-- the program's -/
def spAbv : Sp := fun vs H Q _ => ∃ (h a : Addr) (b : Str) (zs fs : List Str), vs = [.ref h, .ref a, .str b] ∧ Hq K H h zs ∧ SqL K H a (fs.map V.str) ∧ b ∈ zs ∧ fs.length ≤ 400 ∧
  ∀ H' : Hp, Same H H' → Q (.bl (fs.all fun f => decide ((pos f zs : Int) < (pos b zs : Int)))) H'
def spLaid : Sp := fun vs H Q _ => ∃ (h r : Addr) (b : Str) (zs : List Str) (qs : List (Str × Str)), vs = [.ref h, .ref r, .str b] ∧ Hq K H h zs ∧ PqA K H r qs ∧ b ∈ zs ∧ lets qs zs b = true ∧ zs.length ≤ 1000 ∧ qs.length ≤ 400 ∧
  ∀ (H' : Hp) (t : Addr), Same H H' → H t = none → Tp H' t ((onTop b zs).map V.str) → Q (.ref t) H'
def spDone : Sp := fun vs H Q _ => ∃ (h r a : Addr) (zs row : List Str) (qs : List (Str × Str)), vs = [.ref h, .ref r, .ref a] ∧ Hq K H h zs ∧ PqA K H r qs ∧ SqL K H a (row.map V.str) ∧ zs.Nodup ∧ (∀ b ∈ row, b ∈ zs) ∧ refAt qs zs row = none ∧ zs.length ≤ 1000 ∧ qs.length ≤ 400 ∧
  ∀ (H' : Hp) (t : Addr), Same H H' → Tp H' t ((lefts zs row).map V.str) → Q (.ref t) H'
def optV : Option Nat → V
  | none => .non
  | some i => .int (i : Nat)
def spFr : Sp := fun vs H Q _ => ∃ (h r a : Addr) (zs row : List Str) (qs : List (Str × Str)), vs = [.ref h, .ref r, .ref a] ∧ Hq K H h zs ∧ PqA K H r qs ∧ SqL K H a (row.map V.str) ∧ zs.Nodup ∧ (∀ b ∈ row, b ∈ zs) ∧ zs.length ≤ 1000 ∧ qs.length ≤ 400 ∧
  ∀ H' : Hp, Same H H' → Q (optV (refAt qs zs row)) H'
def spLeft : Sp := fun vs H Q _ => ∃ (h a : Addr) (zs row : List Str), vs = [.ref h, .ref a] ∧ Hq K H h zs ∧ SqL K H a (row.map V.str) ∧ zs.Nodup ∧ (∀ b ∈ row, b ∈ zs) ∧ zs.length ≤ 1000 ∧
  ∀ (H' : Hp) (t : Addr), Same H H' → Tp H' t ((lefts zs row).map V.str) → Q (.ref t) H'
def spByLast : Sp := fun vs H Q _ => ∃ (h a : Addr) (zs steps : List Str), vs = [.ref h, .ref a] ∧ Tp H h (zs.map V.str) ∧ SqL K H a (steps.map V.str) ∧ zs.length ≤ 1000 ∧ steps.length ≤ 1000 ∧
  ∀ (H' : Hp) (t : Addr), Same H H' → H t = none → Tp H' t ((byLast zs steps).map V.str) → Q (.ref t) H'
def spLast : Sp := fun vs H Q _ => ∃ (a : Addr) (b : Str) (steps : List Str), vs = [.ref a, .str b] ∧ SqL K H a (steps.map V.str) ∧ steps.length ≤ 1000 ∧
  ∀ H' : Hp, Same H H' → Q (.int (pos b steps.reverse : Nat)) H'
variable {K}
theorem PqA.same {H H' : Hp} {r : Addr} {qs : List (Str × Str)} (h : PqA K H r qs) (sm : Same H H') : PqA K H' r qs := by
  rcases h with h | h | ⟨as, h1, h2, h3⟩
  · exact .inl (h.same sm)
  · exact .inr (h.same sm)
  · exact .inm ⟨as, h1.imp (sm.seq ·) (sameT sm ·), h2, fun i a q e f => (h3 i a q e f).imp (sm.seq ·) (sameT sm ·)⟩
theorem strs_flat : ∀ zs : List Str, (zs.map V.str).all flatV = true
  | [] => rfl
  | z :: r => strs_flat r
theorem lets_srt (qs : List (Str × Str)) (zs : List Str) (b : Str) : (srt (sndOf b qs)).all (fun f => decide ((pos f zs : Int) < (pos b zs : Int))) = lets qs zs b := by
  unfold lets
  rw [Bool.eq_iff_iff, List.all_eq_true, List.all_eq_true]
  exact ⟨fun h f hf => h f ((srt_perm _).mem_iff.mpr hf), fun h f hf => h f ((srt_perm _).mem_iff.mp hf)⟩
theorem refAt_none {qs : List (Str × Str)} {zs : List Str} {b : Str} {r : List Str} (h : refAt qs zs (b :: r) = none) : lets qs zs b = true ∧ refAt qs (onTop b zs) r = none := by
  unfold refAt at h
  by_cases e : lets qs zs b = true
  · rw [if_pos e] at h
    exact ⟨e, Option.map_eq_none_iff.mp h⟩
  · rw [if_neg e] at h
    exact nomatch h
theorem refAt_at {qs : List (Str × Str)} {b : Str} : ∀ {row zs : List Str} {i : Nat}, row[i]? = some b → refAt qs zs row = none → lets qs (lefts zs (row.take i)) b = true
  | x :: r, zs, 0, h, hn => by
    cases (show some x = some b from h)
    exact (refAt_none hn).1
  | x :: r, zs, i + 1, h, hn => refAt_at (row := r) (zs := onTop x zs) (show r[i]? = some b from h) (refAt_none hn).2
theorem lefts_snoc {zs : List Str} {b : Str} {row : List Str} {i : Nat} (h : row[i]? = some b) : lefts zs (row.take (i + 1)) = onTop b (lefts zs (row.take i)) := by
  rw [List.take_add_one, h, lefts_app]
  rfl
theorem refAt_step {qs : List (Str × Str)} {zs : List Str} {b : Str} {row : List Str} {i : Nat} (h : row[i]? = some b) (hn : refAt qs zs (row.take i) = none) (hl : lets qs (lefts zs (row.take i)) b = true) : refAt qs zs (row.take (i + 1)) = none := by
  rw [List.take_add_one, h, refAt_app, hn]
  show Option.map _ (refAt qs (lefts zs (row.take i)) [b]) = none
  rw [show refAt qs (lefts zs (row.take i)) [b] = none by
    unfold refAt
    rw [if_pos hl]
    rfl]
  rfl
theorem refAt_stop {qs : List (Str × Str)} {zs : List Str} {b : Str} {row : List Str} {i : Nat} (h : row[i]? = some b) (hn : refAt qs zs (row.take i) = none) (hl : ¬ lets qs (lefts zs (row.take i)) b = true) : refAt qs zs row = some i := by
  have e : row = row.take i ++ b :: row.drop (i + 1) := by
    have hlt := (List.getElem?_eq_some_iff.mp h).1
    have hb := (List.getElem?_eq_some_iff.mp h).2
    rw [← hb, List.getElem_cons_drop, List.take_append_drop]
  rw [e, refAt_app, hn]
  show Option.map _ (refAt qs (lefts zs (row.take i)) (b :: row.drop (i + 1))) = some i
  unfold refAt
  rw [if_neg hl]
  show some (0 + (row.take i).length) = some i
  rw [List.length_take]
  have := (List.getElem?_eq_some_iff.mp h).1
  congr 1
  omega
end HF
namespace HF
open PySem PySem.Spec PyProof.Rows L2
/-- name = {..: ..} on one line -/
theorem sw_dict {kx vx : Expr} {gs : List Comprehension} {sc2 : Scope} {pos py : Pos} {y : Str} {n : Nat} {ev : Env} (h1 : ev.scope.kind = .function) (h2 : ev.scope.names.lookup y = some .local) (h3 : (py.line == pos.line) = true)
    (h4 : (sc2.names.any fun (m, k) => m == y && (k == .local || k == .cell)) = false) : swapsWith (.DictComp kx vx gs sc2 pos) (some (.Name y py)) n ev = pure true := by
  have k1 : ev.kindOf y = some .local := h2
  have k2 : ev.blockKind = .function := by
    unfold Env.blockKind
    rw [h1]
    rfl
  unfold swapsWith
  simp only [k2, k1, h4, Expr.pos, h3]
  rfl
theorem ps_setDc {X : Cx} {i : Nat} {y : Str} {py : Pos} {kx vx tg over : Expr} {cs : List Expr} {sc2 : Scope} {own : List (Str × Nat)} {pos sp2 : Pos} {wi : TI} {g : TG} {tt : TT} {tk tv : TE} (calm : X.calm = true) (nd : X.N.Nodup) (hy : X.N[i]? = some y) (loc : X.env.scope.names.lookup y = some .local)
    (sw : swapsWith (.DictComp kx vx [⟨tg, over, cs, 0⟩] sc2 pos) (some (.Name y py)) sp2.line X.env = pure true) (hi : PI X tg over wi) (ok : BlkOk X.N X.env.scope sc2 own)
    (pg : ∀ (s : Shared) (H : Hp) (C : Addr) (cl : List (Str × Addr)) (fp : List Addr), PG (X.blk s H sc2 (compEnvC sc2 cl C X.env) fp) tg g) (pt : ∀ (s : Shared) (H : Hp) (C : Addr) (cl : List (Str × Addr)) (fp : List Addr), PTs (X.blk s H sc2 (compEnvC sc2 cl C X.env) fp) cs tt)
    (pk : ∀ (s : Shared) (H : Hp) (C : Addr) (cl : List (Str × Addr)) (fp : List Addr), PE (X.blk s H sc2 (compEnvC sc2 cl C X.env) fp) kx tk)
    (pv' : ∀ (s : Shared) (H : Hp) (C : Addr) (cl : List (Str × Addr)) (fp : List Addr), PE (X.blk s H sc2 (compEnvC sc2 cl C X.env) fp) vx tv) (fold : ∀ x, foldedSetIterable over X.env x = pure x := by intro _; rfl) :
    PS X (.Assign [.Name y py] (.DictComp kx vx [⟨tg, over, cs, 0⟩] sc2 pos) sp2) (tAsg (tDc wi g tt tk tv (own.map (·.2))) (gName i)) := by
  refine ⟨fun pins st σ H D I hyp => ?_⟩
  rw [exec_Assign_Name_used _ _ _ _ sw]
  refine wpAny_bind (wpAny_standAt (wpAny_bind ?_))
  show wpAny _ X.A (do let _ ← comprehension (.DictComp kx vx [⟨tg, over, cs, 0⟩] sc2 pos) sc2 X.env (firstIterPos [⟨tg, over, cs, 0⟩] pos) newDict false (eval over X.env) (some (assign (.Name y py) X.env))) _ _ st
  have hyp2 : tDc wi g tt tk tv (own.map (·.2)) σ H (fun x H1 => gName i x σ H1 D.nx) := hyp
  refine wpAny_bind (thn (dc_core (Qf := fun _ s' => SP X pins D .next s') calm nd I hi ok pg pt pk pv' fold hyp2 ?_) fun _ s' hq => wpAny_pure (wpAny_pure hq))
  intro L C s' m H' I' q ns fr
  show wpAny _ _ (assign (.Name y py) X.env (.ref L)) _ _ _
  refine wpAny_assign_Name (store_ok2 (v := V.ref L) I' nd hy (.inl loc) rfl (fun s2 J ⟨a, sb, ha⟩ => ?_) (.inr loc))
  obtain ⟨g0, g1, g2, g3, g4, g5⟩ := fr
  have hCa : C ≠ a := ha.elim (fun z => z ▸ g1) fun z e => g4 y a z e.symm
  exact ⟨m, ns.sameBut sb hCa, fun h3 sb3 => ⟨_, H', J.turned (t' := s2.toks) (fun b o hb e => (sb3.2 b hb).trans e) g0 g1 g3 g4 g5, q⟩⟩
/-- a dict comprehension over anything that is walked -/
theorem dc_it {J : It} {n : Nat} {G : Hp → Prop} {Y : Nat → Hp → V → Hp → Prop} (wk : Walk J n G Y) {g : TG} {tt : TT} {tk tv : TE} {is : List Nat} {σ : L2.St} {G1 : Hp} {D : Addr} {Qd : Hp → Prop} (Pv : Nat → Hp → Prop) (h0 : Pv 0 (upd G1 D (.dK []))) (hG : ∀ i H, i ≤ n → Pv i H → G H)
    (hs : ∀ i x H H', i < n → Pv i H → Y i H x H' → g x (wipe σ is) H' fun τ H2 => wipe τ is = wipe σ is ∧ tt τ H2 fun yes H3 =>
      if yes = true then tk τ H3 fun y H4 => tv τ H4 fun z H5 => ∃ es k, y = kV k ∧ H5 D = some (.dK es) ∧ es.length < sizeLine ∧ Pv (i + 1) (upd H5 D (.dK (putK es k z))) else Pv (i + 1) H3) (hd : ∀ H, Pv n H → Qd H) :
    ∃ W : Nat → Nat → Hp → Prop, (∃ m, W 0 m (upd G1 D (.dK []))) ∧ ∀ i m H, W i m H →
      (J.stop i H ∧ Qd H) ∨ (J.go i H ∧ ∃ Nx : Hp → Prop, (∀ H', Nx H' → ∃ m', m' < m ∧ W (i + 1) m' H') ∧ ∀ x H', J.yld i H x H' → g x (wipe σ is) H' fun τ H2 => wipe τ is = wipe σ is ∧ tt τ H2 fun yes H3 =>
        if yes = true then tk τ H3 fun y H4 => tv τ H4 fun z H5 => ∃ es k, y = kV k ∧ H5 D = some (.dK es) ∧ es.length < sizeLine ∧ Nx (upd H5 D (.dK (putK es k z))) else Nx H3) := by
  refine ⟨fun i m H => m = n - i ∧ i ≤ n ∧ Pv i H, ⟨n, (Nat.sub_zero n).symm, Nat.zero_le _, h0⟩, ?_⟩
  intro i m H hW
  obtain ⟨rfl, hi, p⟩ := hW
  have gd := hG i H hi p
  rcases Nat.lt_or_ge i n with hlt | hge
  · refine .inr ⟨wk.goes i H hlt gd, Pv (i + 1), ?_, ?_⟩
    · intro H' p'
      exact ⟨n - (i + 1), by omega, rfl, hlt, p'⟩
    · intro x H' y
      exact hs i x H H' hlt p (wk.yields i H x H' hlt gd y)
  · obtain rfl : i = n := Nat.le_antisymm hi hge
    exact .inl ⟨wk.stops H gd, hd H p⟩
theorem u1 {n : Nat} (h : n + 64 < cLine) : n + 1 < cLine := by omega
theorem keys_at {g : Str → V} : ∀ {xs : List Str} {b : Str}, b ∈ xs → valV (xs.map fun x => ((Sum.inr x : Key), g x)) (Sum.inr b) = some (g b)
  | x :: r, b, h => by
    by_cases e : x = b
    · subst e
      exact valV_pos rfl
    · rw [List.map_cons, valV_neg (fun z => e (Sum.inr.inj z))]
      exact keys_at ((List.mem_cons.mp h).resolve_left fun z => e z.symm)
theorem keys_out {g : Str → V} : ∀ {xs : List Str} {b : Str}, b ∉ xs → valV (xs.map fun x => ((Sum.inr x : Key), g x)) (Sum.inr b) = none
  | [], b, _ => rfl
  | x :: r, b, h => by
    have hne : ¬ ((Sum.inr x : Key) = Sum.inr b) := fun z => h (Sum.inr.inj z ▸ List.mem_cons_self)
    rw [List.map_cons, valV_neg hne]
    exact keys_out fun z => h (List.mem_cons_of_mem _ z)
/-- a dict of lists of texts by texts -/
def DSL (H : Hp) (D : Addr) (xs : List Str) (val : Str → List Str) : Prop := ∃ af : Str → Addr, H D = some (.dK (xs.map fun x => ((Sum.inr x : Key), V.ref (af x)))) ∧ ∀ x ∈ xs, H (af x) = some (.lst ((val x).map V.str))
theorem DSL.same {H H' : Hp} {D : Addr} {xs : List Str} {val : Str → List Str} (h : DSL H D xs val) (sm : Same H H') : DSL H' D xs val := by
  obtain ⟨af, h1, h2⟩ := h
  exact ⟨af, sm _ _ h1, fun x hx => sm _ _ (h2 x hx)⟩
theorem DSL.put {H : Hp} {D l : Addr} {xs : List Str} {val : Str → List Str} {b : Str} (h : DSL H D xs val) (hl : H l = some (.lst ((val b).map V.str))) (nb : b ∉ xs) : ∃ kvs, H D = some (.dK kvs) ∧ kvs.length = xs.length ∧ DSL (upd H D (.dK (putK kvs (Sum.inr b) (.ref l)))) D (xs ++ [b]) val := by
  obtain ⟨af, h1, h2⟩ := h
  refine ⟨_, h1, List.length_map .., fun y => if y = b then l else af y, ?_, fun x hx => ?_⟩
  · rw [upd_same, putK_new _ (keys_out nb), List.map_append]
    congr 3
    · refine List.map_congr_left fun x hx => ?_
      show _ = ((Sum.inr x : Key), V.ref (if x = b then l else af x))
      rw [if_neg fun (e : x = b) => nb (e ▸ hx)]
    · show [(Sum.inr b, V.ref l)] = [(Sum.inr b, V.ref (if b = b then l else af b))]
      rw [if_pos rfl]
  · have hne : ∀ {q : Addr} {ys : List V}, H q = some (.lst ys) → q ≠ D := fun hq e => by
      rw [e, h1] at hq
      exact nomatch hq
    by_cases e : x = b
    · show (upd H D _) (if x = b then l else af x) = _
      rw [if_pos e, upd_ne (hne hl), e]
      exact hl
    · have hx' : x ∈ xs := by
        rcases List.mem_append.mp hx with q | q
        · exact q
        · exact absurd (List.mem_singleton.mp q) e
      show (upd H D _) (if x = b then l else af x) = _
      rw [if_neg e, upd_ne (hne (h2 x hx'))]
      exact h2 x hx'
theorem DSL.get {H : Hp} {D : Addr} {xs : List Str} {val : Str → List Str} {b : Str} (h : DSL H D xs val) (hb : b ∈ xs) : ∃ l, DGet H D (.str b) (some (.ref l)) ∧ H l = some (.lst ((val b).map V.str)) := by
  obtain ⟨af, h1, h2⟩ := h
  refine ⟨af b, ?_, h2 b hb⟩
  have e := DGet.k (k := (Sum.inr b : Key)) h1
  rw [keys_at hb] at e
  exact e
theorem Ties.closed {zs : List Str} {H : Hp} {r : Addr} {L : SL} (h : Ties zs H r L) : ∀ q ∈ L.map prOf, q.2 ∈ zs ∧ q.1 ≠ q.2 ∧ q.1 ∈ zs := by
  intro q hq
  obtain ⟨p, hp, rfl⟩ := List.mem_map.mp hq
  obtain ⟨_, x, y, e, hx, hy, ne⟩ := h.2.1 p hp
  unfold prOf
  rw [e]
  exact ⟨hy, ne, hx⟩
theorem Ties.few {zs : List Str} {H : Hp} {r : Addr} {L : SL} (h : Ties zs H r L) (hz : zs.length ≤ 12) : (L.map prOf).length ≤ 144 := by
  rw [List.length_map]
  exact Nat.le_trans (sub_len (fun p hp => (h.2.1 p hp).2) h.2.2.1) (Nat.mul_le_mul hz hz)
theorem may_some {qs : List (Str × Str)} {zs : List Str} (nd : zs.Nodup) (hq : ∀ q ∈ qs, q.2 ∈ zs ∧ q.1 ≠ q.2) (ne : zs ≠ []) : 0 < ((srt zs).filter (lets qs zs)).length := by
  obtain ⟨b, hb, hl⟩ := low_lets nd hq ne
  exact List.length_pos_of_mem (List.mem_filter.mpr ⟨(srt_perm zs).mem_iff.mpr hb, hl⟩)
end HF
/-! {(a, b): v for ..}: dicts by tuples of texts -/
namespace HF
open PySem PySem.Spec PyProof.Rows L2
section
variable {X : Cx}
/-- a comprehension's own storing, the key a tuple -/
theorem d_dictSetT {pins : List (Addr × Obj)} {σ : L2.St} {H : Hp} {st : Shared} {E : Value → Shared → Prop} {D b : Addr} {es : List (List Key × V)} {k : List Key} {v : V} {r : Value} {Q : Unit → Shared → Prop} (hu : X.A.units + 1 < cLine) (I : Inv X pins σ H st)
    (hD : H D = some (.dT es)) (few : es.length < sizeLine) (hb : H b = some (.tup (k.map kV))) (rv : RelV v r) (q : ∀ s', Inv X pins σ (upd H D (.dT (putK es k v))) s' → Q () s') : wpAny (model X.prog X.w) X.A (dictSet D (.ref b) r) Q E st := by
  obtain ⟨z, low, xs, rel, dd⟩ := dt_of I.hok hD
  have hz : xs.length ≤ sizeLine := by
    rw [← Paired.length rel]
    exact z
  have hl : (putK es k v).length ≤ sizeLine := Nat.le_trans (length_putK es k v) few
  refine wpAny_dictSet_heap (hsz := hz) (show X.A.units < cLine by omega) (key_of I.hok hb) dd fun h' dd' same => q _ ?_
  obtain ⟨o, e1, e2, g1, g2, g3, g4, g5, g6⟩ := dd'
  have old : ∀ c ys, H c = some (.tup ys) → upd H D (.dT (putK es k v)) c = some (.tup ys) := fun c ys ec => by
    rw [upd_ne (ne_of ec hD (fun z => nomatch z))]
    exact ec
  exact d_write I (by rw [hD]; exact True.intro) same ⟨o, g1⟩ ⟨hl, low, _, (rel.put k hb rv).keeps old, o, e1, e2, g1, g2, g3, g4, g6⟩
/-- the reading: D the new dict, keys tuples of texts and ints -/
def tDcT (wi : TI) (g : TG) (tt : TT) (tk tv : TE) (is : List Nat) : TE := fun σ H Q => wi σ H fun J G => ∀ D, G D = none → ∃ W : Nat → Nat → Hp → Prop, (∃ m, W 0 m (upd G D (.dT []))) ∧ ∀ i m H, W i m H →
  (J.stop i H ∧ Q (.ref D) H) ∨ (J.go i H ∧ ∃ Nx : Hp → Prop, (∀ H', Nx H' → ∃ m', m' < m ∧ W (i + 1) m' H') ∧ ∀ x H', J.yld i H x H' → g x (wipe σ is) H' fun τ H2 => wipe τ is = wipe σ is ∧ tt τ H2 fun yes H3 =>
    if yes = true then tk τ H3 fun y H4 => tv τ H4 fun z H5 => ∃ es k b, y = .ref b ∧ H5 b = some (.tup (k.map kV)) ∧ H5 D = some (.dT es) ∧ es.length < sizeLine ∧ Nx (upd H5 D (.dT (putK es k z))) else Nx H3)
theorem dcT_core {pins : List (Addr × Obj)} {st : Shared} {σ : L2.St} {H : Hp} {Q : VK} {kx vx tg over : Expr} {cs : List Expr} {sc2 : Scope} {own : List (Str × Nat)} {pos pos2 : Pos} {wi : TI} {g : TG} {tt : TT} {tk tv : TE} {use : Option (Value → Sem Unit)} {Qf : Value → Shared → Prop}
    (hu : X.A.units + 1 < cLine) (calm : X.calm = true) (nd : X.N.Nodup) (I : Inv X pins σ H st) (hi : PI X tg over wi) (ok : BlkOk X.N X.env.scope sc2 own)
    (pg : ∀ (s : Shared) (H : Hp) (C : Addr) (cl : List (Str × Addr)) (fp : List Addr), PG (X.blk s H sc2 (compEnvC sc2 cl C X.env) fp) tg g) (pt : ∀ (s : Shared) (H : Hp) (C : Addr) (cl : List (Str × Addr)) (fp : List Addr), PTs (X.blk s H sc2 (compEnvC sc2 cl C X.env) fp) cs tt)
    (pk : ∀ (s : Shared) (H : Hp) (C : Addr) (cl : List (Str × Addr)) (fp : List Addr), PE (X.blk s H sc2 (compEnvC sc2 cl C X.env) fp) kx tk)
    (pw : ∀ (s : Shared) (H : Hp) (C : Addr) (cl : List (Str × Addr)) (fp : List Addr), PE (X.blk s H sc2 (compEnvC sc2 cl C X.env) fp) vx tv) (fold : ∀ x, foldedSetIterable over X.env x = pure x)
    (hyp : tDcT wi g tt tk tv (own.map (·.2)) σ H Q)
    (back : ∀ D C s' m H', Inv X pins σ H' s' → Q (.ref D) H' → s'.heap.Ns C m → FpOk X pins H' C → compPost (model X.prog X.w) X.A X.xe use Qf (.ref D) C (.ok .next) s') :
    wpAny (model X.prog X.w) X.A (comprehension (.DictComp kx vx [⟨tg, over, cs, 0⟩] sc2 pos) sc2 X.env pos2 newDict false (eval over X.env) use) Qf X.xe st := by
  have cells : ∀ y ∈ sc2.names, y.2 = .free → ∃ c, X.env.cells.lookup y.1 = some c := fun y hy e => (ok.free y hy e).elim (fun z => I.ok.has _ (.inl z)) fun z => I.ok.has _ (.inr z)
  refine wpAny_comprehension_free (use := use) rfl fold (closure_ok cells) ok.kind (fun y hy e => by rw [ok.uniq y hy, e]) (thn (hi.run pins st σ H _ I hyp) ?_)
  intro xv sA hA
  refine thn hA ?_
  rintro itv sB ⟨it, fp, tn, J, HB, rfl, IB, TW, stB, fpB, qB⟩
  refine wpAny_newObj_type (newEnv_comp ?_)
  obtain ⟨D, eD⟩ : ∃ D, D = sB.heap.objs.size := ⟨_, rfl⟩
  have freeD : HB D = none := IB.hok.fresh (Nat.le_of_eq eD.symm)
  obtain ⟨W, ⟨m0, wStart⟩, turns⟩ := qB D freeD
  obtain ⟨sC, eC⟩ : ∃ sC : Shared, sC = { sB with heap := sB.heap.push { cls := .type "dict", data := .dict #[] } } := ⟨_, rfl⟩
  have hC : sC.heap = sB.heap.push { cls := .type "dict", data := .dict #[] } := by rw [eC]
  have IC : Inv X pins σ (upd HB D (.dT [])) sC := by
    rw [eC, eD]
    exact IB.laid (t' := sB.toks) (fun b o e => Heap.get?_push_of_some _ e) (Nat.le_refl _) (dt_empty sB.heap IB.big)
  have below : ∀ b ∈ fp, b < sB.heap.objs.size := fun b hb => (TW.obj _ _ stB b hb).elim fun o z => Heap.lt_size z.1
  have fpC : ∀ b ∈ fp, FpOk X pins (upd HB D (.dT [])) b ∧ b < sC.heap.objs.size := fun b hb => by
    refine ⟨⟨?_, (fpB b hb).2⟩, ?_⟩
    · rw [upd_ne (by rw [eD]; exact Nat.ne_of_lt (below b hb))]
      exact (fpB b hb).1
    · rw [hC, Heap.size_push]
      exact Nat.lt_succ_of_lt (below b hb)
  have stC : tn 0 sC.heap := TW.keep _ _ _ stB fun b _ o e => by
    rw [hC]
    exact Heap.get?_push_of_some _ e
  have IS := block_start IC ok nd fpC
  have pg1 := pg sC (upd HB D (.dT [])) sC.heap.objs.size (cellsFrom (sC.heap.objs.size + 1) sc2.names (cloFrom X.env.cells sc2.names [])) fp
  have pt1 := pt sC (upd HB D (.dT [])) sC.heap.objs.size (cellsFrom (sC.heap.objs.size + 1) sc2.names (cloFrom X.env.cells sc2.names [])) fp
  have pk1 := pk sC (upd HB D (.dT [])) sC.heap.objs.size (cellsFrom (sC.heap.objs.size + 1) sc2.names (cloFrom X.env.cells sc2.names [])) fp
  have pw1 := pw sC (upd HB D (.dT [])) sC.heap.objs.size (cellsFrom (sC.heap.objs.size + 1) sc2.names (cloFrom X.env.cells sc2.names [])) fp
  rw [← eC, ← eD]
  show codeAny _ _ (.compStart (.DictComp kx vx [⟨tg, over, cs, 0⟩] sc2 pos) 0 (.ref it) (.ref D) (compEnvC sc2 (cellsFrom (sC.heap.objs.size + 1) sc2.names (cloFrom X.env.cells sc2.names [])) sC.heap.objs.size X.env)) (compPost (model X.prog X.w) X.A X.xe use Qf (.ref D) sC.heap.objs.size) { sC with heap := pushCells (sC.heap.push { cls := .type "dict", data := .dict #[] }) sc2.names }
  have bare : ∀ b ∈ fp, (upd HB D (.dT [])) b = none := fun b hb => (fpC b hb).1.1
  generalize hce : compEnvC sc2 (cellsFrom (sC.heap.objs.size + 1) sc2.names (cloFrom X.env.cells sc2.names [])) sC.heap.objs.size X.env = ce at IS pg1 pt1 pk1 pw1 ⊢
  have locC : ce.locals = sC.heap.objs.size := by
    rw [← hce]
    rfl
  generalize upd HB D (.dT []) = HC at IC IS pg1 pt1 pk1 pw1 wStart bare fpC
  generalize hsS : ({ sC with heap := pushCells (sC.heap.push { cls := .type "dict", data := .dict #[] }) sc2.names } : Shared) = sS at IS ⊢
  have stS : tn 0 sS.heap := TW.keep _ _ _ stC fun b _ o e => by
    rw [← hsS]
    exact pushCells_keeps _ _ _ _ (Heap.get?_push_of_some _ e)
  have fine : ∀ {τ : L2.St} {G : Hp} {u : Shared}, Inv (X.blk sC HC sc2 ce fp) [] τ G u → (∀ b ∈ fp, G b = none) → ∀ b ∈ fp, FpOk (X.blk sC HC sc2 ce fp) [] G b := by
    intro τ G u J' hn b hb
    refine ⟨hn b hb, (J'.ok.exf b hb).1, J'.ok.exfs b hb, .inl hb, fun x c e => (J'.ok.exf b hb).2 x c e, fun p hp => ?_⟩
    exact absurd (show p ∈ ([] : List (Addr × Obj)) ++ [] from hp) (by simp)
  have loop : codeAny (model X.prog X.w) X.A (.compLoop (.DictComp kx vx [⟨tg, over, cs, 0⟩] sc2 pos) 0 (.ref it) (.ref D) ce) (compPost (model X.prog X.w) X.A X.xe use Qf (.ref D) sC.heap.objs.size) sS := by
    refine compLoop_anyD (fun n u => ∃ i G, Inv (X.blk sC HC sc2 ce fp) [] (wipe σ (own.map (·.2))) G u ∧ tn i u.heap ∧ (∀ b ∈ fp, G b = none) ∧ W i n G) ?_ m0 ⟨0, HC, IS, stS, bare, wStart⟩
    rintro n u5 ⟨i, G5, J5, tn5, bare5, w5⟩
    rcases turns i n G5 w5 with ⟨stop, fin⟩ | ⟨go, Nx, less, step⟩
    · refine thnF (TW.done (X.blk sC HC sc2 ce fp) rfl rfl rfl calm i [] u5 _ G5 (fun _ _ => False) J5 (fine J5 bare5) tn5 stop) ?_
      rintro r u6 ⟨rfl, J6⟩
      have J7 : Inv X pins σ G5 u6 := IC.call' (ch := fp) J6.os J6.base J6.hok J6.bare fun b hb => ⟨(fpC b hb).1.2.2.2.1, (fpC b hb).1.2.1, (fpC b hb).1.2.2.2.2.1, (fpC b hb).1.2.2.2.2.2⟩
      have bareC : G5 sC.heap.objs.size = none := by
        have z : G5 ce.locals = none := J6.free
        rwa [locC] at z
      obtain ⟨m, ns, _⟩ := J6.loc
      have ns2 : u6.heap.Ns ce.locals m := ns
      rw [locC] at ns2
      exact back D sC.heap.objs.size u6 m G5 J7 fin ns2 (IC.fpOk (Nat.le_refl _) bareC)
    · refine thnF (TW.item (X.blk sC HC sc2 ce fp) rfl rfl rfl calm i [] u5 _ G5 (fun _ _ => False) J5 (fine J5 bare5) tn5 go) ?_
      rintro r u6 ⟨v, rfl, h6⟩
      refine thnF h6 ?_
      rintro _ u7 ⟨x, G7, J7, rel7, yl7, tn7, bare7⟩
      refine thnF (pg1.run _ u7 _ G7 x v _ (J7.pinned (fine J7 bare7) (TW.obj _ _ tn7)) rel7 (step x G7 yl7)) ?_
      rintro _ u8 ⟨σ8, G8, J8, wp8, q8⟩
      refine thnF (pt1.run _ u8 σ8 G8 _ J8 q8) ?_
      rintro yes u9 ⟨G9, J9, q9⟩
      have ends : ∀ {u : Shared} {G : Hp}, Inv (X.blk sC HC sc2 ce fp) ([] ++ pinsAt fp u7.heap) σ8 G u → Nx G → ∃ m, m < n ∧ ∃ i G, Inv (X.blk sC HC sc2 ce fp) [] (wipe σ (own.map (·.2))) G u ∧ tn i u.heap ∧ (∀ b ∈ fp, G b = none) ∧ W i m G := by
        intro u G J' nx
        obtain ⟨m2, lt2, w2⟩ := less G nx
        have still : ∀ b ∈ fp, ∀ o, u7.heap.get? b = some o → u.heap.get? b = some o ∧ G b = none := fun b hb o e => by
          have z := J'.pin (b, o) (List.mem_append_right _ (List.mem_append_right _ (mem_pinsAt hb e)))
          exact ⟨z.1, z.2.1⟩
        have len8 : (wipe σ (own.map (·.2))).length = σ8.length := by rw [← wp8, wipe_length]
        refine ⟨m2, lt2, i + 1, G, (J'.unpinned (pins := [])).weak len8 (fun j v e => ?_), TW.keep _ _ _ tn7 fun b hb o e => (still b hb o e).1, fun b hb => ?_, w2⟩
        · rw [← wp8] at e
          exact (wipe_some e).1
        · obtain ⟨o, e, _⟩ := TW.obj _ _ tn7 b hb
          exact (still b hb o e).2
      cases yes with
      | false =>
        simp only [Bool.false_eq_true, if_false] at q9 ⊢
        exact ends J9 q9
      | true =>
        simp only [if_true] at q9 ⊢
        refine thnF (pk1.run _ u9 σ8 G9 _ J9 q9) ?_
        rintro kv u10 ⟨yk, G10, J10, rel10, q10⟩
        refine thnF (pw1.run _ u10 σ8 G10 _ J10 q10) ?_
        rintro vv u11 ⟨yv, G11, J11, rel11, es, k, b, rfl, hb, hD, few, nx⟩
        cases (show kv = Value.ref b from rel10)
        exact d_dictSetT (X := X.blk sC HC sc2 ce fp) hu J11 hD few hb rel11 fun u12 J12 => ends J12 nx
  exact codeAny_compStart_dict loop (TW.self X.A 0 _ _ _ stS loop)
theorem ps_setDcT {i : Nat} {y : Str} {py : Pos} {kx vx tg over : Expr} {cs : List Expr} {sc2 : Scope} {own : List (Str × Nat)} {pos sp2 : Pos} {wi : TI} {g : TG} {tt : TT} {tk tv : TE} (hu : X.A.units + 1 < cLine) (calm : X.calm = true) (nd : X.N.Nodup) (hy : X.N[i]? = some y) (loc : X.env.scope.names.lookup y = some .local)
    (sw : swapsWith (.DictComp kx vx [⟨tg, over, cs, 0⟩] sc2 pos) (some (.Name y py)) sp2.line X.env = pure true) (hi : PI X tg over wi) (ok : BlkOk X.N X.env.scope sc2 own)
    (pg : ∀ (s : Shared) (H : Hp) (C : Addr) (cl : List (Str × Addr)) (fp : List Addr), PG (X.blk s H sc2 (compEnvC sc2 cl C X.env) fp) tg g) (pt : ∀ (s : Shared) (H : Hp) (C : Addr) (cl : List (Str × Addr)) (fp : List Addr), PTs (X.blk s H sc2 (compEnvC sc2 cl C X.env) fp) cs tt)
    (pk : ∀ (s : Shared) (H : Hp) (C : Addr) (cl : List (Str × Addr)) (fp : List Addr), PE (X.blk s H sc2 (compEnvC sc2 cl C X.env) fp) kx tk)
    (pw : ∀ (s : Shared) (H : Hp) (C : Addr) (cl : List (Str × Addr)) (fp : List Addr), PE (X.blk s H sc2 (compEnvC sc2 cl C X.env) fp) vx tv) (fold : ∀ x, foldedSetIterable over X.env x = pure x := by intro _; rfl) :
    PS X (.Assign [.Name y py] (.DictComp kx vx [⟨tg, over, cs, 0⟩] sc2 pos) sp2) (tAsg (tDcT wi g tt tk tv (own.map (·.2))) (gName i)) := by
  refine ⟨fun pins st σ H D I hyp => ?_⟩
  rw [exec_Assign_Name_used _ _ _ _ sw]
  refine wpAny_bind (wpAny_standAt (wpAny_bind ?_))
  show wpAny _ X.A (do let _ ← comprehension (.DictComp kx vx [⟨tg, over, cs, 0⟩] sc2 pos) sc2 X.env (firstIterPos [⟨tg, over, cs, 0⟩] pos) newDict false (eval over X.env) (some (assign (.Name y py) X.env))) _ _ st
  have hyp2 : tDcT wi g tt tk tv (own.map (·.2)) σ H (fun x H1 => gName i x σ H1 D.nx) := hyp
  refine wpAny_bind (thn (dcT_core (Qf := fun _ s' => SP X pins D .next s') hu calm nd I hi ok pg pt pk pw fold hyp2 ?_) fun _ s' hq => wpAny_pure (wpAny_pure hq))
  intro L C s' m H' I' q ns fr
  show wpAny _ _ (assign (.Name y py) X.env (.ref L)) _ _ _
  refine wpAny_assign_Name (store_ok2 (v := V.ref L) I' nd hy (.inl loc) rfl (fun s2 J ⟨a, sb, ha⟩ => ?_) (.inr loc))
  obtain ⟨g0, g1, g2, g3, g4, g5⟩ := fr
  have hCa : C ≠ a := ha.elim (fun z => z ▸ g1) fun z e => g4 y a z e.symm
  exact ⟨m, ns.sameBut sb hCa, fun h3 sb3 => ⟨_, H', J.turned (t' := s2.toks) (fun b o hb e => (sb3.2 b hb).trans e) g0 g1 g3 g4 g5, q⟩⟩
end
theorem dcT_it {J : It} {n : Nat} {G : Hp → Prop} {Y : Nat → Hp → V → Hp → Prop} (wk : Walk J n G Y) {g : TG} {tt : TT} {tk tv : TE} {is : List Nat} {σ : L2.St} {G1 : Hp} {D : Addr} {Qd : Hp → Prop} (Pv : Nat → Hp → Prop) (h0 : Pv 0 (upd G1 D (.dT []))) (hG : ∀ i H, i ≤ n → Pv i H → G H)
    (hs : ∀ i x H H', i < n → Pv i H → Y i H x H' → g x (wipe σ is) H' fun τ H2 => wipe τ is = wipe σ is ∧ tt τ H2 fun yes H3 =>
      if yes = true then tk τ H3 fun y H4 => tv τ H4 fun z H5 => ∃ es k b, y = .ref b ∧ H5 b = some (.tup (k.map kV)) ∧ H5 D = some (.dT es) ∧ es.length < sizeLine ∧ Pv (i + 1) (upd H5 D (.dT (putK es k z))) else Pv (i + 1) H3) (hd : ∀ H, Pv n H → Qd H) :
    ∃ W : Nat → Nat → Hp → Prop, (∃ m, W 0 m (upd G1 D (.dT []))) ∧ ∀ i m H, W i m H →
      (J.stop i H ∧ Qd H) ∨ (J.go i H ∧ ∃ Nx : Hp → Prop, (∀ H', Nx H' → ∃ m', m' < m ∧ W (i + 1) m' H') ∧ ∀ x H', J.yld i H x H' → g x (wipe σ is) H' fun τ H2 => wipe τ is = wipe σ is ∧ tt τ H2 fun yes H3 =>
        if yes = true then tk τ H3 fun y H4 => tv τ H4 fun z H5 => ∃ es k b, y = .ref b ∧ H5 b = some (.tup (k.map kV)) ∧ H5 D = some (.dT es) ∧ es.length < sizeLine ∧ Nx (upd H5 D (.dT (putK es k z))) else Nx H3) := by
  refine ⟨fun i m H => m = n - i ∧ i ≤ n ∧ Pv i H, ⟨n, (Nat.sub_zero n).symm, Nat.zero_le _, h0⟩, ?_⟩
  intro i m H hW
  obtain ⟨rfl, hi, p⟩ := hW
  have gd := hG i H hi p
  rcases Nat.lt_or_ge i n with hlt | hge
  · refine .inr ⟨wk.goes i H hlt gd, Pv (i + 1), ?_, ?_⟩
    · intro H' p'
      exact ⟨n - (i + 1), by omega, rfl, hlt, p'⟩
    · intro x H' y
      exact hs i x H H' hlt p (wk.yields i H x H' hlt gd y)
  · obtain rfl : i = n := Nat.le_antisymm hi hge
    exact .inl ⟨wk.stops H gd, hd H p⟩
end HF
/-! len(set(texts)) -/
namespace HF
open PySem PySem.Spec PyProof.Rows L2
theorem dedG_mem {x : Str} {ys : List Str} : x ∈ dedG [] ys ↔ x ∈ ys := by
  rw [dedG_nil]
  exact ded_mem
theorem dedG_next {x : Str} {xs : List Str} {i : Nat} (h : xs[i]? = some x) : (dedG [] (xs.take (i + 1))).length = if x ∈ xs.take i then (dedG [] (xs.take i)).length else (dedG [] (xs.take i)).length + 1 := by
  rw [List.take_add_one, h]
  unfold dedG
  rw [List.foldl_append]
  show (if x ∈ dedG [] (xs.take i) then dedG [] (xs.take i) else dedG [] (xs.take i) ++ [x]).length = _
  by_cases e : x ∈ xs.take i
  · rw [if_pos e, if_pos (dedG_mem.mpr e)]
    rfl
  · rw [if_neg e, if_neg fun z => e (dedG_mem.mp z), List.length_append]
    rfl
theorem dedG_few (ys : List Str) : (dedG [] ys).length ≤ ys.length := by
  rw [dedG_nil]
  induction ys with
  | nil => exact Nat.le_refl _
  | cons y r ih =>
    show ((ded r).filter _).length + 1 ≤ r.length + 1
    have := List.length_filter_le (fun x => decide (x ≠ y)) (ded r)
    omega
theorem ded_nodup : ∀ {ys : List Str}, ys.Nodup → ded ys = ys
  | [], _ => rfl
  | y :: r, h => by
    obtain ⟨n1, n2⟩ := List.nodup_cons.mp h
    show y :: (ded r).filter _ = y :: r
    have e : r.filter (fun x => decide (x ≠ y)) = r := List.filter_eq_self.mpr fun x hx => decide_eq_true fun (e : x = y) => n1 (e ▸ hx)
    rw [ded_nodup n2, e]
section
variable {P : Program} {w : World} {A : Around} {E : Value → Shared → Prop} {s : Shared}
abbrev StT (P : Program) (w : World) (h : Heap) (a : Addr) (xs : List Str) (i : Nat) : Prop := h.SetOf (strKind P w) a (fun k => decide (k ∈ xs.take i)) (dedG [] (xs.take i)).length
theorem StT.keep {h h' : Heap} {a : Addr} {xs : List Str} {i : Nat} (R : StT P w h a xs i) (k : ∀ o, h.get? a = some o → h'.get? a = some o) : StT P w h' a xs i := by
  obtain ⟨o, es, ep, t, ho, r⟩ := R
  exact ⟨o, es, ep, t, k o ho, r⟩
theorem update_t {I : Addr} {fp wr : List Addr} {G : Array GenState → Array GenState → Prop} {n : Nat} {Pv : Nat → Value → Prop} {St : Nat → Shared → Prop} {R : Result → Shared → Prop}
    (W : WalksS P w A.in1 I fp wr G n Pv St) (S : Addr) (out : S ∉ fp) (xs : List Str) (hn : n = xs.length) (few : xs.length ≤ 1000) (vals : ∀ i v, Pv i v → ∃ x t, xs[i]? = some x ∧ v = .str x t) :
    ∀ (k i : Nat) (st : Shared), n - i = k → i ≤ n → St i st → StT P w st.heap S xs i → (∀ s', Moved (S :: wr) G st s' → StT P w s'.heap S xs n → R (.ok (.ret .none)) s') →
      codeAny (model P w) A (.builtin "set.update.loop" ⟨[.ref S, .ref I], []⟩) R st := by
  have outw : S ∉ wr := fun h => out (W.sub _ h)
  have wider : ∀ b ∈ wr, b ∈ S :: wr := fun b hb => List.mem_cons_of_mem _ hb
  intro k
  induction k with
  | zero =>
    rintro i st e0 hi hst hS hR
    obtain rfl : i = n := by omega
    refine codeAny_builtin F.entry_set_update_loop ?_
    rw [Around.under_plainId F.plain_set_update_loop _]
    show wpAny _ A.in1 (pyNext (.ref I) >>= _) _ _ st
    refine wpAny_bind (W.done st _ _ hst fun s1 mv => ?_)
    show wpAny _ A.in1 (ret Value.none) _ _ s1
    exact wpAny_pure (hR s1 (mv.mono wider) (hS.keep fun o e => mv.heap S o outw e))
  | succ k ih =>
    rintro i st e0 hi hst hS hR
    have lt : i < n := by omega
    refine codeAny_builtin F.entry_set_update_loop ?_
    rw [Around.under_plainId F.plain_set_update_loop _]
    show wpAny _ A.in1 (pyNext (.ref I) >>= _) _ _ st
    refine wpAny_bind (W.item i st _ _ lt hst fun v s1 hP hst1 mv => ?_)
    obtain ⟨x, t, hx, rfl⟩ := vals i v hP
    have hS1 : StT P w s1.heap S xs i := hS.keep fun o e => mv.heap S o outw e
    have small := dedG_few (xs.take i)
    rw [List.length_take] at small
    show wpAny _ A.in1 (holding [Value.str x t] (setAdd S (.str x t)) >>= _) _ _ s1
    refine wpAny_bind (wpAny_holding ?_)
    unfold setAdd
    refine wpAny_holding (wpAny_bind ((strKind P w).pyHash (k := x) (strKind_is _ _ _ _) ?_))
    refine wpAny_setAddHashed_of (knd := strKind P w) (s := { s1 with toks := s1.toks + 1 }) (strKind_is _ _ _ _) rfl hS1 (by unfold scanBound; omega) fun h2 sb hS2 => ?_
    have next : StT P w h2 S xs (i + 1) := by
      refine SetOf_congr hS2 (fun y => ?_) ?_
      · rw [Bool.eq_iff_iff, Bool.or_eq_true, decide_eq_true_iff, decide_eq_true_iff, decide_eq_true_iff, List.take_add_one, hx, List.mem_append]
        simp
      · rw [dedG_next hx]
        by_cases e : x ∈ xs.take i
        · rw [if_pos e, if_pos (decide_eq_true e)]
        · rw [if_neg e, if_neg (by rw [decide_eq_true_iff]; exact e)]
    refine wpAny_pure ⟨plainId_quiet F.plain_set_update_loop _, ih (i + 1) _ (by omega) lt (W.frame _ s1 _ _ hst1 (Nat.le_succ _) fun b hb o e => ?_) next fun s3 mv3 hS3 => ?_⟩
    · rw [sb.2 b fun z => out (z ▸ hb)]
      exact e
    · refine hR s3 (Moved.trans W.gtrans ((mv.mono wider).then_heap (Nat.le_succ _) fun b o hb e => ?_) mv3) hS3
      rw [sb.2 b fun z => hb (z ▸ List.mem_cons_self)]
      exact e
theorem call_set_t {l : Addr} {items : Array Value} (xs : List Str) {Q : Value → Shared → Prop} (hh : A.handled = none) (hl : s.heap.IsList l items) (hit : Vals (xs.map V.str) items.toList) (few : xs.length ≤ 1000)
    (hQ : ∀ (h' : Heap) (tk : Nat), StT P w h' s.heap.objs.size xs xs.length → (∀ b o, s.heap.get? b = some o → h'.get? b = some o) → Q (.ref s.heap.objs.size) { s with heap := h', toks := tk }) :
    wpAny (model P w) A (call (.type "set") [.ref l]) Q E s := by
  have many : items.size = xs.length := by
    have q : (xs.map V.str).length = items.toList.length := Paired.length hit
    rw [List.length_map] at q
    simpa using q.symm
  obtain ⟨c, tl, hmro⟩ := F.called_set.mro
  have hmade := F.called_set.made
  have hsub := F.called_set.sub
  refine wpAny_call (codeAny_of_tree ?_)
  show wpAny _ _ (callAny (.type "set") _) _ _ _
  refine wpAny_pure ⟨Code.quiet_builtin _ (by decide +kernel), codeAny_builtin F.entry_type_call ?_⟩
  rw [Around.under_plain (weight_type_call_type "set" [.ref l] []) rfl]
  have h1 := F.called_set.notType
  have h2 := F.called_set.canCreate
  have hct := F.typeCall_set_1 (.ref l)
  repeat (any_goals (first | assumption | wp_step))
  refine codeAny_mono (code_set_led1 (.ref l) (E := E) (Q₁ := fun obj s₁ => obj = .ref s.heap.objs.size ∧ s₁ = { s with heap := s.heap.push (bareSet w) }) ⟨rfl, rfl⟩) fun r s₁ hr => ?_
  cases r with
  | error e => exact hr
  | ok fl =>
    cases fl with
    | ret obj =>
      obtain ⟨rfl, rfl⟩ := hr
      have atS : (s.heap.push (bareSet w)).get? s.heap.objs.size = some (bareSet w) := Heap.get?_push_size _ rfl
      have hT : Shared.TypeIs { s with heap := s.heap.push (bareSet w) } (.ref s.heap.objs.size) "set" := ⟨_, atS, rfl⟩
      have hli := F.called_set.init.lookup
      have hbi := F.called_set.init.bind (.ref s.heap.objs.size)
      repeat (any_goals (first | assumption | wp_step))
      refine codeAny_mono (codeAny_call_builtin (R := wants (fun r s₂ => r = .none ∧ ∃ h' tk, s₂ = { s with heap := h', toks := tk } ∧ StT P w h' s.heap.objs.size xs xs.length ∧ (∀ b o, s.heap.get? b = some o → h'.get? b = some o)) E) F.called_set.init.plain F.entry_set_init (check_set_init_1 hT ?_)) fun r₂ s₂ hr₂ => ?_
      · obtain ⟨⟨ocls, odict, odata, oslots⟩, hol, hcl, nl, hdl⟩ := hl
        simp only at hcl hdl
        subst hcl hdl
        have hol1 : (s.heap.push (bareSet w)).get? l = some { cls := .type "list", dict := odict, data := .seq items nl, slots := oslots } := Heap.get?_push_of_some _ hol
        have hsls := F.sub_list_set
        have hslf := F.sub_list_frozenset
        have hne : (Value.type "list" == Value.type "dict") = false := by decide
        have hl1 : (s.heap.push (bareSet w)).IsList l items := ⟨_, hol1, rfl, nl, rfl⟩
        unfold Builtin.«set.__init__» noKeywords Builtin.Frozenset.updateFrom
        generalize hPI : pyIter = PI
        wp_walk
        subst hPI
        refine wpAny_pyIter_list hl1 (wpAny_bind (wpAny_runValue ?_))
        have ltl : l < s.heap.objs.size := Heap.lt_size hol
        have sz1 : (s.heap.push (bareSet w)).objs.size = s.heap.objs.size + 1 := Heap.size_push ..
        have hval : ∀ (i : Nat) (v : Value), items[i]? = some v → ∃ x t, xs[i]? = some x ∧ v = .str x t := fun i v hv => by
          have q : items.toList[i]? = some v := by
            rw [Array.getElem?_toList]
            exact hv
          have lt : i < items.size := (Array.getElem?_eq_some_iff.mp hv).1
          have hx : xs[i]? = some (xs[i]'(by omega)) := List.getElem?_eq_getElem _
          obtain ⟨u, e1, e2⟩ := Vals.get hit (show (xs.map V.str)[i]? = some (.str (xs[i]'(by omega))) by rw [List.getElem?_map, hx]; rfl)
          rw [q] at e1
          cases e1
          obtain ⟨t, rfl⟩ := e2
          exact ⟨_, t, hx, rfl⟩
        refine update_t ((Walks.list (by simp [hh]) _ l (by rw [sz1]; exact Nat.ne_of_lt (Nat.lt_succ_of_lt ltl)) items).toS) s.heap.objs.size
          (by rw [sz1]; simp only [List.mem_cons, List.not_mem_nil, or_false, not_or]; exact ⟨Nat.ne_of_lt (Nat.lt_succ_self _), Nat.ne_of_gt ltl⟩) xs many few hval (items.size - 0) 0 _ (by omega) (Nat.zero_le _)
          ⟨⟨_, Heap.get?_push_size _ rfl, rfl, rfl⟩, (hl1.push _)⟩ ?hS0 ?hR
        case hS0 =>
          exact ⟨_, #[], 0, _, Heap.get?_push_of_some _ atS, ⟨rfl, rfl, rfl⟩, rfl, (fun e he => by simp at he), (fun k => by simp), (by decide), (by rfl), rfl⟩
        case hR =>
          rintro ⟨h', g2, d', tk', os'⟩ mv hS'
          have eg : g2 = s.gens := mv.gens
          have ed : d' = s.drawn := mv.drawn
          have eo : os' = s.os := mv.os
          subst eg ed eo
          show wpAny _ _ _ _ _ _
          refine wpAny_pure ?_
          show wpAny _ _ (ret Value.none) _ _ _
          rw [many] at hS'
          refine wpAny_pure ⟨rfl, h', tk', rfl, hS', fun b o e => mv.heap b o (fun hb => ?_) (Heap.get?_push_of_some _ (Heap.get?_push_of_some _ e))⟩
          have hlt := Heap.lt_size e
          rcases List.mem_cons.mp hb with z | z
          · rw [z] at hlt
            exact Nat.lt_irrefl _ hlt
          · rw [List.mem_singleton.mp z, sz1] at hlt
            exact absurd hlt (Nat.not_lt_of_le (Nat.le_succ _))
      · cases r₂ with
        | error e => exact hr₂
        | ok fl₂ =>
          cases fl₂ with
          | ret r =>
            obtain ⟨rfl, h', tk, rfl, hS', kp⟩ := hr₂
            repeat (any_goals (first | assumption | wp_step))
            exact hQ _ _ hS' kp
          | _ => exact hr₂.elim
    | _ => exact hr.elim
end
section
variable {X : Cx}
/-- len(set(texts)) -/
def tLenT (K : PySem.W.Frag) (ta : TE) : TE := fun σ H Q => ta σ H fun x H1 => ∃ (l : Addr) (xs : List Str), x = .ref l ∧ SqL K H1 l (xs.map V.str) ∧ xs.length ≤ 1000 ∧ Q (.int ((dedG [] xs).length : Nat)) H1
theorem pe_lenT {e : Expr} {te : TE} {p1 p2 p3 pos : Pos} (calm : X.calm = true) (gl : Gl X "len") (ml : X.mg "len" = none) (gs : Gl X "set") (ms : X.mg "set" = none) (he : PE X e te)
    (st1 : starEach [e] X.env = (false, eval e X.env) :: starEach [] X.env := by rfl) : PE X (.Call (.Name "len" p1) [.Call (.Name "set" p2) [e] [] p3] [] pos) (tLenT X.K te) := by
  refine ⟨fun pins st σ H Q I want => Call_ (ld_blt I gl ml PySem.boot_len (PyProof.Rows.callWith_builtin1 (PyProof.Rows.args_cons ?_ rfl) rfl rfl))⟩
  refine Call_ (ld_blt I gs ms PyProof.Rows.boot_set (PyProof.Rows.callWith_type1 (PyProof.Rows.args_cons (thn (he.run pins st σ H _ I want) ?_) st1) st1 rfl))
  rintro v s1 ⟨x, H1, J, r1, l, xs, rfl, hq, few, q⟩
  refine PyProof.Rows.args_nil ?_
  cases r1
  obtain ⟨its, rel, pl, _⟩ := J.list hq
  refine call_set_t (P := X.prog) (w := X.w) xs (J.ok.hd calm) pl.isList (by simpa using rel) few fun h' tk hS kp => PyProof.Rows.args_nil ?_
  obtain ⟨o, es, ep, t, ho, hex, hd, _, _, _, hf, hn⟩ := hS
  have J2 : Inv X pins σ H1 { s1 with heap := h', toks := tk } := J.kept kp
  have small := dedG_few (xs.take xs.length)
  rw [List.take_length] at small hn
  exact call_len_set ho hex hd hf (by rw [hn]; omega) ⟨.int ((dedG [] xs).length : Nat), H1, J2.tok _, ⟨_, by rw [hn]⟩, q⟩
end
end HF
/-! len(set(a tuple of texts)) -/
namespace HF
open PySem PySem.Spec PyProof.Rows L2
section
variable {P : Program} {w : World} {A : Around} {E : Value → Shared → Prop} {s : Shared}
theorem call_set_tt {l : Addr} {items : Array Value} (xs : List Str) {Q : Value → Shared → Prop} (hh : A.handled = none) (hl : s.heap.IsTuple l items) (hit : Vals (xs.map V.str) items.toList) (few : xs.length ≤ 1000)
    (hQ : ∀ (h' : Heap) (tk : Nat), StT P w h' s.heap.objs.size xs xs.length → (∀ b o, s.heap.get? b = some o → h'.get? b = some o) → Q (.ref s.heap.objs.size) { s with heap := h', toks := tk }) :
    wpAny (model P w) A (call (.type "set") [.ref l]) Q E s := by
  have many : items.size = xs.length := by
    have q : (xs.map V.str).length = items.toList.length := Paired.length hit
    rw [List.length_map] at q
    simpa using q.symm
  obtain ⟨c, tl, hmro⟩ := F.called_set.mro
  have hmade := F.called_set.made
  have hsub := F.called_set.sub
  refine wpAny_call (codeAny_of_tree ?_)
  show wpAny _ _ (callAny (.type "set") _) _ _ _
  refine wpAny_pure ⟨Code.quiet_builtin _ (by decide +kernel), codeAny_builtin F.entry_type_call ?_⟩
  rw [Around.under_plain (weight_type_call_type "set" [.ref l] []) rfl]
  have h1 := F.called_set.notType
  have h2 := F.called_set.canCreate
  have hct := F.typeCall_set_1 (.ref l)
  repeat (any_goals (first | assumption | wp_step))
  refine codeAny_mono (code_set_led1 (.ref l) (E := E) (Q₁ := fun obj s₁ => obj = .ref s.heap.objs.size ∧ s₁ = { s with heap := s.heap.push (bareSet w) }) ⟨rfl, rfl⟩) fun r s₁ hr => ?_
  cases r with
  | error e => exact hr
  | ok fl =>
    cases fl with
    | ret obj =>
      obtain ⟨rfl, rfl⟩ := hr
      have atS : (s.heap.push (bareSet w)).get? s.heap.objs.size = some (bareSet w) := Heap.get?_push_size _ rfl
      have hT : Shared.TypeIs { s with heap := s.heap.push (bareSet w) } (.ref s.heap.objs.size) "set" := ⟨_, atS, rfl⟩
      have hli := F.called_set.init.lookup
      have hbi := F.called_set.init.bind (.ref s.heap.objs.size)
      repeat (any_goals (first | assumption | wp_step))
      refine codeAny_mono (codeAny_call_builtin (R := wants (fun r s₂ => r = .none ∧ ∃ h' tk, s₂ = { s with heap := h', toks := tk } ∧ StT P w h' s.heap.objs.size xs xs.length ∧ (∀ b o, s.heap.get? b = some o → h'.get? b = some o)) E) F.called_set.init.plain F.entry_set_init (check_set_init_1 hT ?_)) fun r₂ s₂ hr₂ => ?_
      · obtain ⟨⟨ocls, odict, odata, oslots⟩, hol, hcl, nl, hdl⟩ := hl
        simp only at hcl hdl
        subst hcl hdl
        have hol1 : (s.heap.push (bareSet w)).get? l = some { cls := .type "tuple", dict := odict, data := .seq items nl, slots := oslots } := Heap.get?_push_of_some _ hol
        have hsls := F.sub_tuple_set
        have hslf := F.sub_tuple_frozenset
        have hne : (Value.type "tuple" == Value.type "dict") = false := by decide
        have hl1 : (s.heap.push (bareSet w)).IsTuple l items := ⟨_, hol1, rfl, nl, rfl⟩
        unfold Builtin.«set.__init__» noKeywords Builtin.Frozenset.updateFrom
        generalize hPI : pyIter = PI
        wp_walk
        subst hPI
        refine wpAny_pyIter_tuple hl1 (wpAny_bind (wpAny_runValue ?_))
        have ltl : l < s.heap.objs.size := Heap.lt_size hol
        have sz1 : (s.heap.push (bareSet w)).objs.size = s.heap.objs.size + 1 := Heap.size_push ..
        have hval : ∀ (i : Nat) (v : Value), items[i]? = some v → ∃ x t, xs[i]? = some x ∧ v = .str x t := fun i v hv => by
          have q : items.toList[i]? = some v := by
            rw [Array.getElem?_toList]
            exact hv
          have lt : i < items.size := (Array.getElem?_eq_some_iff.mp hv).1
          have hx : xs[i]? = some (xs[i]'(by omega)) := List.getElem?_eq_getElem _
          obtain ⟨u, e1, e2⟩ := Vals.get hit (show (xs.map V.str)[i]? = some (.str (xs[i]'(by omega))) by rw [List.getElem?_map, hx]; rfl)
          rw [q] at e1
          cases e1
          obtain ⟨t, rfl⟩ := e2
          exact ⟨_, t, hx, rfl⟩
        refine update_t ((Walks.tuple (by simp [hh]) _ l (by rw [sz1]; exact Nat.ne_of_lt (Nat.lt_succ_of_lt ltl)) items).toS) s.heap.objs.size
          (by rw [sz1]; simp only [List.mem_cons, List.not_mem_nil, or_false, not_or]; exact ⟨Nat.ne_of_lt (Nat.lt_succ_self _), Nat.ne_of_gt ltl⟩) xs many few hval (items.size - 0) 0 _ (by omega) (Nat.zero_le _)
          ⟨⟨_, Heap.get?_push_size _ rfl, rfl, rfl⟩, (hl1.push _)⟩ ?hS0 ?hR
        case hS0 =>
          exact ⟨_, #[], 0, _, Heap.get?_push_of_some _ atS, ⟨rfl, rfl, rfl⟩, rfl, (fun e he => by simp at he), (fun k => by simp), (by decide), (by rfl), rfl⟩
        case hR =>
          rintro ⟨h', g2, d', tk', os'⟩ mv hS'
          have eg : g2 = s.gens := mv.gens
          have ed : d' = s.drawn := mv.drawn
          have eo : os' = s.os := mv.os
          subst eg ed eo
          show wpAny _ _ _ _ _ _
          refine wpAny_pure ?_
          show wpAny _ _ (ret Value.none) _ _ _
          rw [many] at hS'
          refine wpAny_pure ⟨rfl, h', tk', rfl, hS', fun b o e => mv.heap b o (fun hb => ?_) (Heap.get?_push_of_some _ (Heap.get?_push_of_some _ e))⟩
          have hlt := Heap.lt_size e
          rcases List.mem_cons.mp hb with z | z
          · rw [z] at hlt
            exact Nat.lt_irrefl _ hlt
          · rw [List.mem_singleton.mp z, sz1] at hlt
            exact absurd hlt (Nat.not_lt_of_le (Nat.le_succ _))
      · cases r₂ with
        | error e => exact hr₂
        | ok fl₂ =>
          cases fl₂ with
          | ret r =>
            obtain ⟨rfl, h', tk, rfl, hS', kp⟩ := hr₂
            repeat (any_goals (first | assumption | wp_step))
            exact hQ _ _ hS' kp
          | _ => exact hr₂.elim
    | _ => exact hr.elim
end
section
variable {X : Cx}
/-- .. of a tuple -/
def tLenU (K : PySem.W.Frag) (ta : TE) : TE := fun σ H Q => ta σ H fun x H1 => ∃ (l : Addr) (xs : List Str), x = .ref l ∧ SqT K H1 l (xs.map V.str) ∧ xs.length ≤ 1000 ∧ Q (.int ((dedG [] xs).length : Nat)) H1
theorem pe_lenU {e : Expr} {te : TE} {p1 p2 p3 pos : Pos} (calm : X.calm = true) (gl : Gl X "len") (ml : X.mg "len" = none) (gs : Gl X "set") (ms : X.mg "set" = none) (he : PE X e te)
    (st1 : starEach [e] X.env = (false, eval e X.env) :: starEach [] X.env := by rfl) : PE X (.Call (.Name "len" p1) [.Call (.Name "set" p2) [e] [] p3] [] pos) (tLenU X.K te) := by
  refine ⟨fun pins st σ H Q I want => Call_ (ld_blt I gl ml PySem.boot_len (PyProof.Rows.callWith_builtin1 (PyProof.Rows.args_cons ?_ rfl) rfl rfl))⟩
  refine Call_ (ld_blt I gs ms PyProof.Rows.boot_set (PyProof.Rows.callWith_type1 (PyProof.Rows.args_cons (thn (he.run pins st σ H _ I want) ?_) st1) st1 rfl))
  rintro v s1 ⟨x, H1, J, r1, l, xs, rfl, hq, few, q⟩
  refine PyProof.Rows.args_nil ?_
  cases r1
  obtain ⟨its, rel, pl, _⟩ := J.tuple hq
  refine call_set_tt (P := X.prog) (w := X.w) xs (J.ok.hd calm) pl (by simpa using rel) few fun h' tk hS kp => PyProof.Rows.args_nil ?_
  obtain ⟨o, es, ep, t, ho, hex, hd, _, _, _, hf, hn⟩ := hS
  have J2 : Inv X pins σ H1 { s1 with heap := h', toks := tk } := J.kept kp
  have small := dedG_few (xs.take xs.length)
  rw [List.take_length] at small hn
  exact call_len_set ho hex hd hf (by rw [hn]; omega) ⟨.int ((dedG [] xs).length : Nat), H1, J2.tok _, ⟨_, by rw [hn]⟩, q⟩
end
end HF

namespace HF
open PySem PySem.Spec PyProof.Rows L2
abbrev sPk : Stmt := topS 29
abbrev nPk : List Str := ["_law_box_here", "_law_some"]
section
variable {P : Program} {w : World} {K : PySem.W.Frag} {mg : Str → Option Value} {base : Heap}
theorem scPk : FnScope nPk ["_law_box_here", "_law_some"] (defScope sPk) := ⟨rfl, rfl, rfl, by decide +kernel, rfl, by decide +kernel, by decide +kernel⟩
theorem ok_Pk {f fT : Addr} {fd dT : FuncData} {k : Nat} (F : Fun K "_law_pick" "_law_pick" sPk f fd) (FT : Fun K "_law_take" "_law_take" sTake fT dT) (bT : Binds K dT ["_law_box_here", "_law_bound"] []) (gT : mg "_law_take" = some (.ref fT)) (ml : mg "len" = none) : FnOk P w K mg base CX0 (k + 2) f fd ["_law_box_here", "_law_some"] (spPk K) := by
  have GT : FnOk P w K mg base CX0 (k + 1) fT dT ["_law_box_here", "_law_bound"] spTake := ok_take FT
  refine F.ok scPk (fun vs H Q E h => ?_) (fun cdv A outer s H vs Q E hr h => ?_)
  · obtain ⟨p, a, c, xs, rfl, _⟩ := h
    rfl
  · obtain ⟨p, a, c, xs, rfl, hB, hc, ha, nap, h0, h1, q⟩ := h
    refine ⟨_, pss_one (ps_ret (pe_ix (r := rIxL K) ix_list (pv 1) (pe_call GT hr (by rfl) gT FT.kp bT .nil pass0 (pa_cons (pv 0) (pa_cons (pe_callB call_len_seq (by rfl) ml PySem.boot_len (pa_cons (pv 1) pa_nil)) pa_nil))) (fun _ _ => rfl))), ?_⟩
    refine ⟨.ref a, rfl, .ref p, rfl, .ref a, rfl, a, _, rfl, .inl ha, p, _, c, rfl, hB, by omega, by omega, by omega, fun r c' o hr0 hr1 hc1 hc2 hb => ?_⟩
    obtain ⟨n, rfl⟩ := Int.eq_ofNat_of_zero_le hr0
    have hn : n < xs.length := by omega
    have ho : Oth p H (upd H p o) := Oth.put
    refine ⟨a, xs, n, xs[n], rfl, rfl, ?_, atI_nat (List.getElem?_eq_getElem hn), ?_⟩
    · exact ho.seq nap ha
    · exact q n _ c' o (List.getElem?_eq_getElem hn) hc1 hc2 hb
end
end HF
/-! refusals: own classes over a class of Python's own, with an __init__ that tells the base a text and keeps one field -/
namespace HF
open PySem PySem.Spec PyProof.Rows L2
structure XoC (K : PySem.W.Frag) (C : Addr) (B newId initId : String) (bmB : List Value) : Prop where
  base : ExcBaseFacts B newId initId bmB
  store : StoreFacts B bmB "object.__setattr__" "object"
  ini : PySem.W.excInitIn K C bmB newId = true
  over : PySem.W.excOver K C bmB = true
  hdi : PySem.W.hasDictIn K C = true
  sa : PySem.W.findIn K (.ref C) "__setattr__" = some (some (.builtin "object.__setattr__"))
  exC : PySem.W.subIn K (.ref C) (.type "BaseException") = some true
  tyC : PySem.W.typeIn K (.ref C) = some (.type "type")
  kC : PySem.W.keepIn K (.ref C) = true
section
variable {prog : Program} {w : World} {A : Around} {R : Result → Shared → Prop} {hp : Heap} {g : Array GenState} {d : Drawn} {t : Nat} {os : OsState} {K : PySem.W.Frag} {B newId initId : String} {bmB : List Value}
/-- the first field -/
theorem xosa {x C t1 : Addr} {name : Str} {tk : Tok} {v : Value} (T : XoC K C B newId initId bmB) (X : K.In hp) (hx : hp.get? x = some (PySem.HandSPX.excO C t1)) (no : PySem.W.findIn K (.ref C) name = some none)
    (hq : ∀ h2 tk2 dx, (∀ b o, b ≠ x → hp.get? b = some o → h2.get? b = some o) → hp.objs.size ≤ dx → dx ≠ x → h2.get? x = some { PySem.HandSPX.excO C t1 with dict := some dx } → h2.Ns1 dx (fun y => if y = name then some v else none) → R (.ok (.ret .none)) ⟨h2, g, d, tk2, os⟩) :
    codeAny (model prog w) A (.call (.builtin "object.__setattr__") ⟨[.ref x, .str name tk, v], []⟩) R ⟨hp, g, d, t, os⟩ := by
  have I : PySem.W.InstAt hp x (PySem.HandSPX.excO C t1) C none := ⟨hx, rfl, rfl, trivial⟩
  have far : x ≠ hp.objs.size := Nat.ne_of_lt (Heap.lt_size hx)
  have tkr : PySem.W.takerIn K C name = some none := by
    unfold PySem.W.takerIn
    rw [no]
    rfl
  obtain ⟨cd, hcd, hdct⟩ : ∃ cd, PySem.W.clsIn K C = some cd ∧ cd.hasDict = true := by
    have z := T.hdi
    unfold PySem.W.hasDictIn at z
    cases hc : PySem.W.clsIn K C with
    | none =>
      rw [hc] at z
      exact nomatch z
    | some cd =>
      rw [hc] at z
      exact ⟨cd, rfl, z⟩
  have lc : PySem.W.Looks (model prog w) hp (classData C) cd := PySem.W.looks_clsIn X hcd
  refine PySem.W.osa_openX T.store X I T.over tkr fun bb => ?_
  dsimp only
  obtain ⟨n1, n2, n3, n4, n5, n6, n7, n8, n9, n10, n11⟩ := cd
  dsimp only at hdct
  subst hdct
  unfold PySem.Builtin.ObjectAttr.storeInOwnDict PySem.Builtin.ObjectAttr.ownDictForStores
  repeat (first | with_reducible refine PySem.HandSPX.store_in_new ?_ ?_ | with_reducible refine wpAny_loadPart_at hx ?_ | with_reducible refine lc.at ?_ | wp_step)
  · exact ⟨_, #[], _, (Heap.get?_update_ne _ _ _ _ far.symm).trans (Heap.get?_push_at rfl rfl), rfl, fun e he => absurd he (by simp), fun _ => rfl⟩
  · intro h2 tk2 ns sb
    have hx1 : (hp.push { cls := .type "dict", data := .dict #[] }).get? x = some (PySem.HandSPX.excO C t1) := Heap.get?_push_of_some _ hx
    refine hq h2 tk2 hp.objs.size (fun b o hb ho => ?_) (Nat.le_refl _) far.symm ?_ ns
    · exact (sb.2 b (Nat.ne_of_lt (Heap.lt_size ho))).trans ((Heap.get?_update_ne _ _ _ _ hb).trans (Heap.get?_push_of_some _ ho))
    · exact (sb.2 x far).trans (Heap.get?_update_self _ hx1 rfl)
end
section
variable {X : Cx} {pins : List (Addr × Obj)} {σ : L2.St} {H : Hp} {s : Shared} {a C dx : Addr} {f : Str} {y : V} {u : Value} {E : Value → Shared → Prop} {A : Around} {B newId initId : String} {bmB : List Value}
/-- self.f = y on an exception without a dict as yet -/
theorem xst_new {Q : Unit → Shared → Prop} (T : XoC X.K C B newId initId bmB) (I : Inv X pins σ H s) (e : H a = some (exo a C none)) (no : PySem.W.findIn X.K (.ref C) f = some none) (ry : RelV y u)
    (q : ∀ dx s', H dx = none → dx ≠ a → Inv X pins σ (upd (upd H dx (exd dx [(f, y)])) a (exo a C (some dx))) s' → Q () s') : wpAny (model X.prog X.w) A (setAttr (.ref a) f u) Q E s := by
  obtain ⟨t1, ho⟩ := exo_at I.hok e
  obtain ⟨hp, g, d, t, os⟩ := s
  have plain : PySem.W.InstAt hp a (PySem.HandSPX.excO C t1) C none := ⟨ho, rfl, rfl, trivial⟩
  refine PySem.W.set_plain I.kIn plain T.sa (xosa T I.kIn ho no ?_)
  intro h2 tk2 dx kp big ne hx ns
  have bare : H dx = none := I.hok.fresh big
  have below : ∀ {b : Addr} {o : Obj}, hp.get? b = some o → b ≠ dx := fun z => Nat.ne_of_lt (Nat.lt_of_lt_of_le (Heap.lt_size z) big)
  have away : ∀ {b : Addr}, H b = none → b ≠ a := fun n z => by
    rw [z, e] at n
    exact nomatch n
  have un : Un X.fs [] H (upd (upd H dx (exd dx [(f, y)])) a (exo a C (some dx))) hp h2 :=
    { keep := fun b o z n _ _ => kp b o (away n) z
      slot := fun b o z n _ _ => ⟨o.slots, kp b o (away n) z⟩
      free := fun b o z n _ => (upd_ne (away n)).trans ((upd_ne (below z)).trans n)
      there := fun b o z _ => if hb : b = a then ⟨_, hb ▸ hx⟩ else ⟨o, kp b o hb z⟩
      tups := fun b xs z => (upd_ne (at_ne e z exo_tup)).trans ((upd_ne (ne_of_none z bare)).trans z)
      frzs := fun b o v z => (upd_ne (at_ne e z exo_frz)).trans ((upd_ne (ne_of_none z bare)).trans z)
      tbls := fun b ps z => ⟨#[], by rw [upd_ne (at_ne e z exo_tbl), upd_ne (ne_of_none z bare), z]; simp⟩ }
  refine q dx _ bare ne (I.un (t' := tk2) un fun b o z => ?_)
  by_cases ha : b = a
  · subst ha
    rw [upd_same] at z
    cases z
    exact exo_ok hx
  · rw [upd_ne ha] at z
    by_cases hd : b = dx
    · subst hd
      rw [upd_same] at z
      cases z
      exact exd_ok ns (relO_put (fs := []) ry fun g => True.intro)
    · rw [upd_ne hd] at z
      refine (I.hok b o z).stay (fun c v hc z2 => kp c v ?_ z2) (fun c hc => ?_) fun c xs hc => ?_
      · exact hc.elim (fun q2 => q2 ▸ ha) fun q2 => at_ne e q2 exo_own
      · exact (upd_ne (at_ne e hc exo_own)).trans ((upd_ne (ne_of_none hc bare)).trans hc)
      · exact (upd_ne (at_ne e hc exo_tup)).trans ((upd_ne (ne_of_none hc bare)).trans hc)
/-- B.__init__(self, ..) -/
theorem xinit {us : List Value} {Q : Value → Shared → Prop} (T : XoC X.K C B newId initId bmB) (I : Inv X pins σ H s) (e : H a = some (exo a C none)) (few : us.length ≤ sizeLine) (q : ∀ s', Inv X pins σ H s' → Q .none s') :
    wpAny (model X.prog X.w) A (call (.builtin initId) (.ref a :: us)) Q E s := by
  obtain ⟨c1, c2, c3, c4, c5, c6, c7, c8, c9, c10, c11, c12, c13, c14, c15, c16, hC, hT⟩ := PySem.W.excInit_of I.kIn T.ini
  obtain ⟨t1, ho⟩ := exo_at I.hok e
  obtain ⟨hp, g, d, t, os⟩ := s
  refine wpAny_call (PySem.HandSPX.init_base T.base hT hC ho few ?_)
  intro h2 t2 kp hx
  have J := I.write (t' := t) (x := a) (e := a) (o := exo a C none) (by rw [e]; exact True.intro) (.inl rfl) kp ⟨_, hx⟩ (exo_ok hx)
  have same : upd H a (exo a C none) = H := funext fun b => by
    by_cases hb : b = a
    · rw [hb, upd_same, e]
    · rw [upd_ne hb]
  rw [same] at J
  exact q _ J
end
/-- the readings -/
def tBI (K : PySem.W.Frag) (B newId initId : String) (bmB : List Value) (ta : TA) : TE := fun σ H Q => ta σ H fun vs H1 => ∃ (a C : Addr) (ws : List V), vs = .ref a :: ws ∧ ws.length ≤ 1000 ∧ XoC K C B newId initId bmB ∧ H1 a = some (exo a C none) ∧ Q .non H1
def tXst (K : PySem.W.Frag) (B newId initId : String) (bmB : List Value) (f : Str) (to te : TE) : TS := fun D σ H => te σ H fun y H1 => to σ H1 fun x H2 => ∃ a C : Addr, x = .ref a ∧ XoC K C B newId initId bmB ∧ PySem.W.findIn K (.ref C) f = some none ∧
  H2 a = some (exo a C none) ∧ ∀ dx, H2 dx = none → dx ≠ a → D.nx σ (upd (upd H2 dx (exd dx [(f, y)])) a (exo a C (some dx)))
section
variable {X : Cx} {o e : Expr} {es : List Expr} {to te : TE} {ta : TA} {f : Str} {p p' p1 p2 pos : Pos} {B newId initId : String} {bmB : List Value} {x : Str}
theorem pe_binit {pl : Sem Bool} (hg : Gl X x) (hm : X.mg x = none) (boot : bootBuiltins x = some (.type B)) (nn : x ≠ "__name__") (ndb : (x == ("__debug__" : Str)) = false) (ty : typeOf (.type B) = pure (.type "type")) (ns : Manifest.isStub B = false) (hin : PySem.W.handedIn (.builtin initId) = true)
    (vV : PySem.W.findCls X.K (.type B) (.type "type") "__init__" = some (.val (.builtin initId))) (ha : PA X (e :: es) ta)
    (hc : eval (.Call (.Attribute (.Name x p1) "__init__" p2) (e :: es) [] pos) X.env = (do
      let ov ← eval (.Name x p1) X.env
      standAt p2.atName
      let (f, first) ← holding [ov] (getMethod ov "__init__" pl)
      callWith pos f first (backTo pos (starEach (e :: es) X.env)) (backToKw pos (keywordEach [] X.env))) := by rfl)
    (he : starEach (e :: es) X.env = (false, eval e X.env) :: starEach es X.env := by rfl) (hpl : (backTo pos (starEach es X.env)).any (·.1) = false := by rfl) :
    PE X (.Call (.Attribute (.Name x p1) "__init__" p2) (e :: es) [] pos) (tBI X.K B newId initId bmB ta) := by
  refine ⟨fun pins st σ H Q I want => PySem.W.methodCall_KW (ld_blt I hg hm boot ?_ nn ndb) hc⟩
  obtain ⟨m, fr⟩ := I.fr
  refine PySem.W.method_type fr I.ok.mod.kin ty ns vV hin ?_
  show wpAny _ _ (callWith pos (Value.builtin initId) [] (backTo pos (starEach (e :: es) X.env)) []) _ _ _
  refine PyProof.Rows.callWith_method1 (thn (ha.run pos pins _ σ H _ (I.tok _) want) ?_) he hpl
  rintro us s1 ⟨vs, H1, J, rel, a, C, ws, rfl, few, T, ea, q⟩
  cases rel with
  | @cons _ u0 _ ur ra rr =>
    cases (show u0 = Value.ref a from ra)
    have hlen : ur.length ≤ sizeLine := by
      rw [← Paired.length rr, sizeLine_eq]
      omega
    exact xinit T J ea hlen fun s2 J2 => ⟨.non, H1, J2, rfl, q⟩
theorem ps_xst (ho : PE X o to) (he : PE X e te) (sw : swapsWith e (some (.Attribute o f p')) pos.line X.env = pure false := by rfl) : PS X (.Assign [.Attribute o f p'] e pos) (tXst X.K B newId initId bmB f to te) := by
  refine ⟨fun pins st σ H D I want => plainObj_wpAny_Assign_Attribute (thn (he.run pins st σ H _ I want) ?_) sw⟩
  rintro v s1 ⟨y, H1, J1, r1, q1⟩
  refine thn (ho.run pins s1 σ H1 _ J1 q1) ?_
  rintro u s2 ⟨z, H2, J2, r2, a, C, rfl, T, no, ea, q⟩
  cases (show u = Value.ref a from r2)
  exact xst_new T J2 ea no r1 fun dx s3 n ne J3 => ⟨σ, _, J3, q dx n ne⟩
/-- C(e, ..) -/
theorem pmk_x {CX : CXT} {C fI : Addr} {k : Nat} {fd : FuncData} {ps : List Str} {sp : Sp} {ds : List Value} {dvs : List V} (T : XoC X.K C B newId initId bmB) (iC : PySem.W.findIn X.K (.ref C) "__init__" = some (some (.ref fI))) (tI : PySem.W.typeIn X.K (.ref fI) = some (.type "function"))
    (F1 : FnOk X.prog X.w X.K X.mg X.base CX k fI fd ps sp) (hr : Room (k + 1) X.A) (hb : Binds X.K fd ps ds) (hd : Vals dvs ds) (hx : Passes CX X (fun _ _ _ => False)) (hg : Gl X x) (hm : X.mg x = some (.ref C)) (ha : PA X (e :: es) ta)
    (hdb : (x == ("__debug__" : Str)) = false := by decide) (he : starEach (e :: es) X.env = (false, eval e X.env) :: starEach es X.env := by rfl) (hpl : (backTo pos (starEach es X.env)).any (·.1) = false := by rfl) :
    PMk X (.Call (.Name x p) (e :: es) [] pos) (tMkO C sp dvs ta) := by
  intro pins st σ H Q I want
  refine wpAny_Call_Name_kw (ld_glob I hg hm (PySem.W.callWith_K (h₀ := X.base) I.ok.mod.kin T.kC (thn (ha.run pos pins st σ H _ I want) ?_) he hpl) hdb)
  rintro us s1 ⟨vs, H1, J, rel, few, q1⟩
  refine ⟨J.kIn, ?_⟩
  obtain ⟨c1, c2, c3, c4, c5, c6, c7, c8, c9, c10, c11, c12, c13, c14, c15, c16, hC, hT⟩ := PySem.W.excInit_of J.kIn T.ini
  show wpAny _ _ (call (.ref C) us) _ _ _
  obtain ⟨hp, g, dr, tk, os⟩ := s1
  have up1 : hp.objs.size ≤ hp.objs.size + 1 := Nat.le_succ _
  have hq := q1 (hp.objs.size + 1) (J.hok.fresh up1)
  have kk : ∀ b o, hp.get? b = some o → ((hp.push (PySem.W.kdv_tup us)).push (PySem.HandSPX.excO C hp.objs.size)).get? b = some o := fun b o z => Heap.get?_push_of_some _ (Heap.get?_push_of_some _ z)
  have made : ((hp.push (PySem.W.kdv_tup us)).push (PySem.HandSPX.excO C hp.objs.size)).get? (hp.objs.size + 1) = some (PySem.HandSPX.excO C hp.objs.size) := by heap_get
  have J2 : Inv X pins σ (upd H1 (hp.objs.size + 1) (exo (hp.objs.size + 1) C none)) ⟨(hp.push (PySem.W.kdv_tup us)).push (PySem.HandSPX.excO C hp.objs.size), g, dr, tk, os⟩ := J.laid (t' := tk) kk up1 (exo_ok made)
  have r2 : Vals (V.ref (hp.objs.size + 1) :: (vs ++ dvs)) (Value.ref (hp.objs.size + 1) :: (us ++ ds)) := .cons rfl (rel.append hd)
  have hl : (Value.ref (hp.objs.size + 1) :: us ++ ds).length = ps.length := by
    have z := r2.length
    rw [F1.len _ _ _ _ hq] at z
    exact z.symm
  have short : us.length ≤ sizeLine := by
    rw [← Paired.length rel, sizeLine_eq]
    omega
  refine wpAny_call (PySem.HandSPX.call_own T.base hT hC (PySem.W.looks_findIn J.kIn iC) (fun self => PySem.W.bind_fn J.kIn self tI) short (codeAny_mono (F1.run _ X.stack _ _ ⟨Value.ref (hp.objs.size + 1) :: us, []⟩ (Value.ref (hp.objs.size + 1) :: (us ++ ds)) _ _ (fun _ _ _ => False) (hr.make C us []) (J2.env0.make C us []) (hb _ (Value.ref (hp.objs.size + 1) :: us) J2.kIn hl) r2 hq) ?_))
  intro r s2 z
  cases r with
  | error er => exact hx pins σ _ _ er s2 J2 z
  | ok fl =>
    cases fl with
    | ret u =>
      obtain ⟨v, H2, os2, bare2, un2, hok2, rv, ev, dd, fs, ea, ed, nd1, q2⟩ := z
      subst ev
      obtain ⟨h2, g2, d2, t2, os3⟩ := s2
      exact ⟨rv, mk_end (raises_own T.exC T.tyC) J up1 kk un2 hok2 os2 bare2 ea ed nd1 q2⟩
    | next => exact z.elim
    | brk => exact z.elim
    | cont => exact z.elim
end
end HF
/-! a refusal caught by one of several classes, and kept -/
namespace HF
open PySem PySem.Spec PyProof.Rows L2
/-- an exception of the class cls that was caught: at a, its dict at d -/
def ExH (cls : Value) (d : Option Addr) (a : Addr) : HO := .ext fun h => ∃ oe vs, h.get? a = some oe ∧ Zc cls d oe ∧ oe.data = .fields vs
theorem exH_ok {P : Program} {w : World} {H : Hp} {h : Heap} {a : Addr} {cls : Value} {d : Option Addr} {oe : Obj} {vs : Array Value} (e : h.get? a = some oe) (z : Zc cls d oe) (hd : oe.data = .fields vs) : ObjOk P w H h a (ExH cls d a) := by
  refine ⟨⟨oe, vs, e, z, hd⟩, ⟨oe, e⟩, ?_⟩
  rintro h1 h2 ⟨o2, v2, e2, z2, d2⟩ k
  exact ⟨o2, v2, k _ e2, z2, d2⟩
theorem fly_keeps {Bs h h2 : Heap} {l : List Env} {a : Addr} {Z : Obj → Prop} (f : PySem.HandSPX.FlyingZ Bs l a Z h) (k : ∀ b o, h.get? b = some o → h2.get? b = some o) : PySem.HandSPX.FlyingZ Bs l a Z h2 := by
  obtain ⟨f1, f2, f3, oe, vs, T, oT, tt, e1, e2, e3, e4, e5, e6, e7, e8, e9⟩ := f
  refine ⟨fun b o z => k b o (f1 b o z), f2, f3.of_keeps fun b o z _ => ⟨o, k b o z, rfl⟩, oe, vs, T, oT, tt, k _ _ e1, e2, e3, e4, e5, e6, k _ _ e7, e8, e9⟩
theorem Inv.track {X : Cx} {pins : List (Addr × Obj)} {σ : L2.St} {H : Hp} {s : Shared} {a : Addr} {φ : Heap → Prop} (I : Inv X pins σ H s) (hn : H a = none) (h0 : X.s_0.heap.get? a = none) (nL : a ≠ X.env.locals)
    (nC : ∀ x c, X.env.cells.lookup x = some c → c ≠ a) (nP : ∀ p ∈ X.pn ++ pins, p.1 ≠ a) (new : ObjOk X.prog X.w (upd H a (.ext φ)) s.heap a (.ext φ)) : Inv X pins σ (upd H a (.ext φ)) s where
  ok := I.ok
  os := I.os
  bare := I.bare
  base :=
    { keep := I.base.keep
      slot := I.base.slot
      free := fun b o z n hx => by
        have ne : b ≠ a := fun e => by
          rw [e, h0] at z
          exact nomatch z
        rw [upd_ne ne]
        exact I.base.free b o z n hx
      there := I.base.there
      tups := fun b xs z => by
        have q := I.base.tups b xs z
        rw [upd_ne (ne_of_none q hn)]
        exact q
      frzs := fun b o u z => by
        have q := I.base.frzs b o u z
        rw [upd_ne (ne_of_none q hn)]
        exact q
      tbls := fun b ps z => by
        obtain ⟨more, q⟩ := I.base.tbls b ps z
        exact ⟨more, by rw [upd_ne (ne_of_none q hn)]; exact q⟩ }
  loc := I.loc
  cell := I.cell
  free := by
    rw [upd_ne nL.symm]
    exact I.free
  freeC := fun x c e => by
    rw [upd_ne (nC x c e)]
    exact I.freeC x c e
  pin := fun p hp => by
    obtain ⟨p1, p2, p3⟩ := I.pin p hp
    exact ⟨p1, by rw [upd_ne (nP p hp)]; exact p2, p3⟩
  hok := fun b o z => by
    by_cases e : b = a
    · subst e
      rw [upd_same] at z
      cases z
      exact new
    · rw [upd_ne e] at z
      exact (I.hok b o z).stay (fun _ _ _ q => q) (fun c hc => by rw [upd_ne (ne_of_none hc hn)]; exact hc) fun c xs hc => by rw [upd_ne (ne_of_none hc hn)]; exact hc
  len := I.len
/-- what the clause wishes: the exception stays, at a -/
def wHold (K : PySem.W.Frag) (Cs : List Addr) (i : Nat) (ts : Addr → Value → Option Addr → TS) (Wout : WX) (D : Ends) : WX := fun cls d σ H =>
  ∃ b, PySem.W.exmAny K cls (Cs.map Value.ref) = some b ∧
    (b = true → ∀ a, H a = none → ts a cls d { nx := fun τ G => D.nx (τ.set i none) (upd G a (ExH cls d a)), rt := fun _ _ => False, bk := fun _ _ => False, ct := fun _ _ => False } (σ.set i (some (.ref a))) H) ∧ (b = false → Wout cls d σ H)
section
variable {X : Cx} {n : Str} {i : Nat} {body suite : List Stmt} {b₀ : Stmt} {x1 : Nat} {np pos pos' : Pos} {tb : WX → TS} {ts : Addr → Value → Option Addr → TS} {Wout : WX} {n1 n2 n3 n4 : Str} {q1 q2 q3 q4 : Pos} {C1 C2 C3 C4 : Addr}
theorem ps_try_hold (top : X.stack = X.env :: X.outer) (frm : X.env.frame = some X.env.locals) (nd : X.N.Nodup) (hi : X.N[i]? = some n) (loc : X.env.kindOf n = some .local) (ex0 : X.ex = [])
    (g1 : Gl X n1) (m1 : X.mg n1 = some (.ref C1)) (g2 : Gl X n2) (m2 : X.mg n2 = some (.ref C2)) (g3 : Gl X n3) (m3 : X.mg n3 = some (.ref C3)) (g4 : Gl X n4) (m4 : X.mg n4 = some (.ref C4)) (tk : Takes X Wout)
    (hb : ∀ (W : WX) (pn : List (Addr × Obj)) (xe : Value → Shared → Prop), Takes (X.tr pn xe) W → PassesOwn (model X.prog X.w) X.A X.env xe → PSs (X.tr pn xe) body (tb W))
    (hsu : ∀ (a : Addr) (oe : Obj) (cls : Value) (d : Option Addr) (pn : List (Addr × Obj)), Zc cls d oe → (∃ vs, oe.data = .fields vs) → PSs (X.suite a ((a, oe) :: pn)) (b₀ :: suite) (ts a cls d))
    (d1 : (n1 == ("__debug__" : Str)) = false := by decide) (d2 : (n2 == ("__debug__" : Str)) = false := by decide) (d3 : (n3 == ("__debug__" : Str)) = false := by decide) (d4 : (n4 == ("__debug__" : Str)) = false := by decide) :
    PS X (.Try body [.ExceptHandler (some (.Tuple [.Name n1 q1, .Name n2 q2, .Name n3 q3, .Name n4 q4] x1 np)) (some n) (b₀ :: suite) pos'] [] [] pos) (fun D σ H => tb (wHold X.K [C1, C2, C3, C4] i ts Wout D) D σ H) := by
  refine ⟨fun pins st σ H D I want => ?_⟩
  have ok := I.ok
  have frs1 : X.A.frames = some (X.env :: X.outer) := by rw [ok.frames, top]
  refine wpAny_Try_except ?_
  refine wpAny_mono ((hb (wHold X.K [C1, C2, C3, C4] i ts Wout D) (X.pn ++ pins) (fun e u1 => wpAny (model X.prog X.w) X.A (noteFrame e X.env) (fun _ u2 => wpAny (model X.prog X.w) X.A (setFlight e none) (fun _ u3 =>
    wpAny (model X.prog X.w) X.A (handleBy e X.env [.ExceptHandler (some (.Tuple [.Name n1 q1, .Name n2 q2, .Name n3 q3, .Name n4 q4] x1 np)) (some n) (b₀ :: suite) pos']) (SP X pins D) X.xe u3) X.xe u2) X.xe u1) ?grab PassesOwn.looking).run [] st σ H D (I.toTry _) want) ?thru (fun e u he => he)
  case grab =>
    rintro u sx ⟨a, Bs, sI, pins2, σ2, H2, cls, d, rfl, JT, nb, up, sky, na, eos, ag, b, hb1, yes, no⟩
    have J : Inv X pins σ2 H2 sI := JT.ofTry ok
    have sky2 : Sky Bs (X.env :: X.outer) a (Zc cls d) X.env.locals sx.heap := by
      rw [← top]
      exact sky
    show wpAny (model X.prog X.w) X.A (noteFrame (.ref a) X.env) _ _ _
    refine Sky.land Zc.steady frs1 frm sky2 fun h3 fl3 up3 => ?_
    have J3 : Inv X pins σ2 H2 { sx with heap := h3 } := J.landed nb fl3.1 (up.trans up3) eos ag
    obtain ⟨oe3, vs3, he3, hz3, hd3⟩ := fl3.there
    have off : ∀ {h : Heap} {o : Obj} {vs : Array Value}, h.FunFrames Bs (X.env :: X.outer) → h.get? a = some o → o.data = .fields vs → a ∉ frs (X.env :: X.outer) := by
      intro h o vs ff e dd hm
      obtain ⟨_, o2, e2, bad⟩ := ff.mem hm
      rw [e] at e2
      cases e2
      exact bad _ dd
    have nfr := off fl3.2.2.1 he3 hd3
    have nL : a ≠ X.env.locals := fun z => nfr (List.mem_filterMap.mpr ⟨X.env, List.mem_cons_self, by rw [frm, z]⟩)
    have nF : a ∉ X.fs := fun hm => by
      obtain ⟨e, he, q⟩ := List.mem_filterMap.mp hm
      exact nfr (List.mem_filterMap.mpr ⟨e, List.mem_cons_of_mem _ he, q⟩)
    have bareB : Bs.get? a = none := fl3.2.1
    have gone : sI.heap.get? a = none := by
      cases e : sI.heap.get? a with
      | none => rfl
      | some o =>
        have z := nb a o e (by rw [top]; exact nfr)
        rw [bareB] at z
        exact nomatch z
    have gone0 : X.s_0.heap.get? a = none := by
      cases e : X.s_0.heap.get? a with
      | none => rfl
      | some o =>
        obtain ⟨o2, z⟩ := J.base.there a o e (by rw [ex0]; exact List.not_mem_nil)
        rw [gone] at z
        exact nomatch z
    have apart : ∀ p ∈ X.pn ++ pins, p.1 ≠ a := fun p hp z => by
      have q := (J.pin p hp).1
      rw [z, gone] at q
      exact nomatch q
    have S3 := J3.suite he3 hd3 na nL nF
    refine wpAny_handleBy_cons (codeAny_handlers_test ?_) (by intro q; cases q)
    have LT : PySem.W.Looks (model X.prog X.w) h3 (typeOf (.ref a)) cls := fun A Q E s k q => wpAny_typeOf_ref (k _ _ he3) (by rw [hz3.1]; exact q)
    have kp4 : ∀ b o, h3.get? b = some o → (h3.push { cls := .type "tuple", data := .seq [Value.ref C1, Value.ref C2, Value.ref C3, Value.ref C4].toArray }).get? b = some o := fun _ _ z => Heap.get?_push_of_some _ z
    have at4 : (h3.push { cls := .type "tuple", data := .seq [Value.ref C1, Value.ref C2, Value.ref C3, Value.ref C4].toArray }).get? h3.objs.size = some { cls := .type "tuple", data := .seq [Value.ref C1, Value.ref C2, Value.ref C3, Value.ref C4].toArray } := Heap.get?_push_size _ rfl
    refine wpAny_Tuple_spliced (PyProof.Rows.args_cons (ld_glob (X := X.suite a ((a, oe3) :: (X.pn ++ pins))) S3 g1 m1 ?_ d1))
    refine PyProof.Rows.args_cons (ld_glob (X := X.suite a ((a, oe3) :: (X.pn ++ pins))) S3 g2 m2 ?_ d2)
    refine PyProof.Rows.args_cons (ld_glob (X := X.suite a ((a, oe3) :: (X.pn ++ pins))) S3 g3 m3 ?_ d3)
    refine PyProof.Rows.args_cons (ld_glob (X := X.suite a ((a, oe3) :: (X.pn ++ pins))) S3 g4 m4 ?_ d4)
    refine PyProof.Rows.args_nil ⟨(by rw [sizeLine_eq]; exact (by decide : 4 ≤ 16777216)), ?_⟩
    generalize hh4 : h3.push { cls := .type "tuple", data := .seq [Value.ref C1, Value.ref C2, Value.ref C3, Value.ref C4].toArray } = h4 at *
    have fl4 := fly_keeps fl3 kp4
    have up4 : sI.heap.UpToSlots h4 := fun b o e hd => by
      obtain ⟨sl, z⟩ := (up.trans up3) b o e hd
      exact ⟨sl, kp4 _ _ z⟩
    have J4 : Inv X pins σ2 H2 { sx with heap := h4 } := J.landed nb fl4.1 up4 eos ag
    have LM := PySem.W.exm_tup4 (M := model X.prog X.w) (K := X.K) (tp := h3.objs.size) (e := a) J4.kIn (LT.keeps kp4) at4 hb1
    refine LM.here ?_
    cases b with
    | true =>
      refine codeAny_handlers_suite_as ?_
      refine PySem.HandSPX.lands_againZ fl4 fun h5 fl5 up5 => ?_
      have J5 : Inv X pins σ2 H2 { sx with heap := h5 } := J.landed nb fl5.1 (up4.trans up5) eos ag
      obtain ⟨oe5, vs5, he5, hz5, hd5⟩ := fl5.there
      have S5 := J5.suite he5 hd5 na nL nF
      refine store_ok (X := X.suite a ((a, oe5) :: (X.pn ++ pins))) (v := .ref a) S5 nd hi (.inl loc) rfl (fun s6 S6 => ?_) (.inr loc)
      refine wpAny_mono ((hsu a oe5 cls d (X.pn ++ pins) hz5 ⟨_, hd5⟩).run [] s6 _ H2 _ S6 (yes rfl a na)) (fun fl7 s7 hsp => ?_) (fun _ _ z => z.elim)
      cases fl7 with
      | next =>
        obtain ⟨σ7, H7, S7, q7⟩ := hsp
        obtain ⟨pa1, pa2, pa3, pa4, pa5⟩ := S7.pin (a, oe5) (List.mem_append_left _ List.mem_cons_self)
        have J7 : Inv X pins σ7 H7 s7 := S7.unsuite ok
        have cells : ∀ x c, X.env.cells.lookup x = some c → c ≠ a := fun x c e z => by
          obtain ⟨v, ov, w1, w2⟩ := J7.cell x c e
          rw [z, pa1] at w1
          cases w1
          exact pa5 _ w2
        have J8 : Inv X pins σ7 (upd H7 a (ExH cls d a)) s7 := Inv.track J7 pa2 gone0 nL cells apart (exH_ok pa1 hz5 hd5)
        exact gone_ok J8 nd hi loc fun s8 J9 => ⟨_, _, J9, q7⟩
      | brk =>
        obtain ⟨σ7, H7, S7, q7⟩ := hsp
        exact q7.elim
      | cont =>
        obtain ⟨σ7, H7, S7, q7⟩ := hsp
        exact q7.elim
      | ret v =>
        obtain ⟨y7, σ7, H7, S7, r7, q7⟩ := hsp
        exact q7.elim
    | false =>
      show wpAny _ X.A (handleBy (.ref a) X.env []) _ _ _
      refine wpAny_handleBy_nil ?_
      obtain ⟨k1, k2, k3, oe, vs, T, oT, tt, he, hz, hd, h1, hr⟩ := id fl4
      unfold PySem.passOn
      refine wpAny_bind (wpAny_field he hd h1 ?_)
      rw [if_neg (show ¬ ((Value.ref T == Value.none) = true) from by simp)]
      have out : wpAny (model X.prog X.w) X.A (setFlight (.ref a) X.env.frame) (fun _ u4 => wpAny (model X.prog X.w) X.A (throw (.ref a) : Sem Flow) (SP X pins D) X.xe u4) X.xe { sx with heap := h4 } := by
        rw [frm]
        refine PySem.HandSPX.setFlight_upZ fl4 fun h5 fh5 up5 => wpAny_throw (tk _ _ ?_)
        exact ⟨a, Bs, sI, pins, σ2, H2, cls, d, rfl, J, nb, up4.trans up5, .inr (.inr (by rw [top]; exact fh5)), na, eos, ag, no rfl⟩
      first
        | exact wpAny_bind (wpAny_pure (wpAny_bind out))
        | exact wpAny_bind out
  case thru =>
    intro f u hsp
    cases f with
    | next =>
      obtain ⟨τ, G, J, q⟩ := hsp
      exact wpAny_execs_nil ⟨τ, G, J.ofTry ok, q⟩
    | brk =>
      obtain ⟨τ, G, J, q⟩ := hsp
      exact ⟨τ, G, J.ofTry ok, q⟩
    | cont =>
      obtain ⟨τ, G, J, q⟩ := hsp
      exact ⟨τ, G, J.ofTry ok, q⟩
    | ret v =>
      obtain ⟨y, τ, G, J, r, q⟩ := hsp
      exact ⟨y, τ, G, J.ofTry ok, r, q⟩
end
end HF
namespace HF
open PySem PySem.Spec PyProof.Rows L2
/-- what isinstance and the reading of fields ask of a class -/
structure XIs (K : PySem.W.Frag) (C : Addr) : Prop where
  cl : (PySem.W.clsIn K C).isSome = true
  ga : PySem.W.findIn K (.ref C) "__getattribute__" = some (some (.builtin "BaseException.__getattribute__"))
  gg : PySem.W.findIn K (.ref C) "__getattr__" = some none
  ex : PySem.W.subIn K (.ref C) (.type "BaseException") = some true
  hd : PySem.W.hasDictIn K C = true
  ca : PySem.W.findIn K (.ref C) "__class__" = some (some (.builtin "object.__class__"))
  sg : PySem.W.specialIn K (.builtin "object.__class__") "__get__" = some (some (.builtin "getset_descriptor.__get__"))
  tk : PySem.W.takesIn K (.builtin "object.__class__") = some true
  ob : PySem.W.mroIn K C (.type "object") = some true
section
variable {X : Cx}
theorem held_inst {pins : List (Addr × Obj)} {σ : L2.St} {H : Hp} {s : Shared} {a C dd : Addr} {fs : List (Str × V)} (I : Inv X pins σ H s) (ha : H a = some (ExH (.ref C) (some dd) a)) (hd : H dd = some (.xd fs)) :
    ∃ (oe od : Obj) (mA : Str → Option Value), PySem.W.InstAt s.heap a oe C (some od) ∧ (∀ f, RelO (fs.lookup f) (mA f)) ∧ (∀ f, PySem.W.lookIn f od = some (mA f)) := by
  obtain ⟨⟨oe, vs, e1, z, e2⟩, _⟩ := (show ObjOk X.prog X.w H s.heap a (ExH (.ref C) (some dd) a) from I.hok a _ ha)
  obtain ⟨mA, ns, rel⟩ := (show ObjOk X.prog X.w H s.heap dd (.xd fs) from I.hok dd _ hd)
  obtain ⟨od, ho, hl⟩ := lookIn_ns ns
  refine ⟨oe, od, mA, ⟨e1, z.1, by unfold PySem.W.notCls; rw [e2] <;> rfl, by rw [z.2]; exact ho⟩, rel, hl⟩
def rIsX (K : PySem.W.Frag) : List V → Hp → VK → Prop := fun xs H Q => ∃ (a C dd : Addr) (fs : List (Str × V)) (c : V) (cv : Value) (b : Bool), xs = [.ref a, c] ∧ H a = some (ExH (.ref C) (some dd) a) ∧ H dd = some (.xd fs) ∧ XIs K C ∧ (∀ u, RelV c u → u = cv) ∧ PySem.W.kitOne K (.ref C) cv = some b ∧ Q (.bl b) H
theorem call_isX : CallR X (.builtin "isinstance") (rIsX X.K) := by
  intro pins s σ H xs us Q I rel hyp
  obtain ⟨a, C, dd, fs, c, cv, b, rfl, ha, hd, T, hc, e, q⟩ := hyp
  obtain ⟨u1, u2, rfl, r1, r2⟩ := vals2 rel
  cases r1
  cases hc _ r2
  obtain ⟨oe, od, mA, J, _, _⟩ := held_inst I ha hd
  exact PySem.W.kia_one (PySem.W.kitx_exc T.cl T.ga T.gg T.ex T.ca T.sg T.tk T.ob) I.kIn J e (fun z => nomatch z) fun tk => ⟨.bl b, H, I.kept (t' := tk) fun _ _ z => z, rfl, q⟩
def rIsXT (K : PySem.W.Frag) : List V → Hp → VK → Prop := fun xs H Q => ∃ (a t C dd : Addr) (fs : List (Str × V)) (cs : List Addr) (b : Bool), xs = [.ref a, .ref t] ∧ H a = some (ExH (.ref C) (some dd) a) ∧ H dd = some (.xd fs) ∧ XIs K C ∧ H t = some (.tup (cs.map V.ref)) ∧ PySem.W.kitAny K (.ref C) (cs.map Value.ref) = some b ∧ Q (.bl b) H
theorem call_isXT : CallR X (.builtin "isinstance") (rIsXT X.K) := by
  intro pins s σ H xs us Q I rel hyp
  obtain ⟨a, t, C, dd, fs, cs, b, rfl, ha, hd, T, ht, e, q⟩ := hyp
  obtain ⟨u1, u2, rfl, r1, r2⟩ := vals2 rel
  cases r1
  cases r2
  obtain ⟨oe, od, mA, J, _, _⟩ := held_inst I ha hd
  obtain ⟨its, rv, ⟨o, ho, hcl, n, hdat⟩, _⟩ := I.tuple (.inl (.inl ht) : SqT X.K H t (cs.map V.ref))
  have eits := refs_at rv
  subst eits
  obtain ⟨oc, odd, oda, osl⟩ := o
  dsimp only at hcl hdat
  subst hcl hdat
  exact PySem.W.kia_tup (PySem.W.kitx_exc T.cl T.ga T.gg T.ex T.ca T.sg T.tk T.ob) I.kIn J ho e (fun z => nomatch z) fun tk => ⟨.bl b, H, I.kept (t' := tk) fun _ _ z => z, rfl, q⟩
def tXfH (K : PySem.W.Frag) (f : Str) (te : TE) : TE := fun σ H Q => te σ H fun x H1 => ∃ (a C dd : Addr) (fs : List (Str × V)) (v : V), x = .ref a ∧ H1 a = some (ExH (.ref C) (some dd) a) ∧ H1 dd = some (.xd fs) ∧ fs.lookup f = some v ∧ XIs K C ∧ PySem.W.findIn K (.ref C) f = some none ∧ Q v H1
theorem pe_xfH {e : Expr} {te : TE} {pos : Pos} {f : Str} (he : PE X e te) (hb : attributeBase e f X.env (eval e X.env) = eval e X.env := by rfl) : PE X (.Attribute e f pos) (tXfH X.K f te) := by
  refine ⟨fun pins s σ H Q I want => attr_of hb (thn (he.run pins s σ H _ I want) ?_)⟩
  rintro u s1 ⟨x, H1, J1, rx, a, C, dd, fs, v, rfl, ha, hd, hl, T, no, q⟩
  cases (show u = Value.ref a from rx)
  obtain ⟨oe, od, mA, J, rel, look⟩ := held_inst J1 ha hd
  obtain ⟨u2, hu, ru⟩ := RelO.some_of (v := v) (o := mA f) (by rw [← hl]; exact rel f)
  exact PySem.HandSPX.exc_get J1.kIn J T.ga T.gg T.ex (PySem.W.findObj_own T.hd no rfl (by rw [look, hu])) (handed_of ru) ⟨v, H1, J1.tok _, ru, q⟩
end
end HF
namespace HF
open PySem PySem.Spec PyProof.Rows L2
/-! ### rising lists of texts -/
theorem srt_eq (xs : List Str) : srt xs = xs.mergeSort fun a b => decide (a.cps.toList ≤ b.cps.toList) := by
  unfold srt
  have e := PySem.W.dataLe_str (β := Str) id
  have e2 : PySem.W.dataLe false PyData.str = fun a b : Str => decide (a.cps.toList ≤ b.cps.toList) := e
  rw [e2]
theorem srt_rise (xs : List Str) : (srt xs).Pairwise fun a b => a.cps.toList ≤ b.cps.toList := by
  rw [srt_eq]
  refine (List.pairwise_mergeSort (le := fun a b : Str => decide (a.cps.toList ≤ b.cps.toList)) (fun a b c h1 h2 => ?_) (fun a b => ?_) xs).imp fun h => of_decide_eq_true h
  · exact decide_eq_true (List.le_trans (of_decide_eq_true h1) (of_decide_eq_true h2))
  · rcases List.le_total a.cps.toList b.cps.toList with h | h
    · simp [h]
    · simp [h]
theorem str_anti {a b : Str} (h1 : a.cps.toList ≤ b.cps.toList) (h2 : b.cps.toList ≤ a.cps.toList) : a = b := by
  have e := List.le_antisymm h1 h2
  obtain ⟨⟨x⟩⟩ := a
  obtain ⟨⟨y⟩⟩ := b
  have e2 : x = y := e
  rw [e2]
theorem rise_one : ∀ {xs ys : List Str}, xs.Perm ys → (xs.Pairwise fun a b => a.cps.toList ≤ b.cps.toList) → (ys.Pairwise fun a b => a.cps.toList ≤ b.cps.toList) → xs = ys
  | [], ys, p, _, _ => p.nil_eq
  | x :: xs, [], p, _, _ => p.symm.nil_eq.symm
  | x :: xs, y :: ys, p, h1, h2 => by
    obtain ⟨a1, a2⟩ := List.pairwise_cons.mp h1
    obtain ⟨b1, b2⟩ := List.pairwise_cons.mp h2
    have e : x = y := by
      rcases List.mem_cons.mp (p.mem_iff.mp List.mem_cons_self) with q | q
      · exact q
      · rcases List.mem_cons.mp (p.mem_iff.mpr (List.mem_cons_self (a := y))) with q2 | q2
        · exact q2.symm
        · exact str_anti (a1 y q2) (b1 x q)
    subst e
    rw [rise_one (List.Perm.cons_inv p) a2 b2]
theorem srt_filter (p : Str → Bool) (xs : List Str) : srt (xs.filter p) = (srt xs).filter p :=
  rise_one ((srt_perm _).trans ((srt_perm xs).filter p).symm) (srt_rise _) ((srt_rise xs).filter p)
/-! ### x not in a tuple, whatever x -/
section
variable {X : Cx}
def rNotInT (K : PySem.W.Frag) : R2 := fun x y H Q => ∃ d ds, Dp K H x d ∧ Dp K H y (.tuple ds) ∧ SeqAt.shaped d = true ∧ SeqAt.shaped (.tuple ds) = true ∧ Q (.bl (!ds.any fun z => PyData.eqv z d)) H
theorem op_notInT (hu : X.A.units + 65 < cLine) : OpR X (compareOp .NotIn) (rNotInT X.K) := by
  intro pins s σ H x y v u Q I rx ry hyp
  obtain ⟨d, ds, hd, he, sd, se, q⟩ := hyp
  obtain ⟨as, r1⟩ := Dp.reads I d x v hd rx
  obtain ⟨bs, r2⟩ := Dp.reads I (.tuple ds) y u he ry
  have deep : d.depth ≤ 64 := of_decide_eq_true (Bool.and_eq_true_iff.mp sd).2
  exact SeqAt.notIn_tuple_reads r2 r1 (SeqAt.canLay_of_shaped se) (SeqAt.canLay_of_shaped sd) (by have := Nat.min_le_right (PyData.depthAll ds) d.depth; omega) ⟨.bl _, H, I, rfl, q⟩
end
theorem eqv_strs (b : Str) (zs : List Str) : ((zs.map PyData.str).any fun z => PyData.eqv z (.str b)) = decide (b ∈ zs) := by
  induction zs with
  | nil => simp
  | cons z r ih =>
    rw [List.map_cons, List.any_cons, ih]
    show ((z == b) || decide (b ∈ r)) = decide (b ∈ z :: r)
    by_cases e : z = b
    · simp [e]
    · have e2 : ¬ b = z := fun q => e q.symm
      simp [e, e2]
theorem eqv_other {d : PyData} (h : ∀ b, d ≠ .str b) (zs : List Str) : ((zs.map PyData.str).any fun z => PyData.eqv z d) = false := by
  induction zs with
  | nil => rfl
  | cons z r ih =>
    rw [List.map_cons, List.any_cons, ih, Bool.or_false]
    cases d with
    | str b => exact absurd rfl (h b)
    | _ => rfl
theorem shp_tup {zs : List Str} (h : ∀ z ∈ zs, Nm z) : SeqAt.shaped (.tuple (zs.map PyData.str)) = true := by
  unfold SeqAt.shaped
  rw [show (PyData.tuple (zs.map PyData.str)).canLay0 = true from canLay_strs h]
  show (true && decide (PyData.depthAll (zs.map PyData.str) + 1 ≤ 64)) = true
  rw [depth_strs]
  rfl
/-! ### promises -/
def clsB : Stmt → List Stmt
  | .ClassDef _ _ _ body _ _ _ _ _ _ _ => body
  | _ => []
abbrev initOf (st : Stmt) : Stmt := (clsB st).getD 0 (.Pass ⟨0, 0, 0, 0⟩)
def spXI (C : Addr) (f : Str) : Sp := fun vs H Q _ => ∃ (a : Addr) (v : V), vs = [.ref a, v] ∧ H a = some (exo a C none) ∧ ∀ dx, H dx = none → dx ≠ a → Q .non (upd (upd H dx (exd dx [(f, v)])) a (exo a C (some dx)))
variable (K : PySem.W.Frag)
/-- where the heap has such a book or not, and may it go -/
def spLaidX (CN CM : Addr) : Sp := fun vs H Q E => ∃ (h r : Addr) (v : V) (d : PyData) (zs : List Str) (qs : List (Str × Str)), vs = [.ref h, .ref r, v] ∧ Tp H h (zs.map V.str) ∧ PqA K H r qs ∧ Dp K H v d ∧ SeqAt.shaped d = true ∧ (∀ z ∈ zs, Nm z) ∧ zs.length ≤ 1000 ∧ qs.length ≤ 400 ∧
  ((∃ b, d = .str b ∧ b ∈ zs ∧ ((lets qs zs b = true ∧ ∀ (H' : Hp) (t : Addr), Same H H' → H t = none → Tp H' t ((onTop b zs).map V.str) → Q (.ref t) H') ∨ (lets qs zs b = false ∧ ∀ (H' : Hp) (dd : Addr), Same H H' → H' dd = some (.xd [(("book" : Str), v)]) → E (.ref CM) (some dd) H'))) ∨
    ((∀ b, d = .str b → b ∉ zs) ∧ ∀ (H' : Hp) (dd : Addr), Same H H' → H' dd = some (.xd [(("book" : Str), v)]) → E (.ref CN) (some dd) H'))
def spTold : Sp := fun vs H Q _ => ∃ (h r : Addr) (v : V) (d : PyData) (zs : List Str) (qs : List (Str × Str)), vs = [.ref h, .ref r, v] ∧ Tp H h (zs.map V.str) ∧ PqA K H r qs ∧ Dp K H v d ∧ SeqAt.shaped d = true ∧ (∀ z ∈ zs, Nm z) ∧ zs.length ≤ 1000 ∧ qs.length ≤ 400 ∧
  ((∃ b, d = .str b ∧ b ∈ zs ∧ ((lets qs zs b = true ∧ ∀ (H' : Hp) (t : Addr), Same H H' → Tp H' t ((onTop b zs).map V.str) → Q (.ref t) H') ∨ (lets qs zs b = false ∧ ∀ (H' : Hp) (l : Addr), Same H H' → H' l = some (.lst [.str "may not", v]) → Q (.ref l) H'))) ∨
    ((∀ b, d = .str b → b ∉ zs) ∧ ∀ (H' : Hp) (l : Addr), Same H H' → H' l = some (.lst [.str "none", v]) → Q (.ref l) H'))
def spMayGo : Sp := fun vs H Q _ => ∃ (h r : Addr) (zs : List Str) (qs : List (Str × Str)), vs = [.ref h, .ref r] ∧ Hq K H h zs ∧ PqA K H r qs ∧ zs.length ≤ 1000 ∧ qs.length ≤ 400 ∧
  ∀ (H' : Hp) (l : Addr), Same H H' → H l = none → H' l = some (.lst ((srt (zs.filter (lets qs zs))).map V.str)) → Q (.ref l) H'
def spStrange : Sp := fun vs H Q _ => ∃ (h : Addr) (zs : List Str), vs = [.ref h] ∧ Tp H h (zs.map V.str) ∧ zs.length ≤ 12 ∧
  ∀ (H' : Hp) (x : Str), Same H H' → x ∉ zs → Nm x → Q (.str x) H'
end HF
namespace HF
open PySem PySem.Spec PyProof.Rows L2
/-- three values by name, turned about -/
def g321 {α : Type} : List α → List α → List α
  | [], [r, h, u] => [u, h, r]
  | _, _ => []
theorem g321_rel {vs : List V} {us : List Value} {zs : List V} {ws : List Value} (h1 : Vals vs us) (h2 : Vals zs ws) : Vals (g321 vs zs) (g321 us ws) := by
  cases h1 with
  | nil =>
    cases h2 with
    | nil => exact .nil
    | cons a t =>
      cases t with
      | nil => exact .nil
      | cons b t2 =>
        cases t2 with
        | nil => exact .nil
        | cons c t3 =>
          cases t3 with
          | nil => exact .cons c (.cons b (.cons a .nil))
          | cons d t4 => exact .nil
  | cons a t =>
    exact .nil
/-- how the four refusals stand to one another -/
structure Kin (K : PySem.W.Frag) (CB CM CN CU : Addr) : Prop where
  xN : PySem.W.exmAny K (.ref CN) [.ref CB, .ref CM, .ref CN, .ref CU] = some true
  xM : PySem.W.exmAny K (.ref CM) [.ref CB, .ref CM, .ref CN, .ref CU] = some true
  nn : PySem.W.kitOne K (.ref CN) (.ref CN) = some true
  nl : PySem.W.kitOne K (.ref CN) (.type "LookupError") = some true
  nt : PySem.W.kitAny K (.ref CN) [.ref CM, .ref CU] = some false
  mn : PySem.W.kitOne K (.ref CM) (.ref CN) = some false
  mm : PySem.W.kitOne K (.ref CM) (.ref CM) = some true
  mr : PySem.W.kitOne K (.ref CM) (.type "RuntimeError") = some true
  mt : PySem.W.kitAny K (.ref CM) [.ref CB, .ref CN] = some false
end HF
namespace HF
open PySem PySem.Spec PyProof.Rows L2
theorem u65 {k : Nat} {A : Around} (r : Room k A) : A.units + 65 < cLine := by
  have := r.un
  omega
abbrev bmLE : List Value := [.type "LookupError", .type "Exception", .type "BaseException", .type "object"]
abbrev bmRE : List Value := [.type "RuntimeError", .type "Exception", .type "BaseException", .type "object"]
abbrev bmVE : List Value := [.type "ValueError", .type "Exception", .type "BaseException", .type "object"]
abbrev bmOE : List Value := [.type "OverflowError", .type "ArithmeticError", .type "Exception", .type "BaseException", .type "object"]
/-- what the top has written of a refusal with one field -/
structure XT (K : PySem.W.Frag) (mg : Str → Option Value) (x qn : Str) (st : Stmt) (f : Str) (B newId initId : String) (bmB : List Value) (C : Addr) where
  fI : Addr
  dI : FuncData
  T : XoC K C B newId initId bmB
  I : XIs K C
  gC : mg x = some (.ref C)
  no : PySem.W.findIn K (.ref C) f = some none
  iC : PySem.W.findIn K (.ref C) "__init__" = some (some (.ref fI))
  tI : PySem.W.typeIn K (.ref fI) = some (.type "function")
  F : Fun K "__init__" qn st fI dI
  b : Binds K dI ["self", f] []
  vV : PySem.W.findCls K (.type B) (.type "type") "__init__" = some (.val (.builtin initId))
/-- such a class, as it stands in the top's part of the heap -/
structure AtX (K : PySem.W.Frag) (x qn : Str) (st : Stmt) (f : Str) (B newId initId : String) (bmB : List Value) (C fI : Addr) : Prop where
  ns : PySem.W.nsIn K mainGlobals x = some (some (.ref C))
  iC : PySem.W.findIn K (.ref C) "__init__" = some (some (.ref fI))
  tI : PySem.W.typeIn K (.ref fI) = some (.type "function")
  fn : ∃ (oc : Value) (od an : Option Addr) (osl : Array (Option Value)) (kV doc pm cdv ct : Value), K.lookup fI = some ⟨oc, od, .func (PySem.W.fnOf "__init__" qn (defArgs st) (defBody st) (defScope st) .none kV doc pm an cdv ct), osl⟩ ∧ PySem.W.codeIn K cdv qn = true
  kp : PySem.W.keepIn K (.ref fI) = true
  ini : PySem.W.excInitIn K C bmB newId = true
  over : PySem.W.excOver K C bmB = true
  hdi : PySem.W.hasDictIn K C = true
  sa : PySem.W.findIn K (.ref C) "__setattr__" = some (some (.builtin "object.__setattr__"))
  exC : PySem.W.subIn K (.ref C) (.type "BaseException") = some true
  tyC : PySem.W.typeIn K (.ref C) = some (.type "type")
  kC : PySem.W.keepIn K (.ref C) = true
  cl : PySem.W.isClsIn K C = true
  ga : PySem.W.findIn K (.ref C) "__getattribute__" = some (some (.builtin "BaseException.__getattribute__"))
  gg : PySem.W.findIn K (.ref C) "__getattr__" = some none
  ca : PySem.W.findIn K (.ref C) "__class__" = some (some (.builtin "object.__class__"))
  sg : PySem.W.specialIn K (.builtin "object.__class__") "__get__" = some (some (.builtin "getset_descriptor.__get__"))
  tk : PySem.W.takesIn K (.builtin "object.__class__") = some true
  ob : PySem.W.mroIn K C (.type "object") = some true
  no : PySem.W.findIn K (.ref C) f = some none
  vV : PySem.W.findCls K (.type B) (.type "type") "__init__" = some (.val (.builtin initId))
theorem atx_mk {K : PySem.W.Frag} {x qn : Str} {st : Stmt} {f : Str} {B newId initId : String} {bmB : List Value} {C fI : Addr} {oc : Value} {od an : Option Addr} {osl : Array (Option Value)} {kV doc pm cdv ct : Value}
    (ns : PySem.W.nsIn K mainGlobals x = some (some (.ref C)))
    (iC : PySem.W.findIn K (.ref C) "__init__" = some (some (.ref fI)))
    (tI : PySem.W.typeIn K (.ref fI) = some (.type "function"))
    (l : K.lookup fI = some ⟨oc, od, .func (PySem.W.fnOf "__init__" qn (defArgs st) (defBody st) (defScope st) .none kV doc pm an cdv ct), osl⟩) (c : PySem.W.codeIn K cdv qn = true)
    (kp : PySem.W.keepIn K (.ref fI) = true)
    (ini : PySem.W.excInitIn K C bmB newId = true)
    (over : PySem.W.excOver K C bmB = true)
    (hdi : PySem.W.hasDictIn K C = true)
    (sa : PySem.W.findIn K (.ref C) "__setattr__" = some (some (.builtin "object.__setattr__")))
    (exC : PySem.W.subIn K (.ref C) (.type "BaseException") = some true)
    (tyC : PySem.W.typeIn K (.ref C) = some (.type "type"))
    (kC : PySem.W.keepIn K (.ref C) = true)
    (cl : PySem.W.isClsIn K C = true)
    (ga : PySem.W.findIn K (.ref C) "__getattribute__" = some (some (.builtin "BaseException.__getattribute__")))
    (gg : PySem.W.findIn K (.ref C) "__getattr__" = some none)
    (ca : PySem.W.findIn K (.ref C) "__class__" = some (some (.builtin "object.__class__")))
    (sg : PySem.W.specialIn K (.builtin "object.__class__") "__get__" = some (some (.builtin "getset_descriptor.__get__")))
    (tk : PySem.W.takesIn K (.builtin "object.__class__") = some true)
    (ob : PySem.W.mroIn K C (.type "object") = some true)
    (no : PySem.W.findIn K (.ref C) f = some none)
    (vV : PySem.W.findCls K (.type B) (.type "type") "__init__" = some (.val (.builtin initId))) : AtX K x qn st f B newId initId bmB C fI :=
  ⟨ns, iC, tI, ⟨oc, od, an, osl, kV, doc, pm, cdv, ct, l, c⟩, kp, ini, over, hdi, sa, exC, tyC, kC, cl, ga, gg, ca, sg, tk, ob, no, vV⟩
theorem AtX.xt {K : PySem.W.Frag} {x qn : Str} {st : Stmt} {f : Str} {B newId initId : String} {bmB : List Value} {C fI : Addr} {h : Heap} {mg : Str → Option Value} (a : AtX K x qn st f B newId initId bmB C fI) (X : K.In h) (G : h.Ns mainGlobals mg)
    (hB : ExcBaseFacts B newId initId bmB) (hS : StoreFacts B bmB "object.__setattr__" "object") (hb : ∀ fd, Fun K "__init__" qn st fI fd → Binds K fd ["self", f] []) : Nonempty (XT K mg x qn st f B newId initId bmB C) := by
  obtain ⟨oc, od, an, osl, kV, doc, pm, cdv, ct, l, c⟩ := a.fn
  have F := fun_mk (st := st) l c a.kp
  exact ⟨{ fI := fI, dI := _, T := ⟨hB, hS, a.ini, a.over, a.hdi, a.sa, a.exC, a.tyC, a.kC⟩, I := ⟨a.cl, a.ga, a.gg, a.exC, a.hdi, a.ca, a.sg, a.tk, a.ob⟩, gC := PySem.W.mg_of X G a.ns, no := a.no, iC := a.iC, tI := a.tI, F := F, b := hb _ F, vV := a.vV }⟩
end HF
/-! exceptions of own classes, made and kept as values -/
namespace HF
open PySem PySem.Spec PyProof.Rows L2
/-- what makes an exception gives it back: it is then held -/
theorem pe_held {X : Cx} {e : Expr} {t : L2.St → Hp → XK → Prop} (h : PMk X e t) :
    PE X e (fun σ H Q => t σ H fun cls d H1 => ∀ a, H1 a = none → Q (.ref a) (upd H1 a (ExH cls d a))) := by
  refine ⟨fun pins s σ H Q I want => wpAny_mono (h pins s σ H _ I want) (fun u s1 hu => ?_) fun _ _ x => x⟩
  obtain ⟨a, oe, vs, sI, H', cls, d, rfl, J, kp, ne, ha, hz, hd, _, na, os, ag, _, q⟩ := hu
  have J2 := J.laidN (t' := s1.toks) kp ne na (exH_ok ha hz hd)
  obtain ⟨a1, a2, a3, a4, a5⟩ := s1
  have e5 : a5 = sI.os := os
  subst e5
  exact ⟨.ref a, _, ⟨J2.ok, J2.os, ag, J2.base, J2.loc, J2.cell, J2.free, J2.freeC, J2.pin, J2.hok, J2.len⟩, rfl, q a na⟩
end HF
namespace HF
open PySem PySem.Spec PyProof.Rows L2
section
variable {h : Heap} {g : Array GenState} {d : Drawn} {t : Nat} {os : OsState} {nm q : Str} {C N : Addr} {bs bm bmB : List Value} {hdct : Bool} {sn : List Str} {sub : List Value} {ab : Bool} {col : Option Bool} {dd : Option Addr} {k0 k1 k2 k3 k5 : Option Value} {B newId initId : String}
/-- what is given by name doesn't matter to the making -/
theorem exk_check {M : Model} {A : Around} {E : Value → Shared → Prop} {rest : List Value} {kw : List (Str × Value)} {Q : Unit → Shared → Prop}
    (F : ExcBaseFacts B newId initId bmB) (hT : ∀ X : String, bm.contains (.type X) = bmB.contains (.type X))
    (hC : h.get? C = some (excClassObj nm q C N bs bm hdct sn sub ab col dd k0 k1 k2 k3 k5 newId)) (hq : Q () ⟨h, g, d, t, os⟩) :
    wpAny M A (checkBuiltinCall newId ⟨.ref C :: rest, kw⟩) Q E ⟨h, g, d, t, os⟩ := by
  have under : (Value.ref C :: bm).contains (.type B) = true := by
    rw [List.contains_cons, hT, F.hasB]
    exact Bool.or_true _
  have star := F.noStar
  simp only [checkBuiltinCall, F.newKind, F.newSplit, F.newRow]
  repeat (first
    | refine wpAny_loadPart_at hC ?_
    | (refine wpAny_isSubtype_exc hC ?_
       rw [under])
    | refine wpAny_staticBase_exc hC ?_
    | refine wpAny_madeBy_exc hC ?_
    | simp only [bne_self_eq_false, Bool.false_eq_true, if_false]
    | wp_step)
  exact hq
theorem exk_new {prog : Program} {w : World} {A : Around} {R : Result → Shared → Prop} {rest : List Value} {kw : List (Str × Value)}
    (F : ExcBaseFacts B newId initId bmB) (hT : ∀ X : String, bm.contains (.type X) = bmB.contains (.type X))
    (hC : h.get? C = some (excClassObj nm q C N bs bm hdct sn sub ab col dd k0 k1 k2 k3 k5 newId)) (few : rest.length ≤ sizeLine)
    (hq : R (.ok (.ret (.ref (h.objs.size + 1)))) ⟨(h.push (PySem.W.kdv_tup rest)).push (PySem.HandSPX.excO C h.objs.size), g, d, t, os⟩) :
    codeAny (model prog w) A (.builtin newId ⟨.ref C :: rest, kw⟩) R ⟨h, g, d, t, os⟩ := by
  have fin := F.ends
  have inC : ∀ T : String, (Value.ref C :: bm).contains (.type T) = bmB.contains (.type T) := fun T => by
    rw [List.contains_cons, hT]
    rfl
  have y1 : (Value.ref C :: bm).contains (.type B) = true := by rw [inC, F.hasB]
  have y2 : (Value.ref C :: bm).contains (.type "AttributeError") = false := by rw [inC, F.noAttr]
  have y3 : (Value.ref C :: bm).contains (.type "NameError") = false := by rw [inC, F.noName]
  refine codeAny_builtinAt F.entry ?_
  unfold Builtin.«BaseException.__new__»
  refine PySem.wpAt_bind (show PySem.wpAt _ _ _ (stack >>= _) _ _ _ from ?_)
  refine PySem.wpAt_bind (PySem.wpAt_stack fun p below => PySem.wpAt_of_wpAny (by
    wp_walk
    refine PySem.wpAt_of_wpAny ?_
    rw [F.owner]
    repeat (first
      | with_reducible refine wpAny_madeHere_exc F.canon hC ?_
      | with_reducible refine wpAny_loadPart_at hC ?_
      | (with_reducible refine wpAny_isSubtype_exc hC ?_
         first
          | rw [y1]
          | rw [y2]
          | rw [y3])
      | wp_step)
    show R _ _
    rw [Heap.size_push]
    exact hq))
theorem exk_type {prog : Program} {w : World} {A : Around} {E : Value → Shared → Prop} {rest : List Value} {kw : List (Str × Value)} {fI : Addr} {Q : Fin → Shared → Prop}
    (F : ExcBaseFacts B newId initId bmB) (hT : ∀ X : String, bm.contains (.type X) = bmB.contains (.type X))
    (hC : h.get? C = some (excClassObj nm q C N bs bm hdct sn sub ab col dd k0 k1 k2 k3 k5 newId)) (few : rest.length ≤ sizeLine)
    (hi : PySem.W.Looks (model prog w) h (typeLookup (.ref C) "__init__") (some (.ref fI))) (hb : ∀ self, PySem.W.Looks (model prog w) h (bindSpecial (.ref fI) self) (.ref fI, [self]))
    (hq : codeAny (model prog w) A (.call (.ref fI) ⟨.ref (h.objs.size + 1) :: rest, kw⟩) (fun r s' => match r with
      | .ok (.ret v) => v = .none ∧ Q (.done (.ret (.ref (h.objs.size + 1)))) s'
      | .ok _ => False
      | .error e => E e s') ⟨(h.push (PySem.W.kdv_tup rest)).push (PySem.HandSPX.excO C h.objs.size), g, d, t, os⟩) :
    wpAny (model prog w) A (Builtin.«type.__call__» ⟨.ref C :: rest, kw⟩) Q E ⟨h, g, d, t, os⟩ := by
  repeat (first
    | with_reducible refine wpAny_loadPart_at hC ?_
    | with_reducible refine wpAny_madeBy_exc hC ?_
    | wp_step)
  refine codeAny_call_builtin_code (Code.quiet_builtin _ F.quiet) (exk_check F hT hC (exk_new F hT hC few ?_))
  show wpAny _ _ _ _ _ _
  have kp : ∀ b o, h.get? b = some o → ((h.push (PySem.W.kdv_tup rest)).push (PySem.HandSPX.excO C h.objs.size)).get? b = some o := fun b o e => Heap.get?_push_of_some _ (Heap.get?_push_of_some _ e)
  have hC1 := kp _ _ hC
  have made : ((h.push (PySem.W.kdv_tup rest)).push (PySem.HandSPX.excO C h.objs.size)).get? (h.objs.size + 1) = some (PySem.HandSPX.excO C h.objs.size) := by heap_get
  have own : (Value.ref C :: bm).contains (.ref C) = true := by
    rw [List.contains_cons, beq_self_eq_true]
    rfl
  unfold isInstance
  repeat (first
    | with_reducible refine wpAny_loadPart_at made ?_
    | (with_reducible refine wpAny_isSubtype_exc hC1 ?_
       rw [own])
    | wp_step)
  show wpAny _ _ (typeLookup (.ref C) _) _ _ _
  refine (hi.keeps kp).at (wpAny_holding (wpAny_bind (((hb (.ref (h.objs.size + 1))).keeps kp).at ?_)))
  refine wpAny_bind (wpAny_call (codeAny_mono hq fun r s' z => ?_))
  rcases r with e | (v | _ | _ | _)
  all_goals first
    | exact z
    | exact z.elim
    | skip
  obtain ⟨ev, z⟩ := z
  subst ev
  first
    | exact wpAny_pure (wpAny_pure z)
    | (wp_walk
       exact z)
theorem exk_check2 {M : Model} {A : Around} {E : Value → Shared → Prop} {rest : List Value} {kw : List (Str × Value)} {Q : Unit → Shared → Prop}
    (hC : h.get? C = some (excClassObj nm q C N bs bm hdct sn sub ab col dd k0 k1 k2 k3 k5 newId)) (hq : Q () ⟨h, g, d, t, os⟩) :
    wpAny M A (checkBuiltinCall "type.__call__" ⟨.ref C :: rest, kw⟩) Q E ⟨h, g, d, t, os⟩ := by
  have p3 := tc_sub
  have isT : (⟨h, g, d, t, os⟩ : Shared).TypeIs (.ref C) "type" := ⟨_, hC, rfl⟩
  simp only [checkBuiltinCall, tc_kind, tc_split]
  repeat (any_goals (first
    | assumption
    | with_reducible refine wpAny_loadPart_at hC ?_
    | with_reducible refine wpAny_onRaise ?_
    | with_reducible refine wpAny_map ?_
    | wp_step))
  trace_state
theorem exk_call {prog : Program} {w : World} {A : Around} {R : Result → Shared → Prop} {rest : List Value} {kw : List (Str × Value)} {fI : Addr}
    (F : ExcBaseFacts B newId initId bmB) (hT : ∀ X : String, bm.contains (.type X) = bmB.contains (.type X))
    (hC : h.get? C = some (excClassObj nm q C N bs bm hdct sn sub ab col dd k0 k1 k2 k3 k5 newId)) (few : rest.length ≤ sizeLine)
    (hi : PySem.W.Looks (model prog w) h (typeLookup (.ref C) "__init__") (some (.ref fI))) (hb : ∀ self, PySem.W.Looks (model prog w) h (bindSpecial (.ref fI) self) (.ref fI, [self]))
    (hq : codeAny (model prog w) (A.under (.builtin "type.__call__" ⟨.ref C :: rest, kw⟩)) (.call (.ref fI) ⟨.ref (h.objs.size + 1) :: rest, kw⟩) (PySem.W.InitBack (h.objs.size + 1) R)
      ⟨(h.push (PySem.W.kdv_tup rest)).push (PySem.HandSPX.excO C h.objs.size), g, d, t, os⟩) :
    codeAny (model prog w) A (.call (.ref C) ⟨rest, kw⟩) R ⟨h, g, d, t, os⟩ := by
  have p1 := tc_lookup
  have p2 := tc_bind (.ref C)
  have isT : (⟨h, g, d, t, os⟩ : Shared).TypeIs (.ref C) "type" := ⟨_, hC, rfl⟩
  refine codeAny_of_tree (show wpAny _ _ (callAny (.ref C) _) _ _ _ from ?_)
  repeat (any_goals (first
    | assumption
    | with_reducible refine wpAny_loadPart_at hC ?_
    | wp_step))
  refine ⟨rfl, codeAny_call_builtin_at (Code.quiet_builtin _ (by decide +kernel)) entry_typeCall (exk_check2 hC (exk_type F hT hC few hi hb (codeAny_mono hq fun r s' z => ?_)))⟩
  rcases r with e | (v | _ | _ | _)
  all_goals exact z
end
end HF
namespace HF
open PySem PySem.Spec PyProof.Rows L2
/-- C(k = v, ..), C's own __init__ keeping sp -/
def tMkOK (C : Addr) (m : Nat) (sp : Sp) (gV : List V → List V → List V) (tk : TA) : L2.St → Hp → XK → Prop := fun σ H Q => tk σ H fun zs H1 => zs.length = m ∧ ∀ a, H1 a = none → sp (gV [.ref a] zs) (upd H1 a (exo a C none))
  (fun v H2 => v = .non ∧ ∃ (d : Addr) (fs : List (Str × V)), H2 a = some (exo a C (some d)) ∧ H2 d = some (exd d fs) ∧ H1 d = none ∧ Q (.ref C) (some d) (upd (del H2 a) d (.xd fs))) (fun _ _ _ => False)
section
variable {X : Cx} {p pos : Pos} {B newId initId : String} {bmB : List Value} {x : Str}
theorem pmk_xK {CX : CXT} {C fI : Addr} {k : Nat} {fd : FuncData} {ps ks : List Str} {sp : Sp} {kws : List Keyword} {tk : TA} {g : List Value → List Value → List Value} {gV : List V → List V → List V}
    (T : XoC X.K C B newId initId bmB) (iC : PySem.W.findIn X.K (.ref C) "__init__" = some (some (.ref fI))) (tI : PySem.W.typeIn X.K (.ref fI) = some (.type "function"))
    (F1 : FnOk X.prog X.w X.K X.mg X.base CX k fI fd ps sp) (hr : Room (k + 1) X.A) (hb : KBn X.K fd ps 1 ks g gV) (hx : Passes CX X (fun _ _ _ => False)) (hg : Gl X x) (hm : X.mg x = some (.ref C)) (hkw : PK X kws tk)
    (hall : (backToKw pos (keywordEach kws X.env)).all (·.1.isSome) = true := by rfl) (hks : (backToKw pos (keywordEach kws X.env)).filterMap (·.1) = ks := by rfl) (hdb : (x == ("__debug__" : Str)) = false := by decide)
    (hpl : ((backTo pos (starEach [] X.env)).any (·.1) || (backToKw pos (keywordEach kws X.env)).any (·.1.isNone)) = false := by rfl) :
    PMk X (.Call (.Name x p) [] kws pos) (tMkOK C ks.length sp gV tk) := by
  intro pins st σ H Q I want
  refine wpAny_Call_Name_kw (ld_glob I hg hm (PySem.W.callWith_KW0 (h₀ := X.base) I.ok.mod.kin T.kC hall (thn (hkw.run pos pins st σ H _ I want) ?_) hpl) hdb)
  rintro ws s1 ⟨zs, H1, J, rz, l1, q1⟩
  refine ⟨J.kIn, ?_⟩
  rw [hks]
  obtain ⟨c1, c2, c3, c4, c5, c6, c7, c8, c9, c10, c11, c12, c13, c14, c15, c16, hC, hT⟩ := PySem.W.excInit_of J.kIn T.ini
  show wpAny _ _ (call (.ref C) [] (ks.zip ws)) _ _ _
  obtain ⟨hp, gn, dr, tk, os⟩ := s1
  have up1 : hp.objs.size ≤ hp.objs.size + 1 := Nat.le_succ _
  have hq := q1 (hp.objs.size + 1) (J.hok.fresh up1)
  have kk : ∀ b o, hp.get? b = some o → ((hp.push (PySem.W.kdv_tup [])).push (PySem.HandSPX.excO C hp.objs.size)).get? b = some o := fun b o z => Heap.get?_push_of_some _ (Heap.get?_push_of_some _ z)
  have made : ((hp.push (PySem.W.kdv_tup [])).push (PySem.HandSPX.excO C hp.objs.size)).get? (hp.objs.size + 1) = some (PySem.HandSPX.excO C hp.objs.size) := by heap_get
  have J2 := J.laid (t' := tk) kk up1 (exo_ok made)
  have r1 : Vals [V.ref (hp.objs.size + 1)] [Value.ref (hp.objs.size + 1)] := .cons rfl .nil
  refine wpAny_call (exk_call T.base hT hC (Nat.zero_le _) (PySem.W.looks_findIn J.kIn iC) (fun self => PySem.W.bind_fn J.kIn self tI) (codeAny_mono (F1.run _ X.stack _ _ ⟨[Value.ref (hp.objs.size + 1)], ks.zip ws⟩ (g [Value.ref (hp.objs.size + 1)] ws) _ _ (fun _ _ _ => False) (hr.make C [] (ks.zip ws)) (J2.env0.make C [] (ks.zip ws)) (hb.to _ [Value.ref (hp.objs.size + 1)] ws J2.kIn rfl (rz.length.symm.trans l1)) (hb.rel r1 rz) hq) ?_))
  intro r s2 z
  cases r with
  | error er => exact hx pins σ _ _ er s2 J2 z
  | ok fl =>
    cases fl with
    | ret u =>
      obtain ⟨v, H2, os2, bare2, un2, hok2, rv, ev, dd, fs, ea, ed, nd1, q2⟩ := z
      subst ev
      obtain ⟨h2, g2, d2, t2, os3⟩ := s2
      exact ⟨rv, mk_end (raises_own T.exC T.tyC) J up1 kk un2 hok2 os2 bare2 ea ed nd1 q2⟩
    | next => exact z.elim
    | brk => exact z.elim
    | cont => exact z.elim
end
end HF
namespace HF
open PySem PySem.Spec PyProof.Rows L2
def uu (zs : List Str) (a b : Str) : Nat := if up zs (a, b) = true then 1 else 0
/-- how many of the next ones lie above the one before -/
def C (zs : List Str) : List Str → Nat
  | a :: b :: r => uu zs a b + C zs (b :: r)
  | _ => 0
def T (zs ls : List Str) : Nat := C zs (ls ++ ls.take 1)
theorem num_cons (zs : List Str) (q : Str × Str) (ps : List (Str × Str)) : num zs (q :: ps) = uu zs q.1 q.2 + num zs ps := by
  unfold num uu
  by_cases e : up zs q = true
  · rw [List.filter_cons_of_pos e, if_pos (show up zs (q.1, q.2) = true from e), List.length_cons]
    omega
  · rw [List.filter_cons_of_neg e, if_neg (show ¬ up zs (q.1, q.2) = true from e)]
    omega
theorem num_zip (zs : List Str) : ∀ (a : Str) (l : List Str), num zs ((a :: l).zip l) = C zs (a :: l)
  | a, [] => rfl
  | a, b :: r => by
    rw [List.zip_cons_cons, num_cons, num_zip zs b r]
    rfl
theorem num_law (zs : List Str) (x : Str) : ∀ (a : Str) (r : List Str), num zs ((a :: r).zip (r ++ [x])) = C zs (a :: r ++ [x])
  | a, [] => by
    show num zs [(a, x)] = C zs [a, x]
    rw [num_cons]
    rfl
  | a, b :: r => by
    show num zs ((a, b) :: (b :: r).zip (r ++ [x])) = C zs (a :: b :: (r ++ [x]))
    rw [num_cons, num_law zs x b r]
    rfl
theorem law_T {zs ls : List Str} (h : 1 ≤ ls.length) : num zs (ls.zip (ls.drop 1 ++ ls.take 1)) = T zs ls := by
  cases ls with
  | nil => simp at h
  | cons a r =>
    show num zs ((a :: r).zip (r ++ [a])) = C zs (a :: r ++ [a])
    exact num_law zs a a r
theorem C_split (zs : List Str) (x : Str) (v : List Str) : ∀ u : List Str, C zs (u ++ x :: v) = C zs (u ++ [x]) + C zs (x :: v)
  | [] => by
    show C zs (x :: v) = 0 + C zs (x :: v)
    omega
  | [a] => by
    show uu zs a x + C zs (x :: v) = (uu zs a x + 0) + C zs (x :: v)
    omega
  | a :: b :: r => by
    have ih := C_split zs x v (b :: r)
    show uu zs a b + C zs (b :: r ++ x :: v) = (uu zs a b + C zs (b :: r ++ [x])) + C zs (x :: v)
    omega
theorem prog_T (zs ms : List Str) (y : Str) : num zs ((y :: (ms ++ [y])).zip (ms ++ [y])) = T zs (ms ++ [y]) := by
  rw [num_zip]
  cases ms with
  | nil => rfl
  | cons x t =>
    show uu zs y x + C zs (x :: (t ++ [y])) = C zs ((x :: t ++ [y]) ++ [x])
    rw [List.append_assoc, show x :: t ++ ([y] ++ [x]) = (x :: t) ++ y :: [x] from rfl, C_split]
    show uu zs y x + C zs (x :: (t ++ [y])) = C zs (x :: t ++ [y]) + (uu zs y x + 0)
    rw [Nat.add_zero, Nat.add_comm]
    rfl
theorem T_rot (zs : List Str) : ∀ u v : List Str, T zs (u ++ v) = T zs (v ++ u)
  | [], v => by rw [List.nil_append, List.append_nil]
  | a :: u, [] => by rw [List.nil_append, List.append_nil]
  | a :: u, b :: v => by
    unfold T
    show C zs ((a :: u ++ b :: v) ++ [a]) = C zs ((b :: v ++ a :: u) ++ [b])
    rw [List.append_assoc, List.append_assoc]
    show C zs (a :: u ++ b :: (v ++ [a])) = C zs (b :: v ++ a :: (u ++ [b]))
    rw [C_split zs b, C_split zs a]
    show C zs (a :: (u ++ [b])) + C zs (b :: (v ++ [a])) = C zs (b :: (v ++ [a])) + C zs (a :: (u ++ [b]))
    omega
def Ad (zs : List Str) : List Str → Prop
  | a :: b :: r => pos a zs ≠ pos b zs ∧ Ad zs (b :: r)
  | _ => True
theorem uu_two {zs : List Str} {a b : Str} (h : pos a zs ≠ pos b zs) : uu zs a b + uu zs b a = 1 := by
  unfold uu up
  by_cases e : (pos b zs : Int) < (pos a zs : Int)
  · rw [if_pos (decide_eq_true e), if_neg (by rw [decide_eq_true_eq]; show ¬ (pos a zs : Int) < (pos b zs : Int); omega)]
  · rw [if_neg (by rw [decide_eq_true_eq]; exact e), if_pos (by rw [decide_eq_true_eq]; show (pos a zs : Int) < (pos b zs : Int); omega)]
theorem C_rev {zs : List Str} : ∀ {m : List Str}, m ≠ [] → Ad zs m → C zs m + C zs m.reverse + 1 = m.length
  | [], h, _ => absurd rfl h
  | [a], _, _ => rfl
  | a :: b :: r, _, h => by
    have ih := C_rev (m := b :: r) (by simp) h.2
    have e : (a :: b :: r).reverse = r.reverse ++ b :: [a] := by
      rw [List.reverse_cons, List.reverse_cons, List.append_assoc]
      rfl
    rw [e, C_split, ← List.reverse_cons]
    show (uu zs a b + C zs (b :: r)) + (C zs (b :: r).reverse + (uu zs b a + 0)) + 1 = (b :: r).length + 1
    have := uu_two h.1
    omega
theorem Ad_of {zs : List Str} : ∀ {l : List Str}, l.Nodup → (∀ x ∈ l, x ∈ zs) → Ad zs l
  | [], _, _ => trivial
  | [a], _, _ => trivial
  | a :: b :: r, hn, hi => by
    have h2 := List.nodup_cons.mp hn
    refine ⟨fun e => h2.1 ?_, Ad_of h2.2 fun x hx => hi x (List.mem_cons_of_mem _ hx)⟩
    rw [pos_inj (hi a List.mem_cons_self) (hi b (List.mem_cons_of_mem _ List.mem_cons_self)) e]
    exact List.mem_cons_self
theorem Ad_snoc {zs : List Str} {x : Str} : ∀ {l : List Str}, Ad zs l → (∀ y, l.getLast? = some y → pos y zs ≠ pos x zs) → Ad zs (l ++ [x])
  | [], _, _ => trivial
  | [a], _, h => ⟨h a rfl, trivial⟩
  | a :: b :: r, hA, h => ⟨hA.1, Ad_snoc (l := b :: r) hA.2 fun y hy => h y (by rw [List.getLast?_cons_cons]; exact hy)⟩
theorem Ad_round {zs : List Str} {x b : Str} {r : List Str} (hn : (x :: b :: r).Nodup) (hi : ∀ y ∈ x :: b :: r, y ∈ zs) : Ad zs ((x :: b :: r) ++ [x]) := by
  refine Ad_snoc (Ad_of hn hi) fun y hy e => ?_
  rw [List.getLast?_cons_cons] at hy
  have hm := List.mem_of_getLast? hy
  have := pos_inj (hi y (List.mem_cons_of_mem _ hm)) (hi x List.mem_cons_self) e
  exact (List.nodup_cons.mp hn).1 (this ▸ hm)
theorem C_rise {zs : List Str} : ∀ {a b : Str} {t : List Str} {z : Str}, Ad zs (a :: b :: t) → C zs (a :: b :: t) = 0 → (b :: t).getLast? = some z → pos a zs < pos z zs
  | a, b, [], z, hA, h0, hz => by
    have ez : b = z := Option.some.inj hz
    subst ez
    have h1 : uu zs a b + 0 = 0 := h0
    have h2 : ¬ up zs (a, b) = true := fun e => by
      unfold uu at h1
      rw [if_pos e] at h1
      cases h1
    have h3 : ¬ (pos b zs : Int) < (pos a zs : Int) := fun e => h2 (decide_eq_true e)
    have := hA.1
    omega
  | a, b, c :: t, z, hA, h0, hz => by
    have h1 : uu zs a b + C zs (b :: c :: t) = 0 := h0
    have h2 : ¬ up zs (a, b) = true := fun e => by
      unfold uu at h1
      rw [if_pos e] at h1
      omega
    have h3 : ¬ (pos b zs : Int) < (pos a zs : Int) := fun e => h2 (decide_eq_true e)
    have h4 := C_rise (a := b) (b := c) (t := t) (z := z) hA.2 (by omega) (by rw [List.getLast?_cons_cons] at hz; exact hz)
    have := hA.1
    omega
theorem T_pos {zs ls : List Str} (hn : ls.Nodup) (hi : ∀ y ∈ ls, y ∈ zs) (h2 : 2 ≤ ls.length) : 1 ≤ T zs ls := by
  cases ls with
  | nil => simp at h2
  | cons x r =>
    cases r with
    | nil => simp at h2
    | cons b r =>
      rcases Nat.eq_zero_or_pos (T zs (x :: b :: r)) with e | e
      · have e2 : C zs (x :: b :: (r ++ [x])) = 0 := e
        have := C_rise (z := x) (Ad_round hn hi) e2 (show ((b :: r) ++ [x]).getLast? = some x by rw [List.getLast?_append]; rfl)
        omega
      · exact e
theorem T_rev {zs ls : List Str} (hn : ls.Nodup) (hi : ∀ y ∈ ls, y ∈ zs) (h2 : 2 ≤ ls.length) : T zs ls + T zs ls.reverse = ls.length := by
  cases ls with
  | nil => simp at h2
  | cons x r =>
    cases r with
    | nil => simp at h2
    | cons b r =>
      have h := C_rev (zs := zs) (m := (x :: b :: r) ++ [x]) (by simp) (Ad_round hn hi)
      have e1 : T zs (x :: b :: r).reverse = C zs (x :: (x :: b :: r).reverse) := by
        rw [List.reverse_cons, ← prog_T, num_zip]
      have e2 : ((x :: b :: r) ++ [x]).reverse = x :: (x :: b :: r).reverse := by
        rw [List.reverse_append]
        rfl
      rw [e2, ← e1, List.length_append] at h
      have e3 : T zs (x :: b :: r) = C zs ((x :: b :: r) ++ [x]) := rfl
      rw [← e3] at h
      simp only [List.length_singleton] at h
      omega
theorem T_lt {zs ls : List Str} (hn : ls.Nodup) (hi : ∀ y ∈ ls, y ∈ zs) (h2 : 2 ≤ ls.length) : T zs ls < ls.length := by
  have h := T_rev hn hi h2
  have := T_pos (zs := zs) (ls := ls.reverse) ((List.reverse_perm ls).nodup_iff.mpr hn) (fun y hy => hi y (List.mem_reverse.mp hy)) (by rw [List.length_reverse]; exact h2)
  omega
theorem snoc_of {ls : List Str} (h : 1 ≤ ls.length) : ∃ ms y, ls = ms ++ [y] := by
  have hne : ls ≠ [] := fun e => by
    rw [e] at h
    simp at h
  exact ⟨ls.dropLast, ls.getLast hne, (List.dropLast_concat_getLast hne).symm⟩
end HF
/-! rings, and how they fall -/
namespace HF
open PySem PySem.Spec PyProof.Rows L2
theorem pos_filter {p : Str → Bool} {x y : Str} (hx : p x = true) (hy : p y = true) : ∀ zs : List Str, (pos x (zs.filter p) < pos y (zs.filter p) ↔ pos x zs < pos y zs)
  | [] => Iff.rfl
  | z :: r => by
    have ih := pos_filter hx hy r
    by_cases e : p z = true
    · rw [List.filter_cons_of_pos e]
      unfold pos
      by_cases ex : z = x
      · by_cases ey : z = y
        · rw [if_pos ex, if_pos ey, if_pos ex, if_pos ey]
        · rw [if_pos ex, if_neg ey, if_pos ex, if_neg ey]
          omega
      · by_cases ey : z = y
        · rw [if_neg ex, if_pos ey, if_neg ex, if_pos ey]
          omega
        · rw [if_neg ex, if_neg ey, if_neg ex, if_neg ey]
          omega
    · have ex : ¬ z = x := fun q => e (q ▸ hx)
      have ey : ¬ z = y := fun q => e (q ▸ hy)
      rw [List.filter_cons_of_neg e]
      show _ ↔ (if z = x then 0 else pos x r + 1) < (if z = y then 0 else pos y r + 1)
      rw [if_neg ex, if_neg ey]
      omega
theorem pos_top (b : Str) (zs : List Str) : pos b (onTop b zs) = 0 := by
  show (if b = b then 0 else _) = 0
  rw [if_pos rfl]
theorem pos_rest {b x : Str} (h : x ≠ b) (zs : List Str) : pos x (onTop b zs) = pos x (zs.filter fun z => decide (z ≠ b)) + 1 := by
  show (if b = x then 0 else _) = _
  rw [if_neg fun e => h e.symm]
theorem uu_rest {b x y : Str} {zs : List Str} (hx : x ≠ b) (hy : y ≠ b) : uu (onTop b zs) x y = uu zs x y := by
  have h := pos_filter (p := fun z => decide (z ≠ b)) (x := y) (y := x) (decide_eq_true hy) (decide_eq_true hx) zs
  have e : (((pos y (onTop b zs) : Nat) : Int) < ((pos x (onTop b zs) : Nat) : Int)) ↔ (((pos y zs : Nat) : Int) < ((pos x zs : Nat) : Int)) := by
    rw [pos_rest hx, pos_rest hy]
    omega
  have e2 : up (onTop b zs) (x, y) = up zs (x, y) := by
    unfold up
    rw [Bool.eq_iff_iff, decide_eq_true_iff, decide_eq_true_iff]
    exact e
  unfold uu
  rw [e2]
theorem C_rest {b : Str} {zs : List Str} : ∀ {l : List Str}, b ∉ l → C (onTop b zs) l = C zs l
  | [], _ => rfl
  | [a], _ => rfl
  | a :: c :: r, h => by
    have h1 : a ≠ b := fun e => h (e ▸ List.mem_cons_self)
    have h2 : c ≠ b := fun e => h (e ▸ List.mem_cons_of_mem _ List.mem_cons_self)
    show uu (onTop b zs) a c + C (onTop b zs) (c :: r) = uu zs a c + C zs (c :: r)
    rw [uu_rest h1 h2, C_rest fun z => h (List.mem_cons_of_mem _ z)]
/-- each next one a friend of the one before -/
def Ch (qs : List (Str × Str)) : List Str → Prop
  | a :: b :: r => (a, b) ∈ qs ∧ Ch qs (b :: r)
  | _ => True
theorem Ch.app {qs : List (Str × Str)} {x : Str} {v : List Str} : ∀ {u : List Str}, Ch qs (u ++ [x]) → Ch qs (x :: v) → Ch qs (u ++ x :: v)
  | [], _, h => h
  | [a], h, h2 => ⟨h.1, h2⟩
  | a :: b :: r, h, h2 => ⟨h.1, Ch.app (u := b :: r) h.2 h2⟩
theorem Ch.split {qs : List (Str × Str)} {x : Str} {v : List Str} : ∀ {u : List Str}, Ch qs (u ++ x :: v) → Ch qs (u ++ [x]) ∧ Ch qs (x :: v)
  | [], h => ⟨trivial, h⟩
  | [a], h => ⟨⟨h.1, trivial⟩, h.2⟩
  | a :: b :: r, h => by
    obtain ⟨h1, h2⟩ := Ch.split (u := b :: r) h.2
    exact ⟨⟨h.1, h1⟩, h2⟩
structure Rng (qs : List (Str × Str)) (zs ls : List Str) : Prop where
  nd : ls.Nodup
  two : 2 ≤ ls.length
  sub : ∀ x ∈ ls, x ∈ zs
  ch : Ch qs (ls ++ ls.take 1)
theorem Rng.rot {qs : List (Str × Str)} {zs u v : List Str} (h : Rng qs zs (u ++ v)) : Rng qs zs (v ++ u) := by
  obtain ⟨h1, h2, h3, h4⟩ := h
  have pm : (u ++ v).Perm (v ++ u) := List.perm_append_comm
  refine ⟨pm.nodup_iff.mp h1, by rw [← pm.length_eq]; exact h2, fun x hx => h3 x (pm.mem_iff.mpr hx), ?_⟩
  cases u with
  | nil => rwa [List.append_nil] at *
  | cons a u =>
    cases v with
    | nil => rw [List.append_nil] at h4; exact h4
    | cons b v =>
      have h5 : Ch qs ((a :: u) ++ b :: (v ++ [a])) := by
        have e : (a :: u ++ b :: v) ++ List.take 1 (a :: u ++ b :: v) = (a :: u) ++ b :: (v ++ [a]) := by simp
        rwa [e] at h4
      obtain ⟨h6, h7⟩ := Ch.split h5
      have e : (b :: v ++ a :: u) ++ List.take 1 (b :: v ++ a :: u) = (b :: v) ++ a :: (u ++ [b]) := by simp
      rw [e]
      exact Ch.app h7 h6
/-- a going takes from a ring what the law says -/
theorem fall_in {qs : List (Str × Str)} {zs u v : List Str} {b f : Str} (h : Rng qs zs (u ++ b :: v)) (nd : zs.Nodup) (hb : b ∈ zs) (hl : lets qs zs b = true) (hf : (v ++ u).getLast? = some f) :
    (T (onTop b zs) (u ++ b :: v) : Int) = (T zs (u ++ b :: v) : Int) - (if (pos f zs : Int) < (pos b zs : Int) then 0 else 1) ∧ f ∈ zs := by
  have hr : Rng qs zs (b :: (v ++ u)) := h.rot
  have e1 : ∀ ys, T ys (u ++ b :: v) = T ys (b :: (v ++ u)) := fun ys => T_rot ys u (b :: v)
  obtain ⟨m, hm⟩ : ∃ m, v ++ u = m ++ [f] := by
    have hne : v ++ u ≠ [] := fun e => by rw [e] at hf; simp at hf
    refine ⟨(v ++ u).dropLast, ?_⟩
    rw [List.getLast?_eq_some_getLast hne] at hf
    rw [← Option.some.inj hf]
    exact (List.dropLast_concat_getLast hne).symm
  have hfz : f ∈ zs := hr.sub f (by rw [hm]; simp)
  have nin : b ∉ v ++ u := (List.nodup_cons.mp hr.nd).1
  have fb : f ≠ b := fun e => nin (by rw [hm, e]; simp)
  have e2 : ∀ ys, T ys (b :: (v ++ u)) = C ys (b :: (v ++ u)) + uu ys f b := fun ys => by
    show C ys ((b :: (v ++ u)) ++ [b]) = _
    rw [hm]
    have e3 : (b :: (m ++ [f])) ++ [b] = (b :: m) ++ f :: [b] := by simp
    rw [e3, C_split]
    show C ys (b :: (m ++ [f])) + (uu ys f b + 0) = _
    omega
  obtain ⟨w0, wr, hw⟩ : ∃ w0 wr, v ++ u = w0 :: wr := by
    cases hc : v ++ u with
    | nil => rw [hc] at hf; simp at hf
    | cons a r => exact ⟨a, r, rfl⟩
  have w0b : w0 ≠ b := fun e => nin (by rw [hw, e]; exact List.mem_cons_self)
  have e4 : ∀ ys, C ys (b :: (v ++ u)) = uu ys b w0 + C ys (v ++ u) := fun ys => by
    rw [hw]
    rfl
  have tie : (b, w0) ∈ qs := by
    have h4 := hr.ch
    rw [hw] at h4
    exact h4.1
  have up1 : (pos w0 zs : Int) < (pos b zs : Int) := by
    unfold lets at hl
    refine of_decide_eq_true (List.all_eq_true.mp hl w0 ?_)
    unfold sndOf
    exact List.mem_map.mpr ⟨(b, w0), List.mem_filter.mpr ⟨tie, decide_eq_true rfl⟩, rfl⟩
  have a1 : uu zs b w0 = 1 := by
    unfold uu up
    rw [if_pos (decide_eq_true up1)]
  have a2 : uu (onTop b zs) b w0 = 0 := by
    unfold uu up
    rw [if_neg]
    rw [decide_eq_true_iff]
    show ¬ ((pos w0 (onTop b zs) : Nat) : Int) < ((pos b (onTop b zs) : Nat) : Int)
    rw [pos_top]
    omega
  have a3 : uu (onTop b zs) f b = 1 := by
    unfold uu up
    rw [if_pos]
    rw [decide_eq_true_iff]
    show ((pos b (onTop b zs) : Nat) : Int) < ((pos f (onTop b zs) : Nat) : Int)
    rw [pos_top, pos_rest fb]
    omega
  have a4 : (uu zs f b : Int) = if (pos f zs : Int) < (pos b zs : Int) then 0 else 1 := by
    have hne : pos f zs ≠ pos b zs := fun e => fb (pos_inj hfz hb e)
    unfold uu up
    by_cases e : (pos f zs : Int) < (pos b zs : Int)
    · rw [if_pos e, if_neg]
      · rfl
      · rw [decide_eq_true_iff]
        show ¬ ((pos b zs : Nat) : Int) < ((pos f zs : Nat) : Int)
        omega
    · rw [if_neg e, if_pos]
      · rfl
      · rw [decide_eq_true_iff]
        show ((pos b zs : Nat) : Int) < ((pos f zs : Nat) : Int)
        omega
  refine ⟨?_, hfz⟩
  rw [e1, e1, e2, e2, e4, e4, a1, a2, a3, C_rest nin, ← a4]
  omega
theorem fall_out {zs ls : List Str} {b : Str} (h : b ∉ ls) : T (onTop b zs) ls = T zs ls := by
  unfold T
  refine C_rest fun z => ?_
  rcases List.mem_append.mp z with q | q
  · exact h q
  · exact h (List.mem_of_mem_take q)
theorem Rng.perm {qs : List (Str × Str)} {zs zs' ls : List Str} (h : Rng qs zs ls) (pm : zs'.Perm zs) : Rng qs zs' ls := ⟨h.nd, h.two, fun x hx => pm.mem_iff.mpr (h.sub x hx), h.ch⟩
theorem split_at {b : Str} : ∀ {ls : List Str}, b ∈ ls → ∃ u v, ls = u ++ b :: v ∧ u.length = pos b ls
  | x :: r, h => by
    by_cases e : x = b
    · exact ⟨[], r, by rw [e]; rfl, by unfold pos; rw [if_pos e]; rfl⟩
    · obtain ⟨u, v, h1, h2⟩ := split_at ((List.mem_cons.mp h).resolve_left fun q => e q.symm)
      refine ⟨x :: u, v, by rw [h1]; rfl, ?_⟩
      unfold pos
      rw [if_neg e, List.length_cons, h2]
theorem fan_at {u v : List Str} {b f : Str} (hf : (v ++ u).getLast? = some f) : atI ((u ++ b :: v).map V.str) ((u.length : Int) - 1) = some (.str f) := by
  rcases List.eq_nil_or_concat u with e | ⟨u', x, e⟩
  · subst e
    rw [List.append_nil] at hf
    obtain ⟨m, hm⟩ : ∃ m, v = m ++ [f] := by
      have hne : v ≠ [] := fun e => by rw [e] at hf; simp at hf
      refine ⟨v.dropLast, ?_⟩
      rw [List.getLast?_eq_some_getLast hne] at hf
      rw [← Option.some.inj hf]
      exact (List.dropLast_concat_getLast hne).symm
    rw [hm]
    show atI ((b :: (m ++ [f])).map V.str) (0 - 1) = _
    rw [show ((b :: (m ++ [f])).map V.str) = ((b :: m).map V.str) ++ [.str f] by simp]
    exact atI_last _ _
  · subst e
    have hx : x = f := by
      rw [List.concat_eq_append, ← List.append_assoc, List.getLast?_append] at hf
      exact Option.some.inj hf
    subst hx
    have e1 : ((u'.concat x).length : Int) - 1 = ((u'.length : Nat) : Int) := by
      rw [List.length_concat]
      omega
    rw [e1]
    refine atI_nat ?_
    rw [List.concat_eq_append, List.append_assoc, List.getElem?_map, List.getElem?_append_right (Nat.le_refl _), Nat.sub_self]
    rfl
end HF
namespace HF
open PySem PySem.Spec PyProof.Rows L2
theorem pe_dcT {X : Cx} {kx vx tg over : Expr} {cs : List Expr} {sc2 : Scope} {own : List (Str × Nat)} {pos : Pos} {wi : TI} {g : TG} {tt : TT} {tk tv : TE} (hu : X.A.units + 1 < cLine) (calm : X.calm = true) (nd : X.N.Nodup) (hi : PI X tg over wi) (ok : BlkOk X.N X.env.scope sc2 own)
    (pg : ∀ (s : Shared) (H : Hp) (C : Addr) (cl : List (Str × Addr)) (fp : List Addr), PG (X.blk s H sc2 (compEnvC sc2 cl C X.env) fp) tg g) (pt : ∀ (s : Shared) (H : Hp) (C : Addr) (cl : List (Str × Addr)) (fp : List Addr), PTs (X.blk s H sc2 (compEnvC sc2 cl C X.env) fp) cs tt)
    (pk : ∀ (s : Shared) (H : Hp) (C : Addr) (cl : List (Str × Addr)) (fp : List Addr), PE (X.blk s H sc2 (compEnvC sc2 cl C X.env) fp) kx tk)
    (pw : ∀ (s : Shared) (H : Hp) (C : Addr) (cl : List (Str × Addr)) (fp : List Addr), PE (X.blk s H sc2 (compEnvC sc2 cl C X.env) fp) vx tv) (fold : ∀ x, foldedSetIterable over X.env x = pure x := by intro _; rfl) :
    PE X (.DictComp kx vx [⟨tg, over, cs, 0⟩] sc2 pos) (tDcT wi g tt tk tv (own.map (·.2))) := by
  refine ⟨fun pins st σ H Q I hyp => ?_⟩
  rw [arm_eval_DictComp]
  refine dcT_core hu calm nd I hi ok pg pt pk pw fold hyp fun D C s' m H' J q ns fr => ⟨m, ns, fun h2 sb => ?_⟩
  obtain ⟨g0, g1, g2, g3, g4, g5⟩ := fr
  have still : ∀ b o, b ≠ C → s'.heap.get? b = some o → h2.get? b = some o := fun b o hb e => (sb.2 b hb).trans e
  exact ⟨.ref D, H', J.turned (t' := s'.toks) still g0 g1 g3 g4 g5, rfl, q⟩
theorem ch_zip {qs : List (Str × Str)} : ∀ {a : Str} {l : List Str} {i : Nat} {q : Str × Str}, Ch qs (a :: l) → ((a :: l).zip l)[i]? = some q → q ∈ qs
  | a, [], i, q, _, h => by simp at h
  | a, b :: r, 0, q, h, hq => by
    cases (show some (a, b) = some q from hq)
    exact h.1
  | a, b :: r, i + 1, q, h, hq => ch_zip (a := b) (l := r) (i := i) h.2 hq
theorem Rng.pairs {qs : List (Str × Str)} {zs ms : List Str} {y : Str} (h : Rng qs zs (ms ++ [y])) {i : Nat} {q : Str × Str} (hq : ((y :: (ms ++ [y])).zip (ms ++ [y]))[i]? = some q) : q ∈ qs := by
  refine ch_zip ?_ hq
  have h4 := h.ch
  cases ms with
  | nil =>
    have := h.two
    simp at this
  | cons x t =>
    have e : (x :: t ++ [y]) ++ List.take 1 (x :: t ++ [y]) = (x :: t) ++ y :: [x] := by simp
    rw [e] at h4
    obtain ⟨h5, h6⟩ := Ch.split h4
    exact ⟨h6.1, h5⟩
variable (K : PySem.W.Frag)
def spShow : Sp := fun vs H Q _ => ∃ (r a : Addr) (zs ls : List Str) (qs : List (Str × Str)), vs = [.ref r, .ref a] ∧ PqT K H r qs ∧ SqL K H a (ls.map V.str) ∧ Rng qs zs ls ∧ qs.length ≤ 400 ∧ ls.length ≤ 1000 ∧ ∀ H' : Hp, Same H H' → Q (.bl true) H'
def spFall : Sp := fun vs H Q _ => ∃ (h a : Addr) (b : Str) (zs ls : List Str) (qs : List (Str × Str)), vs = [.ref h, .ref a, .str b] ∧ Hq K H h zs ∧ SqL K H a (ls.map V.str) ∧ Rng qs zs ls ∧ zs.Nodup ∧ b ∈ zs ∧ lets qs zs b = true ∧ ls.length ≤ 1000 ∧
  ∀ H' : Hp, Same H H' → Q (.int ((T zs ls : Int) - (T (onTop b zs) ls : Int))) H'
/-- rings in a list -/
structure LpAt (qs : List (Str × Str)) (zs : List Str) (H : Hp) (F : Addr) (as : List Addr) (rs : List (List Str)) : Prop where
  top : H F = some (.lst (as.map V.ref))
  len : as.length = rs.length
  at' : ∀ (i : Nat) (a : Addr) (ls : List Str), as[i]? = some a → rs[i]? = some ls → H a = some (.lst (ls.map V.str))
  rng : ∀ ls ∈ rs, Rng qs zs ls
def spLoops : Sp := fun vs H Q _ => ∃ (p h r : Addr) (n : Nat) (c : Int) (zs : List Str) (L : SL), vs = [.ref p, .ref h, .ref r, .int n] ∧ Bx H p c ∧ c < 2 ^ 38 ∧ n ≤ 20 ∧ Tp H h (zs.map V.str) ∧ zs.Nodup ∧ zs ≠ [] ∧ zs.length ≤ 12 ∧ (∀ z ∈ zs, Nm z) ∧ Ties zs H r L ∧
  ∀ (H' : Hp) (F : Addr) (as : List Addr) (rs : List (List Str)) (c' : Int), Oth p H H' → H F = none → LpAt (L.map prOf) zs H' F as rs → rs.length ≤ n → Bx H' p c' → c ≤ c' → c' ≤ c + 20 * n → Q (.ref F) H'
variable {K}
theorem LpAt.same {qs : List (Str × Str)} {zs : List Str} {H H' : Hp} {F : Addr} {as : List Addr} {rs : List (List Str)} (h : LpAt qs zs H F as rs) (sm : Same H H') : LpAt qs zs H' F as rs :=
  ⟨sm _ _ h.top, h.len, fun i a ls h1 h2 => sm _ _ (h.at' i a ls h1 h2), h.rng⟩
theorem bx_refs {H : Hp} {p F : Addr} {c : Int} {as : List Addr} (hb : Bx H p c) (h : H F = some (.lst (as.map V.ref))) : F ≠ p := fun e => by
  obtain ⟨x, y, e2, _⟩ := hb
  rw [e, e2] at h
  have e3 := Option.some.inj h
  injection e3 with e4
  cases as with
  | nil => exact nomatch e4
  | cons a r => injection e4 with e5; exact nomatch e5
theorem bx_strs {H : Hp} {p F : Addr} {c : Int} {ls : List Str} (hb : Bx H p c) (h : H F = some (.lst (ls.map V.str))) : F ≠ p := fun e => by
  obtain ⟨x, y, e2, _⟩ := hb
  rw [e, e2] at h
  have e3 := Option.some.inj h
  injection e3 with e4
  cases ls with
  | nil => exact nomatch e4
  | cons a r => injection e4 with e5; exact nomatch e5
theorem LpAt.oth {qs : List (Str × Str)} {zs : List Str} {H H' : Hp} {F p : Addr} {c : Int} {as : List Addr} {rs : List (List Str)} (h : LpAt qs zs H F as rs) (o : Oth p H H') (hb : Bx H p c) : LpAt qs zs H' F as rs :=
  ⟨o _ _ h.top (bx_refs hb h.top), h.len, fun i a ls h1 h2 => o _ _ (h.at' i a ls h1 h2) (bx_strs hb (h.at' i a ls h1 h2)), h.rng⟩
theorem LpAt.get {qs : List (Str × Str)} {zs : List Str} {H : Hp} {F : Addr} {as : List Addr} {rs : List (List Str)} (h : LpAt qs zs H F as rs) {i : Nat} {a : Addr} (ha : as[i]? = some a) : ∃ ls, rs[i]? = some ls ∧ H a = some (.lst (ls.map V.str)) ∧ Rng qs zs ls := by
  have hi : i < rs.length := by
    rw [← h.len]
    exact (List.getElem?_eq_some_iff.mp ha).1
  have hr : rs[i]? = some rs[i] := List.getElem?_eq_getElem hi
  exact ⟨_, hr, h.at' i a _ ha hr, h.rng _ (List.mem_of_getElem? hr)⟩
end HF
namespace HF
open PySem PySem.Spec PyProof.Rows L2
/-! ### heights raised by ties, and the ring behind them: the mathematics -/
def gn (zs ws : List Str) (q : Str × Str) : Int := (if up ws q = true then 1 else 0) - (if up zs q = true then 1 else 0)
theorem gn_le (zs ws : List Str) (q : Str × Str) : gn zs ws q ≤ 1 ∧ -1 ≤ gn zs ws q := by
  unfold gn
  cases up ws q <;> cases up zs q <;> decide
theorem gn_uu (zs ws : List Str) (a b : Str) : gn zs ws (a, b) = (uu ws a b : Int) - (uu zs a b : Int) := by
  unfold gn uu
  cases up ws (a, b) <;> cases up zs (a, b) <;> rfl
structure Bf (qs : List (Str × Str)) (g : Str × Str → Int) (t : Nat) (h : Str → Int) (c : Str → Option Str) (r : Str → Nat) (done : List (Str × Str)) : Prop where
  e : ∀ v u, c v = some u → (u, v) ∈ qs ∧ h v ≤ h u + g (u, v)
  le : ∀ v, r v ≤ t + 1
  st : ∀ v u, c v = some u → r v ≤ r u + 1
  has : ∀ v, 1 ≤ r v → ∃ u, c v = some u
  old : ∀ q ∈ qs, r q.1 < t → h q.1 + g q ≤ h q.2
  new : ∀ q ∈ done, r q.1 < t + 1 → h q.1 + g q ≤ h q.2
  cy : ∀ S : Str → Prop, (∃ v, S v) → (∀ v, S v → ∃ u, c v = some u ∧ S u) → ∃ v u, S v ∧ S u ∧ c v = some u ∧ h v < h u + g (u, v)
  nn : ∀ v, 0 ≤ h v
  zero : ∀ v, c v = none → h v = 0
/-- the state within a turn: what was raised last -/
structure Mid (qs : List (Str × Str)) (g : Str × Str → Int) (t : Nat) (h : Str → Int) (c : Str → Option Str) (r : Str → Nat) (done : List (Str × Str)) (last : Option Str) : Prop extends Bf qs g t h c r done where
  none_ : last = none → ∀ q ∈ done, h q.1 + g q ≤ h q.2
  some_ : ∀ f, last = some f → r f = t + 1
def setF {α : Type} (h : Str → α) (v : Str) (x : α) : Str → α := fun y => if y = v then x else h y
theorem setF_eq {α : Type} (h : Str → α) (v : Str) (x : α) : setF h v x v = x := if_pos rfl
theorem setF_ne {α : Type} (h : Str → α) {v y : Str} (x : α) (e : y ≠ v) : setF h v x y = h y := if_neg e
theorem Bf.start (qs : List (Str × Str)) (g : Str × Str → Int) : Bf qs g 0 (fun _ => 0) (fun _ => none) (fun _ => 0) [] where
  e := fun _ _ h => nomatch h
  le := fun _ => Nat.zero_le _
  st := fun _ _ h => nomatch h
  has := fun _ h => nomatch h
  old := fun _ _ h => nomatch h
  new := fun _ h => nomatch h
  cy := fun S ⟨v, hv⟩ hc => by
    obtain ⟨u, hu, _⟩ := hc v hv
    exact nomatch hu
  nn := fun _ => Int.le_refl _
  zero := fun _ _ => rfl
theorem Bf.turn {qs : List (Str × Str)} {g : Str × Str → Int} {t : Nat} {h : Str → Int} {c : Str → Option Str} {r : Str → Nat} (b : Bf qs g t h c r qs) : Bf qs g (t + 1) h c r [] where
  e := b.e
  le := fun v => Nat.le_succ_of_le (b.le v)
  st := b.st
  has := b.has
  old := fun q hq hr => b.new q hq hr
  new := fun _ h => nomatch h
  cy := b.cy
  nn := b.nn
  zero := b.zero
theorem Bf.mid {qs : List (Str × Str)} {g : Str × Str → Int} {t : Nat} {h : Str → Int} {c : Str → Option Str} {r : Str → Nat} (b : Bf qs g t h c r []) : Mid qs g t h c r [] none :=
  { b with none_ := fun _ _ hq => (nomatch hq), some_ := fun _ hf => (nomatch hf) }
theorem Mid.keep {qs : List (Str × Str)} {g : Str × Str → Int} {t : Nat} {h : Str → Int} {c : Str → Option Str} {r : Str → Nat} {done : List (Str × Str)} {last : Option Str} (m : Mid qs g t h c r done last) {q : Str × Str} (hs : ¬ h q.2 < h q.1 + g q) : Mid qs g t h c r (done ++ [q]) last :=
  { m with
    new := fun p hp hr => by
      rcases List.mem_append.mp hp with z | z
      · exact m.new p z hr
      · rw [List.mem_singleton.mp z]
        omega
    none_ := fun hn p hp => by
      rcases List.mem_append.mp hp with z | z
      · exact m.none_ hn p z
      · rw [List.mem_singleton.mp z]
        omega }
theorem Mid.raise {qs : List (Str × Str)} {g : Str × Str → Int} {t : Nat} {h : Str → Int} {c : Str → Option Str} {r : Str → Nat} {done : List (Str × Str)} {last : Option Str} (m : Mid qs g t h c r done last) (sub : ∀ q ∈ done, q ∈ qs) {u v : Str} (hq : (u, v) ∈ qs) (ne : u ≠ v) (hs : h v < h u + g (u, v)) :
    Mid qs g t (setF h v (h u + g (u, v))) (setF c v (some u)) (setF r v (t + 1)) (done ++ [(u, v)]) (some v) := by
  have hup : ∀ x, h x ≤ setF h v (h u + g (u, v)) x := fun x => by
    by_cases ex : x = v
    · rw [ex, setF_eq]
      omega
    · rw [setF_ne _ _ ex]
      exact Int.le_refl _
  have hu : setF h v (h u + g (u, v)) u = h u := setF_ne _ _ ne
  have hv : setF h v (h u + g (u, v)) v = h u + g (u, v) := setF_eq _ _ _
  have hrt : t ≤ r u := Nat.le_of_not_lt fun hlt => by
    have h1 := m.old _ hq hlt
    have h2 : h u + g (u, v) ≤ h v := h1
    omega
  refine { e := ?_, le := ?_, st := ?_, has := ?_, old := ?_, new := ?_, cy := ?_, nn := ?_, zero := ?_, none_ := fun z => (nomatch z), some_ := fun f z => ?_ }
  · intro x y hxy
    by_cases ex : x = v
    · subst ex
      rw [setF_eq] at hxy
      cases hxy
      exact ⟨hq, by rw [hv, hu]; exact Int.le_refl _⟩
    · rw [setF_ne _ _ ex] at hxy
      obtain ⟨h1, h2⟩ := m.e x y hxy
      refine ⟨h1, ?_⟩
      rw [setF_ne h _ ex]
      have := hup y
      omega
  · intro x
    by_cases ex : x = v
    · rw [ex, setF_eq]
      exact Nat.le_refl _
    · rw [setF_ne _ _ ex]
      exact m.le x
  · intro x y hxy
    by_cases ex : x = v
    · subst ex
      rw [setF_eq] at hxy
      cases hxy
      rw [setF_eq, setF_ne _ _ ne]
      omega
    · rw [setF_ne _ _ ex] at hxy
      have h1 := m.st x y hxy
      rw [setF_ne _ _ ex]
      by_cases ey : y = v
      · rw [ey, setF_eq]
        rw [ey] at h1
        have := m.le v
        have := m.le x
        omega
      · rw [setF_ne _ _ ey]
        exact h1
  · intro x hx
    by_cases ex : x = v
    · rw [ex, setF_eq]
      exact ⟨u, rfl⟩
    · rw [setF_ne _ _ ex] at hx ⊢
      exact m.has x hx
  · intro q hq1 hr
    by_cases ex : q.1 = v
    · rw [ex, setF_eq] at hr
      omega
    · rw [setF_ne _ _ ex] at hr
      rw [setF_ne h _ ex]
      have := m.old q hq1 hr
      have := hup q.2
      omega
  · intro q hq1 hr
    by_cases ex : q.1 = v
    · rw [ex, setF_eq] at hr
      omega
    · rw [setF_ne _ _ ex] at hr
      rw [setF_ne h _ ex]
      rcases List.mem_append.mp hq1 with z | z
      · have := m.new q z hr
        have := hup q.2
        omega
      · rw [List.mem_singleton.mp z]
        show h u + g (u, v) ≤ setF h v (h u + g (u, v)) v
        rw [hv]
        exact Int.le_refl _
  · intro S hne hcl
    by_cases hv' : ∃ w, S w ∧ w ≠ v ∧ c w = some v
    · by_cases hSv : S v
      · obtain ⟨w, h1, h2, h3⟩ := hv'
        refine ⟨w, v, h1, hSv, by rw [setF_ne _ _ h2]; exact h3, ?_⟩
        have := (m.e w v h3).2
        rw [setF_ne h _ h2, hv]
        omega
      · have hcl2 : ∀ x, S x → ∃ y, c x = some y ∧ S y := fun x hx => by
          obtain ⟨y, hy, hSy⟩ := hcl x hx
          have ex : x ≠ v := fun z => hSv (z ▸ hx)
          rw [setF_ne _ _ ex] at hy
          exact ⟨y, hy, hSy⟩
        obtain ⟨x, y, hx, hy, hxy, hlt⟩ := m.cy S hne hcl2
        have ex : x ≠ v := fun z => hSv (z ▸ hx)
        have ey : y ≠ v := fun z => hSv (z ▸ hy)
        refine ⟨x, y, hx, hy, by rw [setF_ne _ _ ex]; exact hxy, ?_⟩
        rw [setF_ne h _ ex, setF_ne h _ ey]
        exact hlt
    · have hne2 : ∃ x, S x ∧ x ≠ v := by
        obtain ⟨x, hx⟩ := hne
        by_cases ex : x = v
        · obtain ⟨y, hy, hSy⟩ := hcl x hx
          rw [ex, setF_eq] at hy
          cases hy
          exact ⟨u, hSy, ne⟩
        · exact ⟨x, hx, ex⟩
      have hcl2 : ∀ x, (S x ∧ x ≠ v) → ∃ y, c x = some y ∧ (S y ∧ y ≠ v) := fun x hx => by
        obtain ⟨y, hy, hSy⟩ := hcl x hx.1
        rw [setF_ne _ _ hx.2] at hy
        exact ⟨y, hy, hSy, fun z => hv' ⟨x, hx.1, hx.2, z ▸ hy⟩⟩
      obtain ⟨x, y, hx, hy, hxy, hlt⟩ := m.cy (fun x => S x ∧ x ≠ v) hne2 hcl2
      refine ⟨x, y, hx.1, hy.1, by rw [setF_ne _ _ hx.2]; exact hxy, ?_⟩
      rw [setF_ne h _ hx.2, setF_ne h _ hy.2]
      exact hlt
  · intro x
    exact Int.le_trans (m.nn x) (hup x)
  · intro x hx
    by_cases ex : x = v
    · rw [ex, setF_eq] at hx
      exact nomatch hx
    · rw [setF_ne _ _ ex] at hx ⊢
      exact m.zero x hx
  · cases z
    exact setF_eq _ _ _
/-! ### no ring grows where heights stand -/
structure Pot (zs ws : List Str) (qs : List (Str × Str)) (h : Str → Int) : Prop where
  nn : ∀ v, 0 ≤ h v
  few : ∀ v ∈ zs, h v < zs.length
  ok : ∀ q ∈ qs, h q.1 + gn zs ws q ≤ h q.2
theorem Mid.pot {zs ws : List Str} {qs : List (Str × Str)} {t : Nat} {h : Str → Int} {c : Str → Option Str} {r : Str → Nat} (m : Mid qs (gn zs ws) t h c r qs none) (hz : ∀ q ∈ qs, q.1 ∈ zs ∧ q.2 ∈ zs) : Pot zs ws qs h := by
  have ok := m.none_ rfl
  refine ⟨m.nn, fun v hv => ?_, ok⟩
  have hv0 := m.nn v
  have hall : ∀ k : Nat, (k : Int) ≤ h v → ∃ x ∈ zs, h x = k := fun k hk => by
    by_cases e : h v = k
    · exact ⟨v, hv, e⟩
    · refine Classical.byContradiction fun hno => ?_
      have hlt : (k : Int) < h v := by omega
      obtain ⟨x, y, hx, hy, hxy, hl⟩ := m.cy (fun x => (k : Int) < h x ∧ x ∈ zs) ⟨v, hlt, hv⟩ (fun x hx => by
        cases hc : c x with
        | none =>
          have := m.zero x hc
          omega
        | some u =>
          obtain ⟨h1, h2⟩ := m.e x u hc
          have h3 := (gn_le zs ws (u, x)).1
          have hu := (hz _ h1).1
          have : h u ≠ k := fun z => hno ⟨u, hu, z⟩
          exact ⟨u, rfl, by omega, hu⟩)
      have := ok _ (m.e x y hxy).1
      have h4 : h y + gn zs ws (y, x) ≤ h x := this
      omega
  obtain ⟨n, hn⟩ := Int.eq_ofNat_of_zero_le hv0
  have hch : ∀ k : Nat, ∃ x, k ≤ n → x ∈ zs ∧ h x = k := fun k => by
    by_cases hk : k ≤ n
    · obtain ⟨x, h1, h2⟩ := hall k (by omega)
      exact ⟨x, fun _ => ⟨h1, h2⟩⟩
    · exact ⟨v, fun z => absurd z hk⟩
  have hf := fun k => Classical.choose_spec (hch k)
  generalize hF : (fun k => Classical.choose (hch k)) = F at *
  have hF2 : ∀ k, k ≤ n → F k ∈ zs ∧ h (F k) = k := fun k hk => by
    rw [← hF]
    exact hf k hk
  have hnd : ((List.range (n + 1)).map F).Nodup := by
    refine List.pairwise_map.mpr ?_
    refine (List.pairwise_lt_range (n := n + 1)).imp_of_mem fun {a b} ha hb hab e => ?_
    have h1 := hF2 a (by have := List.mem_range.mp ha; omega)
    have h2 := hF2 b (by have := List.mem_range.mp hb; omega)
    rw [e, h2.2] at h1
    have := h1.2
    omega
  have hle := nodup_le _ zs hnd (fun x hx => by
    obtain ⟨k, hk, rfl⟩ := List.mem_map.mp hx
    exact (hF2 k (by have := List.mem_range.mp hk; omega)).1)
  rw [List.length_map, List.length_range] at hle
  omega
theorem C_pot {zs ws : List Str} {qs : List (Str × Str)} {h : Str → Int} (p : Pot zs ws qs h) : ∀ {a : Str} {l : List Str} {z : Str}, Ch qs (a :: l) → (a :: l).getLast? = some z → h a + ((C ws (a :: l) : Nat) : Int) ≤ h z + ((C zs (a :: l) : Nat) : Int)
  | a, [], z, _, e => by
    cases (show some a = some z from e)
    show h a + 0 ≤ h a + 0
    exact Int.le_refl _
  | a, b :: r, z, hc, e => by
    have h1 := p.ok (a, b) hc.1
    have h2 := C_pot p (a := b) (l := r) (z := z) hc.2 (by simpa using e)
    rw [gn_uu] at h1
    have e1 : C ws (a :: b :: r) = uu ws a b + C ws (b :: r) := rfl
    have e2 : C zs (a :: b :: r) = uu zs a b + C zs (b :: r) := rfl
    have h3 : h a + ((uu ws a b : Int) - (uu zs a b : Int)) ≤ h b := h1
    rw [e1, e2]
    omega
theorem Pot.rings {zs ws : List Str} {qs : List (Str × Str)} {h : Str → Int} (p : Pot zs ws qs h) {xs ls : List Str} (g : Rng qs xs ls) : T ws ls ≤ T zs ls := by
  cases ls with
  | nil => exact Nat.le_refl _
  | cons a l =>
    have hc : Ch qs (a :: (l ++ [a])) := g.ch
    have := C_pot p hc (z := a) (by rw [show a :: (l ++ [a]) = (a :: l) ++ [a] from rfl, List.getLast?_append]; rfl)
    show C ws (a :: (l ++ [a])) ≤ C zs (a :: (l ++ [a]))
    omega
/-! ### steps back -/
def wk (c : Str → Option Str) : Nat → Str → Option Str
  | 0, v => some v
  | k + 1, v => (wk c k v).bind c
theorem wk_has {qs : List (Str × Str)} {g : Str × Str → Int} {t : Nat} {h : Str → Int} {c : Str → Option Str} {r : Str → Nat} {done : List (Str × Str)} (b : Bf qs g t h c r done) {v : Str} : ∀ {k : Nat}, k ≤ r v → ∃ x, wk c k v = some x ∧ r v ≤ r x + k
  | 0, _ => ⟨v, rfl, Nat.le_refl _⟩
  | k + 1, hk => by
    obtain ⟨x, h1, h2⟩ := wk_has b (v := v) (k := k) (by omega)
    obtain ⟨u, hu⟩ := b.has x (by omega)
    refine ⟨u, ?_, ?_⟩
    · show (wk c k v).bind c = some u
      rw [h1]
      exact hu
    · have := b.st x u hu
      omega
/-- behind as many steps as there are books one goes round -/
theorem wk_round {zs : List Str} {c : Str → Option Str} {v s : Str} (nd : zs.Nodup) (hv : v ∈ zs) (hc : ∀ x y, c x = some y → y ∈ zs) (hw : wk c zs.length v = some s) : ∃ (q : Nat → Str) (m : Nat), 1 ≤ m ∧ q 0 = s ∧ q m = s ∧ (∀ k, c (q k) = some (q (k + 1))) ∧ ∀ k, 1 ≤ k → k < m → q k ≠ s := by
  have hsome : ∀ k, k ≤ zs.length → ∃ x, wk c k v = some x := fun k hk => by
    have : ∀ j, j ≤ zs.length → (wk c (zs.length - j) v).isSome = true := fun j => by
      induction j with
      | zero =>
        intro _
        rw [Nat.sub_zero, hw]
        rfl
      | succ j ih =>
        intro hj
        have h1 := ih (by omega)
        rw [show zs.length - j = (zs.length - (j + 1)) + 1 by omega] at h1
        have h2 : ((wk c (zs.length - (j + 1)) v).bind c).isSome = true := h1
        cases e : wk c (zs.length - (j + 1)) v with
        | none =>
          rw [e] at h2
          exact nomatch h2
        | some x => rfl
    have h1 := this (zs.length - k) (by omega)
    rw [show zs.length - (zs.length - k) = k by omega] at h1
    exact Option.isSome_iff_exists.mp h1
  let p : Nat → Str := fun k => (wk c k v).getD v
  have hp : ∀ k, k ≤ zs.length → wk c k v = some (p k) := fun k hk => by
    obtain ⟨x, hx⟩ := hsome k hk
    show wk c k v = some ((wk c k v).getD v)
    rw [hx]
    rfl
  have hst : ∀ k, k < zs.length → c (p k) = some (p (k + 1)) := fun k hk => by
    have h1 := hp (k + 1) (by omega)
    have h2 : (wk c k v).bind c = some (p (k + 1)) := h1
    rw [hp k (by omega)] at h2
    exact h2
  have hin : ∀ k, k ≤ zs.length → p k ∈ zs := fun k => by
    cases k with
    | zero => exact fun _ => hv
    | succ k => exact fun hk => hc _ _ (hst k (by omega))
  have hrep : ∃ i j, i < j ∧ j ≤ zs.length ∧ p i = p j := Classical.byContradiction fun hno => by
    have hnd : ((List.range (zs.length + 1)).map p).Nodup := by
      refine List.pairwise_map.mpr ?_
      refine (List.pairwise_lt_range (n := zs.length + 1)).imp_of_mem fun {a b} ha hb hab e => ?_
      exact hno ⟨a, b, hab, by have := List.mem_range.mp hb; omega, e⟩
    have hle := nodup_le _ zs hnd (fun x hx => by
      obtain ⟨k, hk, rfl⟩ := List.mem_map.mp hx
      exact hin k (by have := List.mem_range.mp hk; omega))
    rw [List.length_map, List.length_range] at hle
    omega
  obtain ⟨i, j, hij, hj, e⟩ := hrep
  have hd : 0 < j - i := by omega
  let s' : Nat → Str := fun k => p (i + k % (j - i))
  have hs' : ∀ k, c (s' k) = some (s' (k + 1)) := fun k => by
    have hlt := Nat.mod_lt k hd
    show c (p (i + k % (j - i))) = some (p (i + (k + 1) % (j - i)))
    rw [hst _ (by omega)]
    by_cases hw2 : k % (j - i) + 1 < j - i
    · rw [show (k + 1) % (j - i) = k % (j - i) + 1 by
        rw [Nat.add_mod, Nat.mod_eq_of_lt (a := 1) (by omega), Nat.mod_eq_of_lt hw2]]
      rw [show i + k % (j - i) + 1 = i + (k % (j - i) + 1) by omega]
    · have e2 : k % (j - i) + 1 = j - i := by omega
      have e3 : (k + 1) % (j - i) = 0 := by
        rw [← Nat.mod_add_mod, e2, Nat.mod_self]
      rw [e3, show i + k % (j - i) + 1 = j by omega, ← e]
      rfl
  have heq : ∀ k, i + k ≤ zs.length → p (i + k) = s' k := fun k => by
    induction k with
    | zero =>
      intro _
      show p (i + 0) = p (i + 0 % (j - i))
      rw [Nat.zero_mod]
    | succ k ih =>
      intro hk
      have h1 := hst (i + k) (by omega)
      rw [ih (by omega), hs' k] at h1
      exact (Option.some.inj h1).symm
  have hs : s = s' (zs.length - i) := by
    have h1 := hp zs.length (Nat.le_refl _)
    rw [hw] at h1
    rw [Option.some.inj h1, ← heq (zs.length - i) (by omega), show i + (zs.length - i) = zs.length by omega]
  let q : Nat → Str := fun k => s' (zs.length - i + k)
  have hq0 : q 0 = s := hs.symm
  have hqd : q (j - i) = s := by
    rw [hs]
    show p (i + (zs.length - i + (j - i)) % (j - i)) = p (i + (zs.length - i) % (j - i))
    rw [Nat.add_mod_right]
  have hqs : ∀ k, c (q k) = some (q (k + 1)) := fun k => hs' _
  obtain ⟨m, h1, h2, h3⟩ := st_least (p := fun k => 1 ≤ k ∧ q k = s) (j - i) ⟨by omega, hqd⟩
  exact ⟨q, m, h2.1, hq0, h2.2, hqs, fun k hk hkm e => h3 k hkm ⟨hk, e⟩⟩
/-- what stands behind, from the first on -/
def back (q : Nat → Str) (n : Nat) : List Str := (List.range n).map q
theorem back_len (q : Nat → Str) (n : Nat) : (back q n).length = n := by
  unfold back
  rw [List.length_map, List.length_range]
theorem back_succ (q : Nat → Str) (n : Nat) : back q (n + 1) = back q n ++ [q n] := by
  unfold back
  rw [List.range_succ, List.map_append]
  rfl
theorem back_rev (q : Nat → Str) (n : Nat) : (back q (n + 1)).reverse = q n :: (back q n).reverse := by
  rw [back_succ, List.reverse_append]
  rfl
theorem back_nodup {q : Nat → Str} {c : Str → Option Str} {s : Str} {m : Nat} (h0 : q 0 = s) (hm : q m = s) (hq : ∀ k, c (q k) = some (q (k + 1))) (hl : ∀ k, 1 ≤ k → k < m → q k ≠ s) : (back q m).Nodup := by
  have go : ∀ d a b, q a = q b → q (a + d) = q (b + d) := fun d => by
    induction d with
    | zero => exact fun a b h => h
    | succ d ih =>
      intro a b h
      have h1 := hq (a + d)
      rw [ih a b h, hq (b + d)] at h1
      exact (Option.some.inj h1).symm
  refine List.pairwise_map.mpr ?_
  refine (List.pairwise_lt_range (n := m)).imp_of_mem fun {a b} ha hb hab e => ?_
  have hbm := List.mem_range.mp hb
  have h1 := go (m - b) a b e
  rw [show b + (m - b) = m by omega, hm] at h1
  exact hl (a + (m - b)) (by omega) (by omega) h1
theorem ch_back {qs : List (Str × Str)} {q : Nat → Str} (h : ∀ k, (q (k + 1), q k) ∈ qs) : ∀ n, Ch qs (back q n).reverse
  | 0 => trivial
  | 1 => trivial
  | n + 2 => by
    rw [back_rev, back_rev]
    refine ⟨h n, ?_⟩
    rw [← back_rev]
    exact ch_back h (n + 1)
theorem C_back {zs ws : List Str} {h : Str → Int} {q : Nat → Str} (hle : ∀ k, h (q k) ≤ h (q (k + 1)) + gn zs ws (q (k + 1), q k)) : ∀ n, h (q 0) + ((C zs (back q (n + 1)).reverse : Nat) : Int) ≤ h (q n) + ((C ws (back q (n + 1)).reverse : Nat) : Int) ∧
    ((∃ k, k < n ∧ h (q k) < h (q (k + 1)) + gn zs ws (q (k + 1), q k)) → h (q 0) + ((C zs (back q (n + 1)).reverse : Nat) : Int) < h (q n) + ((C ws (back q (n + 1)).reverse : Nat) : Int))
  | 0 => ⟨Int.le_refl _, fun ⟨k, hk, _⟩ => absurd hk (Nat.not_lt_zero k)⟩
  | n + 1 => by
    obtain ⟨i1, i2⟩ := C_back hle n
    have h1 := hle n
    rw [gn_uu] at h1
    have e : ∀ xs : List Str, C xs (back q (n + 1 + 1)).reverse = uu xs (q (n + 1)) (q n) + C xs (back q (n + 1)).reverse := fun xs => by
      rw [back_rev, back_rev q n]
      rfl
    rw [e, e]
    refine ⟨by omega, ?_⟩
    rintro ⟨k, hk, hs⟩
    by_cases hkn : k = n
    · subst hkn
      rw [gn_uu] at hs
      omega
    · have := i2 ⟨k, by omega, hs⟩
      omega
theorem ring_rot {qs : List (Str × Str)} {zs ws : List Str} {q : Nat → Str} {m : Nat} {s : Str} (hm : 2 ≤ m) (h0 : q 0 = s) (hqm : q m = s) : (∀ xs, T xs (back q m).reverse = C xs (back q (m + 1)).reverse) ∧ (Ch qs (back q (m + 1)).reverse → Ch qs ((back q m).reverse ++ (back q m).reverse.take 1)) := by
  obtain ⟨n, rfl⟩ : ∃ n, m = n + 1 := ⟨m - 1, by omega⟩
  have hb : ∀ n, (back q (n + 1)).reverse = ((List.range n).map fun k => q (k + 1)).reverse ++ [q 0] := fun n => by
    unfold back
    rw [List.range_succ_eq_map, List.map_cons, List.map_map, List.reverse_cons]
    rfl
  have hr : (back q (n + 1 + 1)).reverse = q 0 :: (back q (n + 1)).reverse := by
    rw [back_rev, hqm, h0]
  refine ⟨fun xs => ?_, fun h => ?_⟩
  · rw [hb n, T_rot, hr, hb n]
    rfl
  · rw [hr, hb n] at h
    rw [hb n]
    generalize hgu : ((List.range n).map fun k => q (k + 1)).reverse = u at *
    cases u with
    | nil =>
      have := congrArg List.length hgu
      rw [List.length_reverse, List.length_map, List.length_range] at this
      exact absurd (show n = 0 from this) (by omega)
    | cons a t =>
      have h1 : (q 0, a) ∈ qs := h.1
      have h2 : Ch qs (a :: t ++ [q 0]) := h.2
      show Ch qs ((a :: t ++ [q 0]) ++ [a])
      rw [List.append_assoc]
      exact Ch.app (u := a :: t) (x := q 0) (v := [a]) h2 ⟨h1, trivial⟩
/-- the ring that the heights tell -/
theorem Bf.ring {zs ws : List Str} {qs : List (Str × Str)} {t : Nat} {h : Str → Int} {c : Str → Option Str} {r : Str → Nat} {done : List (Str × Str)} (b : Bf qs (gn zs ws) t h c r done) (hz : ∀ q ∈ qs, q.2 ∈ zs ∧ q.1 ≠ q.2 ∧ q.1 ∈ zs)
    {q : Nat → Str} {m : Nat} {s : Str} (hm : 1 ≤ m) (h0 : q 0 = s) (hqm : q m = s) (hq : ∀ k, c (q k) = some (q (k + 1))) (hl : ∀ k, 1 ≤ k → k < m → q k ≠ s) : Rng qs zs (back q m).reverse ∧ T zs (back q m).reverse < T ws (back q m).reverse := by
  have hpair : ∀ k, (q (k + 1), q k) ∈ qs := fun k => (b.e _ _ (hq k)).1
  have hm2 : 2 ≤ m := by
    refine Nat.lt_of_le_of_ne hm fun e => ?_
    subst e
    exact (hz _ (hpair 0)).2.1 (hqm.trans h0.symm)
  obtain ⟨r1, r2⟩ := ring_rot (qs := qs) (zs := zs) (ws := ws) hm2 h0 hqm
  refine ⟨⟨?_, ?_, ?_, r2 (ch_back hpair _)⟩, ?_⟩
  · have h1 := back_nodup h0 hqm hq hl
    exact List.pairwise_reverse.mpr (h1.imp fun h e => h e.symm)
  · rw [List.length_reverse, back_len]
    exact hm2
  · intro x hx
    obtain ⟨k, _, rfl⟩ := List.mem_map.mp (List.mem_reverse.mp hx)
    exact (hz _ (hpair k)).1
  · rw [r1, r1]
    have hle : ∀ k, h (q k) ≤ h (q (k + 1)) + gn zs ws (q (k + 1), q k) := fun k => (b.e _ _ (hq k)).2
    obtain ⟨x, y, ⟨k, hk, rfl⟩, _, hxy, hlt⟩ := b.cy (fun x => ∃ k, k < m ∧ x = q k) ⟨q 0, 0, by omega, rfl⟩ (fun x ⟨k, hk, e⟩ => by
      subst e
      by_cases hkm : k + 1 < m
      · exact ⟨_, hq k, k + 1, hkm, rfl⟩
      · have e2 : k + 1 = m := by omega
        exact ⟨_, hq k, 0, by omega, by rw [e2, hqm, h0]⟩)
    rw [hq k] at hxy
    cases hxy
    have := (C_back (zs := zs) (ws := ws) hle m).2 ⟨k, hk, hlt⟩
    rw [hqm, h0] at this
    omega
/-! ### the same told again: which ring it is -/
abbrev RS := (Str → Int) × (Str → Option Str) × Option Str
def rs (g : Str × Str → Int) (st : RS) (q : Str × Str) : RS := if st.1 q.2 < st.1 q.1 + g q then (setF st.1 q.2 (st.1 q.1 + g q), setF st.2.1 q.2 (some q.1), some q.2) else st
def rnd (qs : List (Str × Str)) (g : Str × Str → Int) (h : Str → Int) (c : Str → Option Str) : RS := qs.foldl (rs g) (h, c, none)
def rndsL (qs : List (Str × Str)) (g : Str × Str → Int) : Nat → RS
  | 0 => (fun _ => 0, fun _ => none, none)
  | i + 1 => rnd qs g (rndsL qs g i).1 (rndsL qs g i).2.1
def RingIs (zs ws : List Str) (qs : List (Str × Str)) (ls : List Str) : Prop := ∃ (h : Str → Int) (c : Str → Option Str) (f s : Str) (q : Nat → Str) (m : Nat), rndsL qs (gn zs ws) zs.length = (h, c, some f) ∧ wk c zs.length f = some s ∧ q 0 = s ∧ q m = s ∧ 1 ≤ m ∧ (∀ k, c (q k) = some (q (k + 1))) ∧ (∀ k, 1 ≤ k → k < m → q k ≠ s) ∧ ls = (back q m).reverse
theorem RingIs.one {zs ws : List Str} {qs : List (Str × Str)} {ls ls' : List Str} (a : RingIs zs ws qs ls) (b : RingIs zs ws qs ls') : ls = ls' := by
  obtain ⟨h, c, f, s, q, m, e1, e2, e3, e4, e5, e6, e7, rfl⟩ := a
  obtain ⟨h', c', f', s', q', m', d1, d2, d3, d4, d5, d6, d7, rfl⟩ := b
  rw [e1] at d1
  cases d1
  rw [e2] at d2
  cases d2
  have hq : ∀ k, q k = q' k := fun k => by
    induction k with
    | zero => rw [e3, d3]
    | succ k ih =>
      have h1 := e6 k
      rw [ih, d6 k] at h1
      exact (Option.some.inj h1).symm
  have hm : m = m' := by
    refine Nat.le_antisymm (Nat.le_of_not_lt fun z => ?_) (Nat.le_of_not_lt fun z => ?_)
    · exact e7 m' d5 z (by rw [hq]; exact d4)
    · exact d7 m e5 z (by rw [← hq]; exact e4)
  have : q = q' := funext hq
  rw [this, hm]
end HF
namespace HF
open PySem PySem.Spec PyProof.Rows L2
/-! ### the fewest goings: the mathematics -/
/-- what forces all down to a place of the other heap -/
def Fp (zs ws : List Str) (g : Str → Int) (i : Nat) (x : Str) : Prop := 0 < g x ∨ ∃ y, ws[i + 1]? = some y ∧ pos y zs < pos x zs
structure Sol (zs ws : List Str) (qs : List (Str × Str)) (g : Str → Int) : Prop where
  nn : ∀ x, 0 ≤ g x
  up : ∀ i x, ws[i]? = some x → Fp zs ws g i x → ∀ j y, j ≤ i → ws[j]? = some y → 1 ≤ g y
  ed : ∀ q ∈ qs, 0 < g q.1 → g q.1 + gn zs ws q ≤ g q.2
theorem Fp.mono {zs ws : List Str} {g g' : Str → Int} {i : Nat} {x : Str} (h : Fp zs ws g i x) (le : ∀ x, g x ≤ g' x) : Fp zs ws g' i x := h.imp (fun z => by have := le x; omega) id
theorem Pot.sol {zs ws : List Str} {qs : List (Str × Str)} {h : Str → Int} (p : Pot zs ws qs h) : Sol zs ws qs (fun x => 1 + h x) := by
  refine ⟨fun x => ?_, fun i x hx hf j y hj hy => ?_, fun q hq hp => ?_⟩
  · have := p.nn x
    show 0 ≤ 1 + h x
    omega
  · have := p.nn y
    show 1 ≤ 1 + h y
    omega
  · have := p.ok q hq
    show 1 + h q.1 + gn zs ws q ≤ 1 + h q.2
    omega
/-- how many are forced -/
structure Fm (zs ws : List Str) (g : Str → Int) (m : Nat) : Prop where
  le : m ≤ ws.length
  all : ∀ i x, ws[i]? = some x → Fp zs ws g i x → i < m
  at_ : m = 0 ∨ ∃ x, ws[m - 1]? = some x ∧ Fp zs ws g (m - 1) x
def rz (g : Str → Int) (xs : List Str) : Str → Int := fun x => if x ∈ xs then max (g x) 1 else g x
theorem rz_le (g : Str → Int) (xs : List Str) (x : Str) : g x ≤ rz g xs x := by
  unfold rz
  split <;> omega
theorem rz_in {g : Str → Int} {xs : List Str} {x : Str} (h : x ∈ xs) : 1 ≤ rz g xs x := by
  unfold rz
  rw [if_pos h]
  omega
theorem rz_out {g : Str → Int} {xs : List Str} {x : Str} (h : x ∉ xs) : rz g xs x = g x := if_neg h
theorem rz_set {g : Str → Int} {xs : List Str} {x : Str} : setF (rz g xs) x (max (rz g xs x) 1) = rz g (xs ++ [x]) := by
  funext y
  unfold setF rz
  by_cases e : y = x
  · subst e
    rw [if_pos rfl, if_pos (List.mem_append.mpr (.inr (List.mem_singleton.mpr rfl)))]
    split <;> omega
  · rw [if_neg e]
    have : (y ∈ xs ++ [x]) ↔ y ∈ xs := by
      rw [List.mem_append, List.mem_singleton]
      exact ⟨fun h => h.resolve_right e, .inl⟩
    simp only [this]
theorem Fm.below {zs ws : List Str} {qs : List (Str × Str)} {g g' : Str → Int} {m : Nat} (f : Fm zs ws g m) (s : Sol zs ws qs g') (le : ∀ x, g x ≤ g' x) : ∀ x, rz g (ws.take m) x ≤ g' x := fun x => by
  by_cases hx : x ∈ ws.take m
  · obtain ⟨j, hj⟩ := List.mem_iff_getElem?.mp hx
    rw [List.getElem?_take] at hj
    split at hj
    · rename_i hjm
      rcases f.at_ with h0 | ⟨y, hy, hf⟩
      · omega
      · have := s.up (m - 1) y hy (hf.mono le) j x (by omega) hj
        have := le x
        unfold rz
        rw [if_pos hx]
        omega
    · exact nomatch hj
  · rw [rz_out hx]
    exact le x
/-- the end: nothing was raised by ties behind what is forced -/
theorem Fm.sol {zs ws : List Str} {qs : List (Str × Str)} {g : Str → Int} {m : Nat} (f : Fm zs ws g m) (nd : ws.Nodup) (nn : ∀ x, 0 ≤ g x) (ed : ∀ q ∈ qs, 0 < rz g (ws.take m) q.1 → rz g (ws.take m) q.1 + gn zs ws q ≤ rz g (ws.take m) q.2) : Sol zs ws qs (rz g (ws.take m)) := by
  refine ⟨fun x => Int.le_trans (nn x) (rz_le _ _ _), fun i x hx hf j y hj hy => ?_, ed⟩
  have him : i < m := Nat.lt_of_not_le fun hle => by
    have hxn : x ∉ ws.take m := fun hm => by
      obtain ⟨k, hk⟩ := List.mem_iff_getElem?.mp hm
      rw [List.getElem?_take] at hk
      split at hk
      · have h1 := pos_at nd hx
        have h2 := pos_at nd hk
        omega
      · exact nomatch hk
    have : Fp zs ws g i x := hf.imp (fun z => by rw [rz_out hxn] at z; exact z) id
    have := f.all i x hx this
    omega
  refine rz_in (List.mem_iff_getElem?.mpr ⟨j, ?_⟩)
  rw [List.getElem?_take, if_pos (by omega)]
  exact hy
/-! ### how much is left to be raised -/
def room (zs : List Str) (U g : Str → Int) : Nat := (zs.map fun x => (U x - g x).toNat).sum
theorem room_le {U g g' : Str → Int} (le : ∀ x, g x ≤ g' x) : ∀ zs : List Str, room zs U g' ≤ room zs U g
  | [] => Nat.le_refl _
  | z :: r => by
    have h1 := room_le le r (U := U)
    have h2 := le z
    show (U z - g' z).toNat + room r U g' ≤ (U z - g z).toNat + room r U g
    omega
theorem room_lt {U g g' : Str → Int} (le : ∀ x, g x ≤ g' x) {v : Str} (hv : g v < g' v) (hU : g' v ≤ U v) : ∀ {zs : List Str}, v ∈ zs → room zs U g' < room zs U g
  | z :: r, h => by
    have h1 := room_le le r (U := U)
    have h2 := le z
    show (U z - g' z).toNat + room r U g' < (U z - g z).toNat + room r U g
    rcases List.mem_cons.mp h with e | e
    · subst e
      omega
    · have := room_lt le hv hU e
      omega
theorem setF_up {g : Str → Int} {v : Str} {x : Int} (h : g v ≤ x) : ∀ y, g y ≤ setF g v x y := fun y => by
  unfold setF
  split
  · rename_i e
    rw [e]
    exact h
  · exact Int.le_refl _
theorem setF_below {g g' : Str → Int} {v : Str} {x : Int} (le : ∀ y, g y ≤ g' y) (h : x ≤ g' v) : ∀ y, setF g v x y ≤ g' y := fun y => by
  unfold setF
  split
  · rename_i e
    rw [e]
    exact h
  · exact le y
/-- the numbers of goings: the least of all that do -/
structure Lst (zs ws : List Str) (qs : List (Str × Str)) (g : Str → Int) : Prop where
  sol : Sol zs ws qs g
  least : ∀ g', Sol zs ws qs g' → ∀ x, g x ≤ g' x
theorem Lst.few {zs ws : List Str} {qs : List (Str × Str)} {g h : Str → Int} (l : Lst zs ws qs g) (p : Pot zs ws qs h) : ∀ x ∈ zs, g x ≤ zs.length := fun x hx => by
  have h1 := l.least _ p.sol x
  have h2 := p.few x hx
  have h3 : g x ≤ 1 + h x := h1
  omega
theorem Lst.one {zs ws : List Str} {qs : List (Str × Str)} {g g' : Str → Int} (l : Lst zs ws qs g) (l' : Lst zs ws qs g') : g = g' := funext fun x => Int.le_antisymm (l.least _ l'.sol x) (l'.least _ l.sol x)
/-! ### the row of these -/
def layer (ws : List Str) (g : Str → Int) (k : Nat) : List Str := ws.reverse.filter fun x => decide ((k : Int) ≤ g x)
def rowOf (ws : List Str) (g : Str → Int) : Nat → List Str
  | 0 => []
  | n + 1 => layer ws g (n + 1) ++ rowOf ws g n
theorem layer_sub {ws : List Str} {g : Str → Int} {k : Nat} : ∀ x ∈ layer ws g k, x ∈ ws := fun x hx => List.mem_reverse.mp (List.mem_filter.mp hx).1
theorem rowOf_sub {ws : List Str} {g : Str → Int} : ∀ {n : Nat}, ∀ x ∈ rowOf ws g n, x ∈ ws
  | 0, x, hx => nomatch hx
  | n + 1, x, hx => (List.mem_append.mp hx).elim (layer_sub x) (rowOf_sub x)
theorem layer_len (ws : List Str) (g : Str → Int) (k : Nat) : (layer ws g k).length ≤ ws.length := by
  have := List.length_filter_le (fun x => decide ((k : Int) ≤ g x)) ws.reverse
  rw [List.length_reverse] at this
  exact this
theorem rowOf_len (ws : List Str) (g : Str → Int) : ∀ n, (rowOf ws g n).length ≤ n * ws.length
  | 0 => Nat.zero_le _
  | n + 1 => by
    have h1 := rowOf_len ws g n
    have h2 := layer_len ws g (n + 1)
    show (layer ws g (n + 1) ++ rowOf ws g n).length ≤ (n + 1) * ws.length
    rw [List.length_append, Nat.add_mul]
    omega
end HF
/-! one of two readings; loops and comprehensions over lists or tuples -/
namespace HF
open PySem PySem.Spec PyProof.Rows L2
section
variable {X : Cx}
def oE (a b : TE) : TE := fun σ H Q => a σ H Q ∨ b σ H Q
def oI (a b : TI) : TI := fun σ H R => a σ H R ∨ b σ H R
def oG (a b : TG) : TG := fun v σ H Q => a v σ H Q ∨ b v σ H Q
theorem pe_or2 {e : Expr} {t1 t2 : TE} (h1 : PE X e t1) (h2 : PE X e t2) : PE X e (oE t1 t2) := ⟨fun pins s σ H Q I h => h.elim (h1.run pins s σ H Q I) (h2.run pins s σ H Q I)⟩
theorem pi_or2 {tg e : Expr} {t1 t2 : TI} (h1 : PI X tg e t1) (h2 : PI X tg e t2) : PI X tg e (oI t1 t2) := ⟨fun pins s σ H R I h => h.elim (h1.run pins s σ H R I) (h2.run pins s σ H R I)⟩
theorem pg_or2 {tg : Expr} {t1 t2 : TG} (h1 : PG X tg t1) (h2 : PG X tg t2) : PG X tg (oG t1 t2) := ⟨fun pins s σ H v u Q I r h => h.elim (h1.run pins s σ H v u Q I r) (h2.run pins s σ H v u Q I r)⟩
theorem pi_en {X : Cx} {e : Expr} {ta : TA} {p pos tpos : Pos} {elts : List Expr} {kk : Nat} (hg : Gl X "enumerate") (hm : X.mg "enumerate" = none) (ha : PA X [e] ta) (hs : starEach [e] X.env = [(false, eval e X.env)] := by rfl) : PI X (.Tuple elts kk tpos) (.Call (.Name "enumerate" p) [e] [] pos) (oI (iEnum X.K ta) (iEnT X.K ta)) := pi_or2 (pi_enum hg hm ha hs) (pi_enT hg hm ha hs)
theorem pi_sq {tg e : Expr} {t : TE} (h : PE X e t) : PI X tg e (oI (iList X.K t) (iTup X.K t)) := pi_or2 (pi_list h) (pi_tup h)
end
/-- what stands at a stays -/
def Kp (K : PySem.W.Frag) (a : Addr) (H H' : Hp) : Prop := (∀ xs, SqL K H a xs → SqL K H' a xs) ∧ (∀ xs, SqT K H a xs → SqT K H' a xs)
theorem Kp.of {K : PySem.W.Frag} {a : Addr} {H H' : Hp} (sm : Same H H') : Kp K a H H' := ⟨fun _ h => sm.seq h, fun _ h => sameT sm h⟩
theorem Kp.oth {K : PySem.W.Frag} {a p : Addr} {H H' : Hp} (o : Oth p H H') (n : a ≠ p) : Kp K a H H' := ⟨fun _ h => o.seq n h, fun _ h => o.sqT n h⟩
theorem for_seq {K : PySem.W.Frag} {k : Nat} {a : Addr} {xs : List V} {g : TG} {tb : TS} {D : Ends} {σ : L2.St} {H H0 : Hp} (hv : σ[k]? = some (some (.ref a))) (hq : Sq K H0 a xs) (Pv : Nat → L2.St → Hp → Prop) (h0 : Pv 0 σ H) (hl : ∀ i σ H', i ≤ xs.length → Pv i σ H' → Kp K a H0 H')
    (hs : ∀ i x σ H, xs[i]? = some x → Pv i σ H → g x σ H fun σ2 H2 => tb { D with nx := Pv (i + 1), ct := Pv (i + 1), bk := D.nx } σ2 H2) (hd : ∀ σ H, Pv xs.length σ H → D.nx σ H) :
    tFor (oI (iList K (tVar k)) (iTup K (tVar k))) g tb D σ H := by
  have kp := hl 0 σ H (Nat.zero_le _) h0
  rcases hq with hq | hq
  · exact .inl ⟨.ref a, hv, a, rfl, ⟨_, kp.1 _ hq⟩, for_list (xs := xs) Pv h0 (fun i σ H' hi p => (hl i σ H' hi p).1 _ hq) hs hd⟩
  · exact .inr ⟨.ref a, hv, a, rfl, ⟨_, kp.2 _ hq⟩, for_tup (xs := xs) Pv h0 (fun i σ H' hi p => (hl i σ H' hi p).2 _ hq) hs hd⟩
theorem for_enum {K : PySem.W.Frag} {k : Nat} {a : Addr} {xs : List V} {g : TG} {tb : TS} {D : Ends} {σ : L2.St} {H H0 : Hp} (hv : σ[k]? = some (some (.ref a))) (hq : Sq K H0 a xs) (Pv : Nat → L2.St → Hp → Prop) (h0 : Pv 0 σ H) (hl : ∀ i σ H', i ≤ xs.length → Pv i σ H' → Kp K a H0 H')
    (hs : ∀ (i : Nat) (x : V) (σ : L2.St) (H : Hp) (T : Addr), xs[i]? = some x → Pv i σ H → H T = none → g (.ref T) σ (upd H T (.tup [.int (i : Nat), x])) fun σ2 H2 => tb { D with nx := Pv (i + 1), ct := Pv (i + 1), bk := D.nx } σ2 H2) (hd : ∀ σ H, Pv xs.length σ H → D.nx σ H) :
    tFor (oI (iEnum K (tCons (tVar k) tNil)) (iEnT K (tCons (tVar k) tNil))) g tb D σ H := by
  have kp := hl 0 σ H (Nat.zero_le _) h0
  have st : ∀ i x σ H H', i < xs.length → Pv i σ H → YPair (fun i => some (.int (i : Nat))) (fun i => xs[i]?) i H x H' → g x σ H' fun σ2 H2 => tb { D with nx := Pv (i + 1), ct := Pv (i + 1), bk := D.nx } σ2 H2 := by
    rintro i x σ H H' hi p ⟨T, u, v, rfl, nT, rfl, hu, hv2⟩
    cases (show some (V.int (i : Nat)) = some u from hu)
    exact hs i v σ H T hv2 p nT
  rcases hq with hq | hq
  · exact .inl ⟨.ref a, hv, a, _, rfl, kp.1 _ hq, for_it (walk_enum (xs := xs)) Pv h0 (fun i σ H' hi p => (hl i σ H' hi p).1 _ hq) st hd⟩
  · exact .inr ⟨.ref a, hv, a, _, rfl, kp.2 _ hq, for_it (walk_enT (xs := xs)) Pv h0 (fun i σ H' hi p => (hl i σ H' hi p).2 _ hq) st hd⟩
theorem same_put {H H1 : Hp} {D : Addr} {o : HO} (s : Same H H1) (nD : H D = none) : Same H (upd H1 D o) := fun z u ez => by
  rw [upd_ne (ne_of_none ez nD)]
  exact s _ _ ez
theorem fm_snoc {out : Nat → Option V} (i : Nat) : (List.range (i + 1)).filterMap out = (List.range i).filterMap out ++ (out i).toList := by
  have e : [i].filterMap out = (out i).toList := by
    cases h : out i with
    | none => simp [h]
    | some y => simp [h]
  rw [List.range_succ, List.filterMap_append, e]
theorem fm_len {out : Nat → Option V} (i : Nat) : ((List.range i).filterMap out).length ≤ i := by
  have := List.length_filterMap_le out (List.range i)
  rwa [List.length_range] at this
/-- a comprehension whose parts change nothing, whatever is walked -/
theorem lc_w {J : It} {n : Nat} {G : Hp → Prop} {Y : Nat → Hp → V → Hp → Prop} (wk : Walk J n G Y) {g : TG} {tt : TT} {te : TE} {vs : List Nat} {σ : L2.St} {H : Hp} {D : Addr} {Qd : Hp → Prop} (nD : H D = none) (few : n ≤ 100000)
    (hG : ∀ H', Same H H' → G H') (hY : ∀ i x H1 H2, i < n → Same H H1 → Y i H1 x H2 → Same H1 H2) (out : Nat → Option V)
    (hs : ∀ i x H1 H2, i < n → Same H H1 → Y i H1 x H2 → ∀ (T : V → Hp → Prop) (F : Hp → Prop), (∀ y H4, Same H2 H4 → out i = some y → T y H4) → (∀ H3, Same H2 H3 → out i = none → F H3) →
      g x (wipe σ vs) H2 fun σ2 H5 => wipe σ2 vs = wipe σ vs ∧ tt σ2 H5 fun b H3 => if b = true then te σ2 H3 T else F H3)
    (hd : ∀ H', Same H H' → H' D = some (.lst ((List.range n).filterMap out)) → Qd H') :
    ∃ W : Nat → Nat → Hp → Prop, (∃ m, W 0 m (upd H D (.lst []))) ∧ ∀ i m H, W i m H →
      (J.stop i H ∧ Qd H) ∨ (J.go i H ∧ ∃ Nx : Hp → Prop, (∀ H', Nx H' → ∃ m', m' < m ∧ W (i + 1) m' H') ∧ ∀ x H', J.yld i H x H' → g x (wipe σ vs) H' fun σ2 H2 => wipe σ2 vs = wipe σ vs ∧ tt σ2 H2 fun b H3 =>
        if b = true then te σ2 H3 fun y H4 => ∃ acc, H4 D = some (.lst acc) ∧ acc.length < sizeLine ∧ Nx (upd H4 D (.lst (acc ++ [y]))) else Nx H3) := by
  refine lc_it wk (fun i H4 => H4 D = some (.lst ((List.range i).filterMap out)) ∧ Same H H4) ⟨upd_same, same_upd nD⟩ (fun i H4 _ h => hG _ h.2) ?_ (fun H4 h => hd _ h.2 h.1)
  rintro i x H4 H5 hi ⟨hD, s4⟩ hy
  have s5 := hY i x H4 H5 hi s4 hy
  refine hs i x H4 H5 hi s4 hy _ _ (fun y H6 s6 ho => ?_) (fun H6 s6 ho => ?_)
  · refine ⟨_, s6 _ _ (s5 _ _ hD), ?_, ?_, same_put ((s4.trans s5).trans s6) nD⟩
    · have := fm_len (out := out) i
      rw [sizeLine_eq]
      omega
    · rw [upd_same, fm_snoc, ho]
      rfl
  · refine ⟨?_, (s4.trans s5).trans s6⟩
    rw [s6 _ _ (s5 _ _ hD), fm_snoc, ho]
    simp
theorem fm_map {α : Type} {f : α → Option V} {out : Nat → Option V} : ∀ {zs : List α}, (∀ i z, zs[i]? = some z → out i = f z) → (List.range zs.length).filterMap out = zs.filterMap f := by
  intro zs h
  have e : (List.range zs.length).filterMap out = (List.range zs.length).filterMap fun i => (zs[i]?).bind f := by
    refine fm_congr fun i hi => ?_
    have hl := List.mem_range.mp hi
    rw [List.getElem?_eq_getElem hl, h i _ (List.getElem?_eq_getElem hl)]
    rfl
  rw [e]
  clear e h
  induction zs with
  | nil => rfl
  | cons z r ih =>
    rw [List.length_cons, List.range_succ_eq_map, List.filterMap_cons]
    have e2 : (List.map Nat.succ (List.range r.length)).filterMap (fun i => ((z :: r)[i]?).bind f) = (List.range r.length).filterMap fun i => (r[i]?).bind f := by
      rw [List.filterMap_map]
      rfl
    rw [e2, ih, List.filterMap_cons]
    rfl
/-- over a list or a tuple of what xs says, parts that change nothing -/
theorem lc_seq {K : PySem.W.Frag} {k : Nat} {a : Addr} {α : Type} {zs : List α} {emb : α → V} {g : TG} {tt : TT} {te : TE} {vs : List Nat} {σ : L2.St} {H : Hp} {Q : VK} (f : α → Option V) (hv : σ[k]? = some (some (.ref a))) (hq : Sq K H a (zs.map emb)) (few : zs.length ≤ 100000)
    (hs : ∀ (i : Nat) (z : α) (H2 : Hp), zs[i]? = some z → Same H H2 → ∀ (T : V → Hp → Prop) (F : Hp → Prop), (∀ y H4, Same H2 H4 → f z = some y → T y H4) → (∀ H3, Same H2 H3 → f z = none → F H3) →
      g (emb z) (wipe σ vs) H2 fun σ2 H5 => wipe σ2 vs = wipe σ vs ∧ tt σ2 H5 fun b H3 => if b = true then te σ2 H3 T else F H3)
    (hd : ∀ D H', H D = none → Same H H' → H' D = some (.lst (zs.filterMap f)) → Q (.ref D) H') :
    tLc (oI (iList K (tVar k)) (iTup K (tVar k))) g tt te vs σ H Q := by
  have fl : (zs.map emb).length ≤ 100000 := by rw [List.length_map]; exact few
  have ho : ∀ (i : Nat) (z : α), zs[i]? = some z → (fun i : Nat => (zs[i]?).bind f) i = f z := fun i z h => by
    show (zs[i]?).bind f = f z
    rw [h]
    rfl
  have tl : (List.range (zs.map emb).length).filterMap (fun i : Nat => (zs[i]?).bind f) = zs.filterMap f := by
    rw [List.length_map]
    exact fm_map ho
  have st : ∀ i x H1 H2, i < (zs.map emb).length → Same H H1 → (H2 = H1 ∧ (zs.map emb)[i]? = some x) → ∀ (T : V → Hp → Prop) (F : Hp → Prop), (∀ y H4, Same H2 H4 → (fun i : Nat => (zs[i]?).bind f) i = some y → T y H4) → (∀ H3, Same H2 H3 → (fun i : Nat => (zs[i]?).bind f) i = none → F H3) →
      g x (wipe σ vs) H2 fun σ2 H5 => wipe σ2 vs = wipe σ vs ∧ tt σ2 H5 fun b H3 => if b = true then te σ2 H3 T else F H3 := by
    rintro i x H1 H2 hi s1 ⟨rfl, hx⟩ T F hT hF
    rw [List.getElem?_map] at hx
    obtain ⟨z, hz, rfl⟩ := Option.map_eq_some_iff.mp hx
    exact hs i z _ hz s1 T F (fun y H4 s4 e => hT y H4 s4 ((ho i z hz).trans e)) (fun H3 s3 e => hF H3 s3 ((ho i z hz).trans e))
  rcases hq with hq | hq
  · refine .inl ⟨.ref a, hv, a, rfl, ⟨_, hq⟩, fun D nD => lc_w (walk_list (xs := zs.map emb)) nD fl (fun H' s => s.seq hq) (fun i x H1 H2 _ _ y => by rw [y.1]; exact Same.refl _) _ st (fun H' s hD => hd D H' nD s (by rw [← tl]; exact hD))⟩
  · refine .inr ⟨.ref a, hv, a, rfl, ⟨_, hq⟩, fun D nD => lc_w (walk_tup (xs := zs.map emb)) nD fl (fun H' s => sameT s hq) (fun i x H1 H2 _ _ y => by rw [y.1]; exact Same.refl _) _ st (fun H' s hD => hd D H' nD s (by rw [← tl]; exact hD))⟩
theorem asg_lc {wi : TI} {g : TG} {tt : TT} {te : TE} {vs : List Nat} {i : Nat} {b : TS} {D : Ends} {σ : L2.St} {H : Hp} (h : tLc wi g tt te vs σ H (fun v H1 => b D (σ.set i (some v)) H1)) : tSeq (tAsg (tLc wi g tt te vs) (gName i)) b D σ H := h
theorem fm_filter {α : Type} (p : α → Bool) (emb : α → V) (zs : List α) : zs.filterMap (fun z => if p z = true then some (emb z) else none) = (zs.filter p).map emb := by
  induction zs with
  | nil => rfl
  | cons z r ih =>
    by_cases e : p z = true
    · rw [List.filterMap_cons, if_pos e, List.filter_cons_of_pos e, List.map_cons, ih]
    · rw [List.filterMap_cons, if_neg e, List.filter_cons_of_neg e, ih]
theorem fm_all {α : Type} (f : α → V) (zs : List α) : zs.filterMap (fun z => some (f z)) = zs.map f := by
  induction zs with
  | nil => rfl
  | cons z r ih => rw [List.filterMap_cons, List.map_cons, ih]
section
variable {X : Cx}
/-- tuple(x), x a heap told as a list or as a tuple -/
def rTupQ (K : PySem.W.Frag) : List V → Hp → VK → Prop := fun us H Q => ∃ (h : Addr) (zs : List Str), us = [.ref h] ∧ Hq K H h zs ∧ ∀ (H' : Hp) (t : Addr), Same H H' → Tp H' t (zs.map V.str) → Q (.ref t) H'
theorem call_tupQ : CallR X (.type "tuple") (rTupQ X.K) := by
  intro pins s σ H xs us Q I rel hyp
  obtain ⟨h, zs, rfl, hq, q⟩ := hyp
  rcases hq with hq | hq
  · exact call_tupleF pins s σ H _ us Q I rel ⟨h, _, rfl, hq, fun l ob nl e1 e2 => q _ l (same_upd nl) ⟨ob, upd_same, e1, e2⟩⟩
  · exact call_tupleT pins s σ H _ us Q I rel ⟨h, _, rfl, hq.sq, q _ h (Same.refl _) hq⟩
end
theorem Hq.sq {K : PySem.W.Frag} {H : Hp} {a : Addr} {zs : List Str} (h : Hq K H a zs) : Sq K H a (zs.map V.str) := h.imp id fun z => z.sq
theorem drop_at {α : Type} {x : α} : ∀ {l : List α} {i : Nat}, l[i]? = some x → l.drop i = x :: l.drop (i + 1)
  | y :: r, 0, h => by
    cases (show some y = some x from h)
    rfl
  | y :: r, i + 1, h => drop_at (l := r) (i := i) h
/-! ### rows of anything -/
def outD (qs : List (Str × Str)) : List Str → List PyData → PyData
  | zs, [] => .tuple (zs.map PyData.str)
  | zs, d :: r => match d with
    | .str b => if b ∈ zs then (if lets qs zs b = true then outD qs (onTop b zs) r else .list [.str "may not", .str b]) else .list [.str "none", .str b]
    | _ => .list [.str "none", d]
theorem outD_go {qs : List (Str × Str)} {zs : List Str} {b : Str} {r : List PyData} (h : b ∈ zs) (hl : lets qs zs b = true) : outD qs zs (.str b :: r) = outD qs (onTop b zs) r := by
  show (if b ∈ zs then (if lets qs zs b = true then outD qs (onTop b zs) r else .list [.str "may not", .str b]) else .list [.str "none", .str b]) = _
  rw [if_pos h, if_pos hl]
theorem outD_not {qs : List (Str × Str)} {zs : List Str} {b : Str} {r : List PyData} (h : b ∈ zs) (hl : ¬ lets qs zs b = true) : outD qs zs (.str b :: r) = .list [.str "may not", .str b] := by
  show (if b ∈ zs then (if lets qs zs b = true then outD qs (onTop b zs) r else .list [.str "may not", .str b]) else .list [.str "none", .str b]) = _
  rw [if_pos h, if_neg hl]
theorem outD_none {qs : List (Str × Str)} {zs : List Str} {d : PyData} {r : List PyData} (h : ∀ b, d = .str b → b ∉ zs) : outD qs zs (d :: r) = .list [.str "none", d] := by
  cases d with
  | str b =>
    show (if b ∈ zs then (if lets qs zs b = true then outD qs (onTop b zs) r else .list [.str "may not", .str b]) else .list [.str "none", .str b]) = _
    rw [if_neg (h b rfl)]
  | _ => rfl
theorem outD_lay {qs : List (Str × Str)} : ∀ {ds : List PyData} {zs : List Str}, (∀ z ∈ zs, Nm z) → zs.Nodup → (∀ d ∈ ds, d.canLay0 = true ∧ d.depth ≤ 1 ∧ wide d ≤ 100) → zs.length ≤ 100 → (outD qs zs ds).canLay0 = true ∧ (outD qs zs ds).depth ≤ 2 ∧ wide (outD qs zs ds) ≤ 100
  | [], zs, hn, _, _, hl => by
    refine ⟨canLay_strs hn, ?_, ?_⟩
    · show PyData.depthAll (zs.map PyData.str) + 1 ≤ 2
      rw [depth_strs]
      decide
    · show max (zs.map PyData.str).length (wideAll (zs.map PyData.str)) ≤ 100
      rw [wide_strs, List.length_map]
      omega
  | d :: r, zs, hn, hnd, hd, hl => by
    have two : ∀ {s : Str} {e : PyData}, (PyData.str s).canLay0 = true → e.canLay0 = true → e.depth ≤ 1 → wide e ≤ 100 → (PyData.list [.str s, e]).canLay0 = true ∧ (PyData.list [.str s, e]).depth ≤ 2 ∧ wide (PyData.list [.str s, e]) ≤ 100 := fun {s e} h0 h1 h2 h3 => by
      refine ⟨?_, ?_, ?_⟩
      · show ((PyData.str s).canLay0 && (e.canLay0 && true)) = true
        rw [h0, h1]
        rfl
      · show max 0 (max e.depth 0) + 1 ≤ 2
        omega
      · show max 2 (max 0 (max (wide e) 0)) ≤ 100
        omega
    obtain ⟨g1, g2, g3⟩ := hd d List.mem_cons_self
    by_cases hs : ∃ b, d = .str b ∧ b ∈ zs
    · obtain ⟨b, rfl, hb⟩ := hs
      by_cases e : lets qs zs b = true
      · rw [outD_go hb e]
        have pm := onTop_perm hnd hb
        exact outD_lay (fun z hz => hn z (pm.mem_iff.mp hz)) (pm.nodup_iff.mpr hnd) (fun x hx => hd x (List.mem_cons_of_mem _ hx)) (by rw [pm.length_eq]; exact hl)
      · rw [outD_not hb e]
        exact two (by decide +kernel) g1 g2 g3
    · rw [outD_none fun b hb hm => hs ⟨b, hb, hm⟩]
      exact two (by decide +kernel) g1 g2 g3
theorem outD_strs {qs : List (Str × Str)} : ∀ {row zs : List Str}, zs.Nodup → (∀ b ∈ row, b ∈ zs) → refAt qs zs row = none → outD qs zs (row.map PyData.str) = .tuple ((lefts zs row).map PyData.str)
  | [], zs, _, _, _ => rfl
  | b :: r, zs, hnd, hin, href => by
    obtain ⟨h1, h2⟩ := refAt_none href
    have hb := hin b List.mem_cons_self
    have pm := onTop_perm hnd hb
    rw [List.map_cons, outD_go hb h1]
    exact outD_strs (pm.nodup_iff.mpr hnd) (fun x hx => pm.mem_iff.mpr (hin x (List.mem_cons_of_mem _ hx))) h2
structure RowAt (K : PySem.W.Frag) (H : Hp) (a : Addr) (us : List V) (ds : List PyData) : Prop where
  sq : Sq K H a us
  dp : DpAll K H us ds
  shp : ∀ d ∈ ds, SeqAt.shaped d = true
theorem RowAt.same {K : PySem.W.Frag} {H H' : Hp} {a : Addr} {us : List V} {ds : List PyData} (h : RowAt K H a us ds) (sm : Same H H') : RowAt K H' a us ds := ⟨sameQ sm h.sq, DpAll.up sm h.dp, h.shp⟩
theorem shp_str {b : Str} (h : Nm b) : SeqAt.shaped (.str b) = true := by
  unfold SeqAt.shaped
  rw [show (PyData.str b).canLay0 = true from h.ok]
  rfl
theorem dp_str {K : PySem.W.Frag} {H : Hp} {v : V} {b : Str} (h : Dp K H v (.str b)) : v = .str b := by
  cases h
  rfl
variable (K : PySem.W.Frag)
def spDoneX (CN CM : Addr) : Sp := fun vs H Q E => ∃ (h r a : Addr) (zs : List Str) (us : List V) (ds : List PyData) (qs : List (Str × Str)), vs = [.ref h, .ref r, .ref a] ∧ Hq K H h zs ∧ PqA K H r qs ∧ RowAt K H a us ds ∧ zs.Nodup ∧ (∀ z ∈ zs, Nm z) ∧ zs.length ≤ 1000 ∧ qs.length ≤ 400 ∧
  (∀ ys : List Str, outD qs zs ds = .tuple (ys.map PyData.str) → ∀ (H' : Hp) (t : Addr), Same H H' → Tp H' t (ys.map V.str) → Q (.ref t) H') ∧
  (∀ (v : V) (d : PyData), outD qs zs ds = .list [.str "none", d] → Dp K H v d → ∀ (H' : Hp) (dd : Addr), Same H H' → H' dd = some (.xd [(("book" : Str), v)]) → E (.ref CN) (some dd) H') ∧
  (∀ b : Str, outD qs zs ds = .list [.str "may not", .str b] → ∀ (H' : Hp) (dd : Addr), Same H H' → H' dd = some (.xd [(("book" : Str), .str b)]) → E (.ref CM) (some dd) H')
def spOut : Sp := fun vs H Q _ => ∃ (h r a : Addr) (zs : List Str) (us : List V) (ds : List PyData) (qs : List (Str × Str)), vs = [.ref h, .ref r, .ref a] ∧ Hq K H h zs ∧ PqA K H r qs ∧ RowAt K H a us ds ∧ zs.Nodup ∧ (∀ z ∈ zs, Nm z) ∧ zs.length ≤ 1000 ∧ qs.length ≤ 400 ∧
  ∀ (H' : Hp) (y : V), Same H H' → Dp K H' y (outD qs zs ds) → Q y H'
def spDue : Sp := fun vs H Q _ => ∃ (h r a : Addr) (zs : List Str) (us : List V) (ds : List PyData) (qs : List (Str × Str)), vs = [.ref h, .ref r, .ref a] ∧ Tp H h (zs.map V.str) ∧ PqT K H r qs ∧ (∀ q ∈ qs, q.2 ∈ zs) ∧ RowAt K H a us ds ∧ zs.Nodup ∧ (∀ z ∈ zs, Nm z) ∧ zs.length ≤ 1000 ∧ qs.length ≤ 400 ∧
  ∀ (H' : Hp) (y : V), Same H H' → Dp K H' y (outD qs zs ds) → Q y H'
def spFrQ : Sp := fun vs H Q _ => ∃ (h r a : Addr) (zs row : List Str) (qs : List (Str × Str)), vs = [.ref h, .ref r, .ref a] ∧ Hq K H h zs ∧ PqA K H r qs ∧ Sq K H a (row.map V.str) ∧ zs.Nodup ∧ (∀ b ∈ row, b ∈ zs) ∧ zs.length ≤ 1000 ∧ qs.length ≤ 400 ∧
  ∀ H' : Hp, Same H H' → Q (optV (refAt qs zs row)) H'
def spLeftT : Sp := fun vs H Q _ => ∃ (h a : Addr) (zs row : List Str), vs = [.ref h, .ref a] ∧ Tp H h (zs.map V.str) ∧ SqL K H a (row.map V.str) ∧ zs.Nodup ∧ (∀ b ∈ row, b ∈ zs) ∧ zs.length ≤ 1000 ∧
  ∀ (H' : Hp) (t : Addr), Same H H' → Tp H' t ((lefts zs row).map V.str) → Q (.ref t) H'
def spRefL : Sp := fun vs H Q _ => ∃ (h r a : Addr) (zs row : List Str) (qs : List (Str × Str)), vs = [.ref h, .ref r, .ref a] ∧ Tp H h (zs.map V.str) ∧ PqT K H r qs ∧ (∀ q ∈ qs, q.2 ∈ zs) ∧ SqL K H a (row.map V.str) ∧ zs.Nodup ∧ (∀ b ∈ row, b ∈ zs) ∧ zs.length ≤ 1000 ∧ qs.length ≤ 400 ∧
  ∀ H' : Hp, Same H H' → Q (optV (refAt qs zs row)) H'
end HF
/-! data that can be laid, shown, compared: how deep, how wide, how heavy -/
namespace HF
open PySem PySem.Spec PyProof.Rows L2
structure Fine (m w W : Nat) (d : PyData) : Prop where
  lay : d.canLay0 = true
  shw : d.showable = true
  nod : d.hasDict = false
  isx : d.intsShort 13 = true
  dep : d.depth ≤ m
  wid : wide d ≤ w
  wgt : d.weight ≤ W
structure FineL (m w W : Nat) (ds : List PyData) : Prop where
  lay : PyData.canLayAll0 ds = true
  shw : PyData.showableAll ds = true
  nod : PyData.hasDictAll ds = false
  isx : PyData.intsShortAll 13 ds = true
  dep : PyData.depthAll ds ≤ m
  wid : wideAll ds ≤ w
  wgt : PyData.weightAll ds ≤ W
theorem Fine.mono {m w W m' w' W' : Nat} {d : PyData} (h : Fine m w W d) (h1 : m ≤ m') (h2 : w ≤ w') (h3 : W ≤ W') : Fine m' w' W' d := ⟨h.lay, h.shw, h.nod, h.isx, Nat.le_trans h.dep h1, Nat.le_trans h.wid h2, Nat.le_trans h.wgt h3⟩
theorem FineL.mono {m w W m' w' W' : Nat} {d : List PyData} (h : FineL m w W d) (h1 : m ≤ m') (h2 : w ≤ w') (h3 : W ≤ W') : FineL m' w' W' d := ⟨h.lay, h.shw, h.nod, h.isx, Nat.le_trans h.dep h1, Nat.le_trans h.wid h2, Nat.le_trans h.wgt h3⟩
theorem FineL.nil {m w W : Nat} : FineL m w W [] := ⟨rfl, rfl, rfl, rfl, Nat.zero_le _, Nat.zero_le _, Nat.zero_le _⟩
theorem FineL.cons {m w W W' : Nat} {d : PyData} {ds : List PyData} (h : Fine m w W d) (t : FineL m w W' ds) : FineL m w (W + 1 + W') (d :: ds) := by
  refine ⟨?_, ?_, ?_, ?_, ?_, ?_, ?_⟩
  · show (d.canLay0 && PyData.canLayAll0 ds) = true
    rw [h.lay, t.lay]
    rfl
  · show (d.showable && PyData.showableAll ds) = true
    rw [h.shw, t.shw]
    rfl
  · show (d.hasDict || PyData.hasDictAll ds) = false
    rw [h.nod, t.nod]
    rfl
  · show (d.intsShort 13 && PyData.intsShortAll 13 ds) = true
    rw [h.isx, t.isx]
    rfl
  · show max d.depth (PyData.depthAll ds) ≤ m
    have := h.dep
    have := t.dep
    omega
  · show max (wide d) (wideAll ds) ≤ w
    have := h.wid
    have := t.wid
    omega
  · show d.weight + 1 + PyData.weightAll ds ≤ W + 1 + W'
    have := h.wgt
    have := t.wgt
    omega
theorem FineL.app {m w W W' : Nat} {es : List PyData} : ∀ {ds : List PyData}, FineL m w W ds → FineL m w W' es → FineL m w (W + W') (ds ++ es)
  | [], h, t => t.mono (Nat.le_refl _) (Nat.le_refl _) (by omega)
  | d :: r, h, t => by
    have h1 : (d.canLay0 && PyData.canLayAll0 r) = true := h.lay
    have h2 : (d.showable && PyData.showableAll r) = true := h.shw
    have h3 : (d.hasDict || PyData.hasDictAll r) = false := h.nod
    have h4 : (d.intsShort 13 && PyData.intsShortAll 13 r) = true := h.isx
    have h5 : max d.depth (PyData.depthAll r) ≤ m := h.dep
    have h6 : max (wide d) (wideAll r) ≤ w := h.wid
    have h7 : d.weight + 1 + PyData.weightAll r ≤ W := h.wgt
    rw [Bool.and_eq_true] at h1 h2 h4
    rw [Bool.or_eq_false_iff] at h3
    have hd : Fine m w d.weight d := ⟨h1.1, h2.1, h3.1, h4.1, by omega, by omega, Nat.le_refl _⟩
    have hr : FineL m w (PyData.weightAll r) r := ⟨h1.2, h2.2, h3.2, h4.2, by omega, by omega, Nat.le_refl _⟩
    exact (FineL.cons hd (FineL.app hr t)).mono (Nat.le_refl _) (Nat.le_refl _) (by omega)
theorem Fine.list {m w W : Nat} {ds : List PyData} (h : FineL m w W ds) (hl : ds.length ≤ w) : Fine (m + 1) w W (.list ds) := ⟨h.lay, h.shw, h.nod, h.isx, Nat.succ_le_succ h.dep, Nat.max_le.mpr ⟨hl, h.wid⟩, h.wgt⟩
theorem Fine.tuple {m w W : Nat} {ds : List PyData} (h : FineL m w W ds) (hl : ds.length ≤ w) : Fine (m + 1) w W (.tuple ds) := ⟨h.lay, h.shw, h.nod, h.isx, Nat.succ_le_succ h.dep, Nat.max_le.mpr ⟨hl, h.wid⟩, h.wgt⟩
theorem fine_str {m w : Nat} {z : Str} (h : Nm z) : Fine m w 6 (.str z) := by
  refine ⟨h.ok, rfl, rfl, rfl, Nat.zero_le _, Nat.zero_le _, ?_⟩
  show z.cps.size ≤ 6
  rw [← Array.length_toList]
  exact h.2.1
theorem fine_none {m w : Nat} : Fine m w 0 .none := ⟨rfl, rfl, rfl, rfl, Nat.zero_le _, Nat.zero_le _, Nat.le_refl _⟩
theorem fine_bool {m w : Nat} {b : Bool} : Fine m w 0 (.bool b) := ⟨rfl, rfl, rfl, rfl, Nat.zero_le _, Nat.zero_le _, Nat.le_refl _⟩
theorem fine_strs {m w : Nat} : ∀ {xs : List Str}, (∀ z ∈ xs, Nm z) → FineL m w (7 * xs.length) (xs.map PyData.str)
  | [], _ => .nil
  | x :: r, h => ((FineL.cons (fine_str (h x List.mem_cons_self)) (fine_strs fun z hz => h z (List.mem_cons_of_mem _ hz)))).mono (Nat.le_refl _) (Nat.le_refl _) (by rw [List.length_cons]; omega)
theorem FineL.of {m w W : Nat} : ∀ {ds : List PyData}, (∀ d ∈ ds, Fine m w W d) → FineL m w ((W + 1) * ds.length) ds
  | [], _ => .nil
  | x :: r, h => (FineL.cons (h x List.mem_cons_self) (FineL.of fun z hz => h z (List.mem_cons_of_mem _ hz))).mono (Nat.le_refl _) (Nat.le_refl _) (by rw [List.length_cons, Nat.mul_succ]; omega)
theorem Fine.fits {m w W : Nat} {d : PyData} (h : Fine m w W d) (hW : W ≤ 2 ^ 20) : d.shown.length ≤ sizeLine := PyData.shown_fits (B := 13) (by decide) (by decide) (PyData.leavesShort_of_canLay0 13 _ h.lay h.isx) (Nat.le_trans h.wgt hW)
theorem Fine.shp {m w W : Nat} {d : PyData} (h : Fine m w W d) (hm : m ≤ 64) : SeqAt.shaped d = true := by
  unfold SeqAt.shaped
  rw [h.lay]
  exact decide_eq_true (Nat.le_trans h.dep hm)
theorem fine_ties {zs : List Str} {L : SL} (hn : ∀ z ∈ zs, Nm z) (hL : ∀ p ∈ L, OkP zs p) (hl : L.length ≤ 1000) : Fine 2 1000 (15 * L.length) (dTies L) := by
  refine ⟨lay_rows hn hL, show_rows L, nodict_rows L, ints_rows 13 L, ?_, ?_, weight_rows hn hL⟩
  · exact ties_depth L
  · show max (L.map dRow).length (wideAll (L.map dRow)) ≤ 1000
    have := wide_rows hL
    rw [List.length_map]
    omega
end HF
/-! things of any kind, apart from the box; things bent -/
namespace HF
open PySem PySem.Spec PyProof.Rows L2
def Sg (z : Str) : Prop := ∀ c ∈ z.cps.toList, 9 ≤ c ∧ c ≤ 126
theorem Sg.ok {z : Str} (h : Sg z) : PyData.strOk z = true := by
  unfold PyData.strOk
  rw [← Array.all_toList, List.all_eq_true]
  intro c hc
  have := h c hc
  exact decide_eq_true (by omega)
theorem Nm.sg {z : Str} (h : Nm z) : Sg z := fun c hc => by
  have := h.2.2 c hc
  omega
theorem Sg.app {a b : Str} (h : Sg a) (g : Sg b) : Sg (a ++ b) := fun c hc => by
  rw [app_tl] at hc
  exact (List.mem_append.mp hc).elim (h c) (g c)
mutual
/-- all texts within are of plain signs -/
def As : PyData → Prop
  | .str z => Sg z
  | .list xs => AsAll xs
  | .tuple xs => AsAll xs
  | .dict _ => False
  | _ => True
def AsAll : List PyData → Prop
  | [] => True
  | x :: r => As x ∧ AsAll r
end
theorem asAll_iff : ∀ {ds : List PyData}, AsAll ds ↔ ∀ d ∈ ds, As d
  | [] => ⟨fun _ d hd => (nomatch hd), fun _ => trivial⟩
  | x :: r => by
    show As x ∧ AsAll r ↔ _
    rw [asAll_iff]
    constructor
    · rintro ⟨h1, h2⟩ d hd
      rcases List.mem_cons.mp hd with rfl | hd
      · exact h1
      · exact h2 d hd
    · exact fun h => ⟨h x List.mem_cons_self, fun d hd => h d (List.mem_cons_of_mem _ hd)⟩
/-- what can be said of a thing: how deep, how wide -/
structure Gd (m w : Nat) (d : PyData) : Prop where
  lay : d.canLay0 = true
  shw : d.showable = true
  nod : d.hasDict = false
  isx : d.intsShort 13 = true
  dep : d.depth ≤ m
  wid : wide d ≤ w
  as : As d
theorem Gd.mono {m w m' w' : Nat} {d : PyData} (h : Gd m w d) (h1 : m ≤ m') (h2 : w ≤ w') : Gd m' w' d := ⟨h.lay, h.shw, h.nod, h.isx, Nat.le_trans h.dep h1, Nat.le_trans h.wid h2, h.as⟩
theorem Gd.fine {m w W : Nat} {d : PyData} (h : Gd m w d) (hW : d.weight ≤ W) : Fine m w W d := ⟨h.lay, h.shw, h.nod, h.isx, h.dep, h.wid, hW⟩
theorem gd_all {m w : Nat} : ∀ {ds : List PyData}, (∀ d ∈ ds, Gd m w d) → PyData.canLayAll0 ds = true ∧ PyData.showableAll ds = true ∧ PyData.hasDictAll ds = false ∧ PyData.intsShortAll 13 ds = true ∧ PyData.depthAll ds ≤ m ∧ wideAll ds ≤ w
  | [], _ => ⟨rfl, rfl, rfl, rfl, Nat.zero_le _, Nat.zero_le _⟩
  | x :: r, h => by
    obtain ⟨g1, g2, g3, g4, g5, g6⟩ := gd_all fun d hd => h d (List.mem_cons_of_mem _ hd)
    have hx := h x List.mem_cons_self
    refine ⟨?_, ?_, ?_, ?_, Nat.max_le.mpr ⟨hx.dep, g5⟩, Nat.max_le.mpr ⟨hx.wid, g6⟩⟩
    · show (x.canLay0 && PyData.canLayAll0 r) = true
      rw [hx.lay, g1]
      rfl
    · show (x.showable && PyData.showableAll r) = true
      rw [hx.shw, g2]
      rfl
    · show (x.hasDict || PyData.hasDictAll r) = false
      rw [hx.nod, g3]
      rfl
    · show (x.intsShort 13 && PyData.intsShortAll 13 r) = true
      rw [hx.isx, g4]
      rfl
theorem Gd.list {m w : Nat} {ds : List PyData} (h : ∀ d ∈ ds, Gd m w d) (hl : ds.length ≤ w) : Gd (m + 1) w (.list ds) := by
  obtain ⟨g1, g2, g3, g4, g5, g6⟩ := gd_all h
  exact ⟨g1, g2, g3, g4, Nat.succ_le_succ g5, Nat.max_le.mpr ⟨hl, g6⟩, asAll_iff.mpr fun d hd => (h d hd).as⟩
theorem Gd.tuple {m w : Nat} {ds : List PyData} (h : ∀ d ∈ ds, Gd m w d) (hl : ds.length ≤ w) : Gd (m + 1) w (.tuple ds) := by
  obtain ⟨g1, g2, g3, g4, g5, g6⟩ := gd_all h
  exact ⟨g1, g2, g3, g4, Nat.succ_le_succ g5, Nat.max_le.mpr ⟨hl, g6⟩, asAll_iff.mpr fun d hd => (h d hd).as⟩
theorem gd_of {m w : Nat} : ∀ {ds : List PyData}, PyData.canLayAll0 ds = true → PyData.showableAll ds = true → PyData.hasDictAll ds = false → PyData.intsShortAll 13 ds = true → PyData.depthAll ds ≤ m → wideAll ds ≤ w → AsAll ds → ∀ d ∈ ds, Gd m w d
  | x :: r, h1, h2, h3, h4, h5, h6, h7, d, hd => by
    have e1 : (x.canLay0 && PyData.canLayAll0 r) = true := h1
    have e2 : (x.showable && PyData.showableAll r) = true := h2
    have e3 : (x.hasDict || PyData.hasDictAll r) = false := h3
    have e4 : (x.intsShort 13 && PyData.intsShortAll 13 r) = true := h4
    have e5 := Nat.max_le.mp (show max x.depth (PyData.depthAll r) ≤ m from h5)
    have e6 := Nat.max_le.mp (show max (wide x) (wideAll r) ≤ w from h6)
    rw [Bool.and_eq_true] at e1 e2 e4
    rw [Bool.or_eq_false_iff] at e3
    rcases List.mem_cons.mp hd with rfl | hd
    · exact ⟨e1.1, e2.1, e3.1, e4.1, e5.1, e6.1, h7.1⟩
    · exact gd_of e1.2 e2.2 e3.2 e4.2 e5.2 e6.2 h7.2 d hd
theorem Gd.list_in {m w : Nat} {ds : List PyData} (h : Gd (m + 1) w (.list ds)) : (∀ d ∈ ds, Gd m w d) ∧ ds.length ≤ w :=
  ⟨gd_of h.lay h.shw h.nod h.isx (Nat.le_of_succ_le_succ h.dep) (Nat.max_le.mp h.wid).2 h.as, (Nat.max_le.mp h.wid).1⟩
theorem Gd.tuple_in {m w : Nat} {ds : List PyData} (h : Gd (m + 1) w (.tuple ds)) : (∀ d ∈ ds, Gd m w d) ∧ ds.length ≤ w :=
  ⟨gd_of h.lay h.shw h.nod h.isx (Nat.le_of_succ_le_succ h.dep) (Nat.max_le.mp h.wid).2 h.as, (Nat.max_le.mp h.wid).1⟩
theorem gd_str {m w : Nat} {z : Str} (h : Sg z) : Gd m w (.str z) := ⟨h.ok, rfl, rfl, rfl, Nat.zero_le _, Nat.zero_le _, h⟩
theorem gd_none {m w : Nat} : Gd m w .none := ⟨rfl, rfl, rfl, rfl, Nat.zero_le _, Nat.zero_le _, trivial⟩
theorem gd_bool {m w : Nat} {b : Bool} : Gd m w (.bool b) := ⟨rfl, rfl, rfl, rfl, Nat.zero_le _, Nat.zero_le _, trivial⟩
theorem gd_int {m w : Nat} {i : Int} (h1 : (PyData.int i).showable = true) (h2 : (PyData.int i).intsShort 13 = true) : Gd m w (.int i) := ⟨rfl, h1, rfl, h2, Nat.zero_le _, Nat.zero_le _, trivial⟩
/-- weights -/
theorem weightAll_sum : ∀ ds : List PyData, PyData.weightAll ds = (ds.map fun d => d.weight + 1).sum
  | [] => rfl
  | x :: r => by
    show x.weight + 1 + PyData.weightAll r = _
    rw [weightAll_sum r]
    rfl
theorem weight_perm {xs ys : List PyData} (h : xs.Perm ys) : PyData.weightAll xs = PyData.weightAll ys := by
  rw [weightAll_sum, weightAll_sum]
  exact (h.map _).sum_nat
theorem weight_app (xs ys : List PyData) : PyData.weightAll (xs ++ ys) = PyData.weightAll xs + PyData.weightAll ys := by
  rw [weightAll_sum, weightAll_sum, weightAll_sum, List.map_append, List.sum_append]
theorem weight_mem {ds : List PyData} {d : PyData} (h : d ∈ ds) : d.weight + 1 ≤ PyData.weightAll ds := by
  obtain ⟨a, b, rfl⟩ := List.append_of_mem h
  rw [weight_app]
  show _ ≤ _ + (d.weight + 1 + _)
  omega
theorem weight_strs2 {xs : List Str} {n : Nat} (h : ∀ z ∈ xs, z.cps.size ≤ n) : PyData.weightAll (xs.map PyData.str) ≤ (n + 1) * xs.length := by
  induction xs with
  | nil => exact Nat.le_refl _
  | cons x r ih =>
    show x.cps.size + 1 + _ ≤ _
    have h1 := h x List.mem_cons_self
    have h2 := ih fun z hz => h z (List.mem_cons_of_mem _ hz)
    rw [List.length_cons, Nat.mul_succ]
    omega
def TsA (H : Hp) (a : Addr) (xs : List V) : Prop := H a = some (.tup xs) ∨ Tp H a xs
theorem TsA.sq {K : PySem.W.Frag} {H : Hp} {a : Addr} {xs : List V} (h : TsA H a xs) : SqT K H a xs := h.elim (fun z => .inl (.inl z)) Tp.sq
/-- a thing at hand, none of whose lists is to be shunned -/
inductive Dq (A : Addr → Prop) (H : Hp) : V → PyData → Prop
  | non : Dq A H .non .none
  | bl (b : Bool) : Dq A H (.bl b) (.bool b)
  | int (i : Int) : Dq A H (.int i) (.int i)
  | str (x : Str) : Dq A H (.str x) (.str x)
  | lst {a : Addr} {zs : List (V × PyData)} : ¬ A a → H a = some (.lst (zs.map Prod.fst)) → (∀ z ∈ zs, Dq A H z.1 z.2) → Dq A H (.ref a) (.list (zs.map Prod.snd))
  | tup {a : Addr} {zs : List (V × PyData)} : ¬ A a → TsA H a (zs.map Prod.fst) → (∀ z ∈ zs, Dq A H z.1 z.2) → Dq A H (.ref a) (.tuple (zs.map Prod.snd))
theorem dpAll_of {K : PySem.W.Frag} {H : Hp} : ∀ {zs : List (V × PyData)}, (∀ z ∈ zs, Dp K H z.1 z.2) → DpAll K H (zs.map Prod.fst) (zs.map Prod.snd)
  | [], _ => .nil
  | x :: r, h => .cons (h x List.mem_cons_self) (dpAll_of fun z hz => h z (List.mem_cons_of_mem _ hz))
theorem Dq.dp {K : PySem.W.Frag} {A : Addr → Prop} {H : Hp} {v : V} {d : PyData} (h : Dq A H v d) : Dp K H v d := by
  induction h with
  | non => exact .non
  | bl b => exact .bl b
  | int i => exact .int i
  | str x => exact .str x
  | lst ne sq _ ih => exact .lst (.inl (.inl sq)) (dpAll_of ih)
  | tup ne sq _ ih => exact .tup sq.sq (dpAll_of ih)
/-- all but the shunned stays -/
def OthA (A : Addr → Prop) (H H' : Hp) : Prop := ∀ b u, H b = some u → ¬ A b → H' b = some u
theorem OthA.of {A : Addr → Prop} {H H' : Hp} (s : Same H H') : OthA A H H' := fun b u h _ => s b u h
theorem OthA.box {A : Addr → Prop} {p : Addr} {H H' : Hp} (o : Oth p H H') (hp : A p) : OthA A H H' := fun b u h n => o b u h fun e => n (e ▸ hp)
theorem OthA.trans {A : Addr → Prop} {H H1 H2 : Hp} (a : OthA A H H1) (b : OthA A H1 H2) : OthA A H H2 := fun c u h n => b c u (a c u h n) n
theorem TsA.oth {A : Addr → Prop} {H H' : Hp} {a : Addr} {xs : List V} (h : TsA H a xs) (o : OthA A H H') (n : ¬ A a) : TsA H' a xs := h.imp (fun z => o _ _ z n) fun ⟨ob, e, r⟩ => ⟨ob, o _ _ e n, r⟩
theorem Dq.oth {A : Addr → Prop} {H H' : Hp} {v : V} {d : PyData} (h : Dq A H v d) (o : OthA A H H') : Dq A H' v d := by
  induction h with
  | non => exact .non
  | bl b => exact .bl b
  | int i => exact .int i
  | str x => exact .str x
  | lst ne sq _ ih => exact .lst ne (o _ _ sq ne) ih
  | tup ne sq _ ih => exact .tup ne (sq.oth o ne) ih
theorem Dq.same {A : Addr → Prop} {H H' : Hp} {v : V} {d : PyData} (h : Dq A H v d) (s : Same H H') : Dq A H' v d := h.oth (OthA.of s)
theorem Dq.less {A B : Addr → Prop} {H : Hp} {v : V} {d : PyData} (h : Dq A H v d) (i : ∀ b, B b → A b) : Dq B H v d := by
  induction h with
  | non => exact .non
  | bl b => exact .bl b
  | int i => exact .int i
  | str x => exact .str x
  | lst ne sq _ ih => exact .lst (fun z => ne (i _ z)) sq ih
  | tup ne sq _ ih => exact .tup (fun z => ne (i _ z)) sq ih
theorem Dq.more {A : Addr → Prop} {S : Addr} {H : Hp} {v : V} {d : PyData} (h : Dq A H v d) (n : H S = none) : Dq (fun b => A b ∨ b = S) H v d := by
  induction h with
  | non => exact .non
  | bl b => exact .bl b
  | int i => exact .int i
  | str x => exact .str x
  | lst ne sq _ ih => exact .lst (fun z => z.elim ne fun e => by rw [e, n] at sq; exact nomatch sq) sq ih
  | tup ne sq _ ih =>
    refine .tup (fun z => z.elim ne fun e => ?_) sq ih
    rcases sq with sq | ⟨ob, sq, _⟩
    · rw [e, n] at sq
      exact nomatch sq
    · rw [e, n] at sq
      exact nomatch sq
theorem bx_ne {H : Hp} {p l : Addr} {c : Int} (h : Bx H p c) (n : H l = none) : l ≠ p := (h.new n).symm
/-- a tuple that is asked by methods -/
def Tq (H : Hp) (v : V) (d : PyData) : Prop := ∀ a ds, v = .ref a → d = .tuple ds → ∃ xs, Tp H a xs
theorem Tq.oth {A : Addr → Prop} {H H' : Hp} {v : V} {d : PyData} (h : Tq H v d) (q : Dq A H v d) (o : OthA A H H') : Tq H' v d := by
  intro a ds e1 e2
  obtain ⟨xs, ob, g1, g2⟩ := h a ds e1 e2
  cases q with
  | tup ne sq hz =>
    cases e1
    exact ⟨xs, ob, o _ _ g1 ne, g2⟩
  | non => cases e1
  | bl b => cases e1
  | int i => cases e1
  | str x => cases e1
  | lst ne sq hz => cases e2
theorem Tq.same {A : Addr → Prop} {H H' : Hp} {v : V} {d : PyData} (h : Tq H v d) (q : Dq A H v d) (s : Same H H') : Tq H' v d := h.oth q (OthA.of s)
theorem Dq.tp {A : Addr → Prop} {H : Hp} {v : V} {ds : List PyData} (q : Dq A H v (.tuple ds)) (h : Tq H v (.tuple ds)) : ∃ a us, v = .ref a ∧ Tp H a us ∧ ∃ zs : List (V × PyData), us = zs.map Prod.fst ∧ ds = zs.map Prod.snd ∧ ∀ z ∈ zs, Dq A H z.1 z.2 := by
  generalize hd : PyData.tuple ds = d at q
  cases q with
  | tup ne sq hz =>
    rename_i a zs
    obtain ⟨xs, ob, g1, g2⟩ := h a ds rfl rfl
    injection hd with hd
    rcases sq with sq | sq
    · rw [sq] at g1
      exact nomatch g1
    · exact ⟨a, _, rfl, sq, zs, rfl, hd, hz⟩
  | non => cases hd
  | bl b => cases hd
  | int i => cases hd
  | str x => cases hd
  | lst ne sq hz => cases hd
def zS (xs : List Str) : List (V × PyData) := xs.map fun x => (.str x, .str x)
theorem zS_fst (xs : List Str) : (zS xs).map Prod.fst = xs.map V.str := by
  unfold zS
  rw [List.map_map]
  rfl
theorem zS_snd (xs : List Str) : (zS xs).map Prod.snd = xs.map PyData.str := by
  unfold zS
  rw [List.map_map]
  rfl
theorem zS_dq {A : Addr → Prop} {H : Hp} {xs : List Str} : ∀ z ∈ zS xs, Dq A H z.1 z.2 := fun z hz => by
  obtain ⟨x, _, rfl⟩ := List.mem_map.mp hz
  exact .str x
theorem Dq.tupS {A : Addr → Prop} {a : Addr} {H : Hp} {xs : List Str} (ne : ¬ A a) (h : TsA H a (xs.map V.str)) : Dq A H (.ref a) (.tuple (xs.map PyData.str)) := by
  rw [← zS_snd]
  exact .tup ne (by rw [zS_fst]; exact h) zS_dq
theorem Dq.lstS {A : Addr → Prop} {a : Addr} {H : Hp} {xs : List Str} (ne : ¬ A a) (h : H a = some (.lst (xs.map V.str))) : Dq A H (.ref a) (.list (xs.map PyData.str)) := by
  rw [← zS_snd]
  exact .lst ne (by rw [zS_fst]; exact h) zS_dq
def spOdd : Sp := fun vs H Q _ => ∃ (A : Addr → Prop) (p : Addr) (x : V) (d : PyData) (c : Int) (W : Nat), vs = [.ref p, x] ∧ Bx H p c ∧ c < 2 ^ 38 ∧ A p ∧ (∀ b, A b → H b ≠ none) ∧ Dq A H x d ∧ (∀ z, d = .str z → Sg z ∧ z.cps.size ≤ W ∧ W ≤ 100000) ∧
  ∀ (H' : Hp) (v : V) (d' : PyData) (c' : Int), Oth p H H' → Dq A H' v d' → Tq H' v d' → Gd 1 2 d' → d'.weight ≤ W + 60 → Bx H' p c' → c ≤ c' → c' ≤ c + 1 → Q v H'
def spBent (n : Nat) : Sp := fun vs H Q _ => ∃ (A : Addr → Prop) (p : Addr) (x : V) (d : PyData) (c : Int) (w W : Nat), vs = [.ref p, x] ∧ Bx H p c ∧ c + 4 * (n + 1) < 2 ^ 38 ∧ A p ∧ (∀ b, A b → H b ≠ none) ∧ Dq A H x d ∧ Gd n w d ∧ d.weight ≤ W ∧ 2 ≤ w ∧ w ≤ 900 ∧ W ≤ 100000 ∧
  ∀ (H' : Hp) (v : V) (d' : PyData) (c' : Int), Oth p H H' → Dq A H' v d' → Tq H' v d' → Gd (n + 1) (w + 1) d' → d'.weight ≤ 2 * W + 60 → Bx H' p c' → c ≤ c' → c' ≤ c + 4 * (n + 1) → Q v H'
end HF
namespace HF
open PySem PySem.Spec PyProof.Rows L2
def upA (c : Nat) : Nat := if 97 ≤ c ∧ c ≤ 122 then c - 32 else c
theorem up_tab : (List.range 127).all (fun c => Unicode.upperOf c == [upA c]) = true := by decide +kernel
theorem up_one {c : Nat} (h : c ≤ 126) : Unicode.upperOf c = [upA c] := by
  have := List.all_eq_true.mp up_tab c (List.mem_range.mpr (by omega))
  exact beq_iff_eq.mp this
theorem up_flat {l : List Nat} (h : ∀ c ∈ l, c ≤ 126) : l.flatMap Unicode.upperOf = l.map upA := by
  induction l with
  | nil => rfl
  | cons c r ih =>
    rw [List.flatMap_cons, up_one (h c List.mem_cons_self), ih fun x hx => h x (List.mem_cons_of_mem _ hx)]
    rfl
theorem mapIdx_flat (l : List Nat) (f : Nat → List Nat) : ∀ n : Nat, ((l.mapIdx fun i c => (f c).toArray).map Array.toList).flatten = l.flatMap f := by
  intro n
  have e : (l.mapIdx fun i c => (f c).toArray) = l.map fun c => (f c).toArray := by
    refine List.ext_getElem? fun i => ?_
    rw [List.getElem?_mapIdx, List.getElem?_map]
  rw [e, List.map_map, List.flatMap_def]
  congr 1
theorem upper_tl {z : Str} (h : Sg z) : (Txt.upper z).cps.toList = z.cps.toList.map upA := by
  unfold Txt.upper placed
  rw [Array.toList_flatten, Array.toList_mapIdx, mapIdx_flat _ _ 0]
  exact up_flat fun c hc => (h c hc).2
theorem upper_sg {z : Str} (h : Sg z) : Sg (Txt.upper z) ∧ (Txt.upper z).cps.size = z.cps.size := by
  have e := upper_tl h
  constructor
  · intro c hc
    rw [e] at hc
    obtain ⟨b, hb, rfl⟩ := List.mem_map.mp hc
    have := h b hb
    unfold upA
    split <;> omega
  · rw [← Array.length_toList, e, List.length_map, Array.length_toList]
end HF
namespace HF
open PySem PySem.Spec PyProof.Rows L2
def kd : PyData → String
  | .none => "NoneType"
  | .bool _ => "bool"
  | .int _ => "int"
  | .str _ => "str"
  | .list _ => "list"
  | .tuple _ => "tuple"
  | .dict _ => "dict"
def isStr : PyData → Bool
  | .str _ => true
  | _ => false
def isLst : PyData → Bool
  | .list _ => true
  | _ => false
def isTup : PyData → Bool
  | .tuple _ => true
  | _ => false
theorem dp_ty {K : PySem.W.Frag} {H : Hp} {x : V} {d : PyData} (h : Dp K H x d) : TyX K H x (.type (kd d)) := by
  cases h with
  | non => exact .base .non
  | bl b => exact .base (.bl _)
  | int i => exact .base (.int _)
  | str z => exact .base (.str _)
  | lst hq _ => exact ty_list hq
  | tup hq _ => exact ty_tup hq
theorem kb_str : ∀ d : PyData, kitB (kd d) "str" = some (isStr d)
  | .none => (by decide +kernel : kitB "NoneType" "str" = some false)
  | .bool _ => (by decide +kernel : kitB "bool" "str" = some false)
  | .int _ => (by decide +kernel : kitB "int" "str" = some false)
  | .str _ => (by decide +kernel : kitB "str" "str" = some true)
  | .list _ => (by decide +kernel : kitB "list" "str" = some false)
  | .tuple _ => (by decide +kernel : kitB "tuple" "str" = some false)
  | .dict _ => (by decide +kernel : kitB "dict" "str" = some false)
theorem kb_lst : ∀ d : PyData, kitB (kd d) "list" = some (isLst d)
  | .none => (by decide +kernel : kitB "NoneType" "list" = some false)
  | .bool _ => (by decide +kernel : kitB "bool" "list" = some false)
  | .int _ => (by decide +kernel : kitB "int" "list" = some false)
  | .str _ => (by decide +kernel : kitB "str" "list" = some false)
  | .list _ => (by decide +kernel : kitB "list" "list" = some true)
  | .tuple _ => (by decide +kernel : kitB "tuple" "list" = some false)
  | .dict _ => (by decide +kernel : kitB "dict" "list" = some false)
theorem kb_tup : ∀ d : PyData, kitB (kd d) "tuple" = some (isTup d)
  | .none => (by decide +kernel : kitB "NoneType" "tuple" = some false)
  | .bool _ => (by decide +kernel : kitB "bool" "tuple" = some false)
  | .int _ => (by decide +kernel : kitB "int" "tuple" = some false)
  | .str _ => (by decide +kernel : kitB "str" "tuple" = some false)
  | .list _ => (by decide +kernel : kitB "list" "tuple" = some false)
  | .tuple _ => (by decide +kernel : kitB "tuple" "tuple" = some true)
  | .dict _ => (by decide +kernel : kitB "dict" "tuple" = some false)
theorem kb_seq {K : PySem.W.Frag} (d : PyData) : PySem.W.kitAny K (.type (kd d)) [.type "list", .type "tuple"] = some (isLst d || isTup d) := any2 (kb_lst d) (kb_tup d)
theorem sgB {z : Str} (h : (z.cps.toList.all fun c => decide (9 ≤ c ∧ c ≤ 126)) = true) : Sg z := fun c hc => of_decide_eq_true (List.all_eq_true.mp h c hc)
theorem Dq.seq {A : Addr → Prop} {H : Hp} {x : V} {d : PyData} (h : Dq A H x d) (hd : (isLst d || isTup d) = true) : ∃ (a : Addr) (zs : List (V × PyData)), x = .ref a ∧ ¬ A a ∧ (H a = some (.lst (zs.map Prod.fst)) ∨ TsA H a (zs.map Prod.fst)) ∧ (∀ z ∈ zs, Dq A H z.1 z.2) ∧ ((d = .list (zs.map Prod.snd) ∧ isLst d = true) ∨ (d = .tuple (zs.map Prod.snd) ∧ isLst d = false)) := by
  cases h with
  | non => exact nomatch hd
  | bl b => exact nomatch hd
  | int i => exact nomatch hd
  | str z => exact nomatch hd
  | lst ne sq hz => exact ⟨_, _, rfl, ne, .inl sq, hz, .inl ⟨rfl, rfl⟩⟩
  | tup ne sq hz => exact ⟨_, _, rfl, ne, .inr sq, hz, .inr ⟨rfl, rfl⟩⟩
theorem sq_any {K : PySem.W.Frag} {H : Hp} {a : Addr} {xs : List V} (h : H a = some (.lst xs) ∨ TsA H a xs) : Sq K H a xs := h.imp (fun z => .inl (.inl z)) TsA.sq
theorem any_oth {A : Addr → Prop} {H H' : Hp} {a : Addr} {xs : List V} (h : H a = some (.lst xs) ∨ TsA H a xs) (o : OthA A H H') (n : ¬ A a) : H' a = some (.lst xs) ∨ TsA H' a xs := h.imp (fun z => o _ _ z n) fun z => z.oth o n
theorem Gd.parts {m w : Nat} {d : PyData} {ds : List PyData} {b : Bool} (h : Gd (m + 1) w d) (e : (d = .list ds ∧ b = true) ∨ (d = .tuple ds ∧ b = false)) : (∀ x ∈ ds, Gd m w x) ∧ ds.length ≤ w := by
  rcases e with ⟨rfl, _⟩ | ⟨rfl, _⟩
  · exact h.list_in
  · exact h.tuple_in
theorem weight_seq {d : PyData} {ds : List PyData} {b : Bool} (e : (d = .list ds ∧ b = true) ∨ (d = .tuple ds ∧ b = false)) : d.weight = PyData.weightAll ds := by
  rcases e with ⟨rfl, _⟩ | ⟨rfl, _⟩ <;> rfl
theorem ixN_nat {n j : Nat} (h : j < n) : ixN n (j : Int) = some j := by
  unfold ixN
  rw [if_pos (by omega), if_pos (by omega)]
  simp
def wS (zs : List (V × PyData)) : Nat := PyData.weightAll (zs.map Prod.snd)
theorem wS_app (a b : List (V × PyData)) : wS (a ++ b) = wS a + wS b := by
  unfold wS
  rw [List.map_append, weight_app]
theorem wS_cons (z : V × PyData) (r : List (V × PyData)) : wS (z :: r) = z.2.weight + 1 + wS r := rfl
theorem wS_perm {a b : List (V × PyData)} (h : a.Perm b) : wS a = wS b := weight_perm (h.map _)
theorem wS_split {zs : List (V × PyData)} {j : Nat} {z : V × PyData} (h : zs[j]? = some z) : zs = zs.take j ++ z :: zs.drop (j + 1) ∧ wS zs = wS (zs.take j) + (z.2.weight + 1) + wS (zs.drop (j + 1)) := by
  have e : zs = zs.take j ++ z :: zs.drop (j + 1) := by
    rw [← drop_at h, List.take_append_drop]
  refine ⟨e, ?_⟩
  have e2 : wS zs = wS (zs.take j ++ z :: zs.drop (j + 1)) := by rw [← e]
  rw [e2, wS_app, wS_cons]
  omega
theorem set_split {zs : List (V × PyData)} {j : Nat} {z y : V × PyData} (h : zs[j]? = some z) : zs.set j y = zs.take j ++ y :: zs.drop (j + 1) := by
  have hj := (List.getElem?_eq_some_iff.mp h).1
  rw [List.set_eq_take_append_cons_drop, if_pos hj]
theorem alloc_oth {A : Addr → Prop} {p : Addr} {H H' : Hp} {c : Int} (hA : ∀ b, A b → H b ≠ none) (o : Oth p H H') (hb : Bx H' p c) : ∀ b, A b → H' b ≠ none := fun b hb2 e => by
  by_cases hp : b = p
  · obtain ⟨x, y, e2, _⟩ := hb
    rw [hp, e2] at e
    exact nomatch e
  · cases h : H b with
    | none => exact hA b hb2 h
    | some u =>
      rw [o b u h hp] at e
      exact nomatch e
theorem map_erase {α β : Type} (f : α → β) (l : List α) (k : Nat) : (l.map f).eraseIdx k = (l.eraseIdx k).map f := by
  rw [List.eraseIdx_eq_take_drop_succ, List.eraseIdx_eq_take_drop_succ, List.map_append, List.map_take, List.map_drop]
theorem cut_two {xs : List V} {j : Nat} (h : j < xs.length) : cutV xs (some (j : Int)) (some ((j : Int) + 2)) = (xs.drop j).take 2 := by
  unfold cutV
  have e1 : HT.sIx xs.length 0 (some (j : Int)) = j := by
    rw [HT.sIx_nat]
    omega
  have e2 : HT.sIx xs.length xs.length (some ((j : Int) + 2)) = min (j + 2) xs.length := by
    rw [show ((j : Int) + 2) = ((j + 2 : Nat) : Int) by omega, HT.sIx_nat]
  rw [e1, e2]
  by_cases h2 : j + 2 ≤ xs.length
  · rw [Nat.min_eq_left h2]
    congr 1
    omega
  · rw [Nat.min_eq_right (by omega), List.take_of_length_le (by rw [List.length_drop]; omega), List.take_of_length_le (by rw [List.length_drop]; omega)]
/-- a thing made of these -/
structure Mk (A : Addr → Prop) (H : Hp) (n w W : Nat) (zs : List (V × PyData)) : Prop where
  dq : ∀ z ∈ zs, Dq A H z.1 z.2
  gd : ∀ z ∈ zs, Gd n w z.2
  len : zs.length ≤ w
  wgt : wS zs ≤ W
theorem Mk.gdl {A : Addr → Prop} {H : Hp} {n w W : Nat} {zs : List (V × PyData)} (h : Mk A H n w W zs) : Gd (n + 1) w (.list (zs.map Prod.snd)) := Gd.list (fun d hd => by obtain ⟨z, hz, rfl⟩ := List.mem_map.mp hd; exact h.gd z hz) (by rw [List.length_map]; exact h.len)
theorem Mk.gdt {A : Addr → Prop} {H : Hp} {n w W : Nat} {zs : List (V × PyData)} (h : Mk A H n w W zs) : Gd (n + 1) w (.tuple (zs.map Prod.snd)) := Gd.tuple (fun d hd => by obtain ⟨z, hz, rfl⟩ := List.mem_map.mp hd; exact h.gd z hz) (by rw [List.length_map]; exact h.len)
theorem Mk.perm {A : Addr → Prop} {H : Hp} {n w W : Nat} {zs ys : List (V × PyData)} (h : Mk A H n w W zs) (pm : ys.Perm zs) : Mk A H n w W ys := ⟨fun z hz => h.dq z (pm.mem_iff.mp hz), fun z hz => h.gd z (pm.mem_iff.mp hz), by rw [pm.length_eq]; exact h.len, by rw [wS_perm pm]; exact h.wgt⟩
theorem Mk.oth {A : Addr → Prop} {H H' : Hp} {n w W : Nat} {zs : List (V × PyData)} (h : Mk A H n w W zs) (o : OthA A H H') : Mk A H' n w W zs := ⟨fun z hz => (h.dq z hz).oth o, h.gd, h.len, h.wgt⟩
theorem Mk.mono {A : Addr → Prop} {H : Hp} {n w W n' w' W' : Nat} {zs : List (V × PyData)} (h : Mk A H n w W zs) (h1 : n ≤ n') (h2 : w ≤ w') (h3 : W ≤ W') : Mk A H n' w' W' zs := ⟨h.dq, fun z hz => (h.gd z hz).mono h1 h2, Nat.le_trans h.len h2, Nat.le_trans h.wgt h3⟩
theorem Mk.less {A B : Addr → Prop} {H : Hp} {n w W : Nat} {zs : List (V × PyData)} (h : Mk A H n w W zs) (i : ∀ b, B b → A b) : Mk B H n w W zs := ⟨fun z hz => (h.dq z hz).less i, h.gd, h.len, h.wgt⟩
theorem Mk.set {A : Addr → Prop} {H : Hp} {n w W : Nat} {zs : List (V × PyData)} (h : Mk A H n w W zs) {j : Nat} {z y : V × PyData} (hj : zs[j]? = some z) (hq : Dq A H y.1 y.2) (hg : Gd (n + 1) (w + 1) y.2) (hy : y.2.weight ≤ 2 * z.2.weight + 60) : Mk A H (n + 1) (w + 1) (2 * W + 60) (zs.set j y) := by
  obtain ⟨e, ew⟩ := wS_split hj
  have e2 := set_split (y := y) hj
  have hw := h.wgt
  refine ⟨fun x hx => ?_, fun x hx => ?_, by rw [List.length_set]; have := h.len; omega, ?_⟩
  · rcases List.mem_or_eq_of_mem_set hx with hx | rfl
    · exact h.dq x hx
    · exact hq
  · rcases List.mem_or_eq_of_mem_set hx with hx | rfl
    · exact (h.gd x hx).mono (by omega) (by omega)
    · exact hg
  · rw [e2, wS_app, wS_cons]
    omega
theorem Mk.erase {A : Addr → Prop} {H : Hp} {n w W : Nat} {zs : List (V × PyData)} (h : Mk A H n w W zs) {j : Nat} {z : V × PyData} (hj : zs[j]? = some z) : Mk A H n w W (zs.eraseIdx j) := by
  obtain ⟨e, ew⟩ := wS_split hj
  have hw := h.wgt
  have sub : ∀ x ∈ zs.eraseIdx j, x ∈ zs := fun x hx => List.mem_of_mem_eraseIdx hx
  refine ⟨fun x hx => h.dq x (sub x hx), fun x hx => h.gd x (sub x hx), Nat.le_trans (List.length_eraseIdx_le ..) h.len, ?_⟩
  rw [List.eraseIdx_eq_take_drop_succ, wS_app]
  omega
theorem Mk.insert {A : Addr → Prop} {H : Hp} {n w W : Nat} {zs : List (V × PyData)} (h : Mk A H n w W zs) {j : Nat} {z : V × PyData} (hj : zs[j]? = some z) : Mk A H n (w + 1) (2 * W + 60) (zs.take j ++ [z] ++ zs.drop j) := by
  have pm : (zs.take j ++ [z] ++ zs.drop j).Perm (z :: zs) := (ins_perm zs z j).trans (List.perm_append_singleton z zs)
  have hm := List.mem_of_getElem? hj
  obtain ⟨e, ew⟩ := wS_split hj
  have hw := h.wgt
  refine ⟨fun x hx => ?_, fun x hx => ?_, by rw [pm.length_eq, List.length_cons]; have := h.len; omega, ?_⟩
  · rcases List.mem_cons.mp (pm.mem_iff.mp hx) with rfl | hx
    · exact h.dq _ hm
    · exact h.dq x hx
  · rcases List.mem_cons.mp (pm.mem_iff.mp hx) with rfl | hx
    · exact (h.gd _ hm).mono (Nat.le_refl _) (by omega)
    · exact (h.gd x hx).mono (Nat.le_refl _) (by omega)
  · rw [wS_perm pm, wS_cons]
    omega
theorem swap_perm (zs : List (V × PyData)) (j : Nat) : (zs.take j ++ ((zs.drop j).take 2).reverse ++ zs.drop (j + 2)).Perm zs := by
  have e : zs = zs.take j ++ (zs.drop j).take 2 ++ zs.drop (j + 2) := by
    rw [List.append_assoc, show zs.drop (j + 2) = (zs.drop j).drop 2 from by rw [List.drop_drop], List.take_append_drop, List.take_append_drop]
  refine List.Perm.trans ?_ (List.Perm.of_eq e.symm)
  exact ((List.reverse_perm _).append_left _).append_right _
end HF
namespace HF
open PySem PySem.Spec PyProof.Rows L2
section
variable {X : Cx}
/-- repr of anything -/
def rRepX (K : PySem.W.Frag) : List V → Hp → VK → Prop := fun us H Q => ∃ (x : V) (d : PyData), us = [x] ∧ Dp K H x d ∧ d.showable = true ∧ d.hasDict = false ∧ d.depth < 60 ∧ d.shown.length ≤ sizeLine ∧ Q (.str d.shown) H
theorem call_reprX (hg : X.A.guards = some []) (hu : X.A.units + 64 < cLine) : CallR X (.builtin "repr") (rRepX X.K) := by
  intro pins st σ H xs ws Q I rel hyp
  obtain ⟨x, d, rfl, hd, hs, hn, hdep, hz, q⟩ := hyp
  obtain ⟨wv, rfl, rw1⟩ := vals1 rel
  cases hd with
  | non =>
    cases rw1
    exact PySem.P.repr_of_none ⟨.str _, H, I.tok _, ⟨_, rfl⟩, q⟩
  | bl b =>
    cases rw1
    refine PySem.P.repr_of_bool ⟨.str _, H, I.tok _, ⟨_, rfl⟩, ?_⟩
    cases b <;> exact q
  | int i =>
    obtain ⟨t, rfl⟩ := rw1
    exact PySem.P.repr_of_int (of_decide_eq_true hs) ⟨.str _, H, I.tok _, ⟨_, rfl⟩, q⟩
  | str z =>
    obtain ⟨t, rfl⟩ := rw1
    exact PySem.P.repr_of_str ⟨.str _, H, I.tok _, ⟨_, rfl⟩, q⟩ hz
  | lst hq hds =>
    cases rw1
    obtain ⟨as, rd⟩ := Dp.reads I _ _ _ (.lst hq hds) rfl
    exact repr_of_reads' rd hs (fun z => by rw [hn] at z; cases z) hg (by omega) (fun _ _ e => e) (fun h1 u tk kp => ⟨.str _, H, I.kept (t' := tk) kp, ⟨u, rfl⟩, q⟩) hz
  | tup hq hds =>
    cases rw1
    obtain ⟨as, rd⟩ := Dp.reads I _ _ _ (.tup hq hds) rfl
    exact repr_of_reads' rd hs (fun z => by rw [hn] at z; cases z) hg (by omega) (fun _ _ e => e) (fun h1 u tk kp => ⟨.str _, H, I.kept (t' := tk) kp, ⟨u, rfl⟩, q⟩) hz
/-- x < y of alike things -/
def rLtD (K : PySem.W.Frag) : R2 := fun x y H Q => ∃ d e, Dp K H x d ∧ Dp K H y e ∧ PySem.W.alike d e = true ∧ d ≠ .none ∧ d.depth ≤ 60 ∧ Q (.bl (PySem.W.dataLt d e)) H
theorem op_ltD (hu : X.A.units + 64 < cLine) : OpR X (compareOp .Lt) (rLtD X.K) := by
  intro pins s σ H x y v u Q I rx ry hyp
  obtain ⟨d, e, hd, he, hal, hn, hdep, q⟩ := hyp
  obtain ⟨as, r1⟩ := Dp.reads I d x v hd rx
  obtain ⟨bs, r2⟩ := Dp.reads I e y u he ry
  exact PySem.W.lt_data r1 r2 hal hn (by have := Nat.min_le_left d.depth e.depth; omega) ⟨.bl _, H, I, rfl, q⟩
/-- x in a list or a tuple -/
def rInQ (K : PySem.W.Frag) (neg : Bool) : R2 := fun x y H Q => ∃ d ds, Dp K H x d ∧ (Dp K H y (.list ds) ∨ Dp K H y (.tuple ds)) ∧ SeqAt.shaped d = true ∧ PyData.canLayAll0 ds = true ∧ Q (.bl (if neg = true then !(ds.any fun z => PyData.eqv z d) else ds.any fun z => PyData.eqv z d)) H
theorem op_inQ (hu : X.A.units + 65 < cLine) : OpR X (compareOp .In) (rInQ X.K false) := by
  intro pins s σ H x y v u Q I rx ry hyp
  obtain ⟨d, ds, hd, he, sd, se, q⟩ := hyp
  obtain ⟨as, r1⟩ := Dp.reads I d x v hd rx
  have deep : d.depth ≤ 64 := of_decide_eq_true (Bool.and_eq_true_iff.mp sd).2
  have hm := Nat.min_le_right (PyData.depthAll ds) d.depth
  rcases he with he | he
  · obtain ⟨bs, r2⟩ := Dp.reads I (.list ds) y u he ry
    exact SeqAt.in_list_reads r2 r1 se (SeqAt.canLay_of_shaped sd) (by omega) ⟨.bl _, H, I, rfl, q⟩
  · obtain ⟨bs, r2⟩ := Dp.reads I (.tuple ds) y u he ry
    exact SeqAt.in_tuple_reads r2 r1 se (SeqAt.canLay_of_shaped sd) (by omega) ⟨.bl _, H, I, rfl, q⟩
theorem op_notInQ (hu : X.A.units + 65 < cLine) : OpR X (compareOp .NotIn) (rInQ X.K true) := by
  intro pins s σ H x y v u Q I rx ry hyp
  obtain ⟨d, ds, hd, he, sd, se, q⟩ := hyp
  obtain ⟨as, r1⟩ := Dp.reads I d x v hd rx
  have deep : d.depth ≤ 64 := of_decide_eq_true (Bool.and_eq_true_iff.mp sd).2
  have hm := Nat.min_le_right (PyData.depthAll ds) d.depth
  rcases he with he | he
  · obtain ⟨bs, r2⟩ := Dp.reads I (.list ds) y u he ry
    exact SeqAt.notIn_list_reads r2 r1 se (SeqAt.canLay_of_shaped sd) (by omega) ⟨.bl _, H, I, rfl, q⟩
  · obtain ⟨bs, r2⟩ := Dp.reads I (.tuple ds) y u he ry
    exact SeqAt.notIn_tuple_reads r2 r1 se (SeqAt.canLay_of_shaped sd) (by omega) ⟨.bl _, H, I, rfl, q⟩
/-- t.count(x), of texts -/
def rCntT (K : PySem.W.Frag) : V → List V → Hp → VK → Prop := fun x vs H Q => ∃ (a : Addr) (ls : List Str) (z : Str), x = .ref a ∧ vs = [.str z] ∧ SqT K H a (ls.map V.str) ∧ (∀ y ∈ ls, Nm y) ∧ Q (.int ((ls.count z : Nat) : Int)) H
theorem plain_strs : ∀ ls : List Str, PyData.plainAll (ls.map PyData.str) = true
  | [] => rfl
  | _ :: r => plain_strs r
theorem countP_strs (z : Str) (ls : List Str) : ((ls.map PyData.str).countP fun y => PyData.eqv y (.str z)) = ls.count z := by
  rw [List.countP_map]
  rfl
theorem mt_tcount (hu : X.A.units + 64 < cLine) : MtR X "tuple.count" (rCntT X.K) := by
  intro pins s σ H x vs v us Q I rx rvs hyp
  obtain ⟨a, ls, z, rfl, rfl, hq, hn, q⟩ := hyp
  cases rx
  obtain ⟨u, rfl, ru⟩ := vals1 rvs
  have hdp : Dp X.K H (.ref a) (.tuple (ls.map PyData.str)) := .tup hq (dp_strs ls)
  obtain ⟨as, r1⟩ := Dp.reads I _ _ _ hdp rfl
  obtain ⟨bs, r2⟩ := Dp.reads I (.str z) (.str z) u (.str z) ru
  cases r1 with
  | tuple h1 h2 h3 h4 =>
    refine SeqAt.count_tuple_data (xs := ls.map PyData.str) ⟨_, h1, h2, _, h3⟩ h4 r2 (plain_strs ls) rfl (by rw [depth_strs]; simp; omega) ⟨.int _, H, I.tok _, ⟨_, rfl⟩, ?_⟩
    rw [countP_strs]
    exact q
end
/-- a comprehension over the signs of a text, whose parts change nothing -/
theorem lc_text {k : Nat} {z : Str} {g : TG} {tt : TT} {te : TE} {vs : List Nat} {σ : L2.St} {H : Hp} {Q : VK} (f : Nat → Option V) (hv : σ[k]? = some (some (.str z))) (few : z.cps.size ≤ 100000)
    (hs : ∀ (c : Nat) (H2 : Hp), c ∈ z.cps.toList → Same H H2 → ∀ (T : V → Hp → Prop) (F : Hp → Prop), (∀ y H4, Same H2 H4 → f c = some y → T y H4) → (∀ H3, Same H2 H3 → f c = none → F H3) →
      g (.str ⟨#[c]⟩) (wipe σ vs) H2 fun σ2 H5 => wipe σ2 vs = wipe σ vs ∧ tt σ2 H5 fun b H3 => if b = true then te σ2 H3 T else F H3)
    (hd : ∀ D H', H D = none → Same H H' → H' D = some (.lst (z.cps.toList.filterMap f)) → Q (.ref D) H') :
    tLc (iStr (tVar k)) g tt te vs σ H Q := by
  have hlen : z.cps.size = z.cps.toList.length := (Array.length_toList ..).symm
  have ho : ∀ (i c : Nat), z.cps.toList[i]? = some c → (fun i : Nat => (z.cps.toList[i]?).bind f) i = f c := fun i c h => by
    show (z.cps.toList[i]?).bind f = f c
    rw [h]
    rfl
  refine ⟨.str z, hv, z, rfl, fun D nD => lc_w (walk_str (z := z)) nD few (fun _ _ => trivial) (fun i x H1 H2 _ _ y => by rw [y.1]; exact Same.refl _) (fun i => (z.cps.toList[i]?).bind f) ?_ (fun H' s hD => hd D H' nD s ?_)⟩
  · rintro i x H1 H2 hi s1 ⟨rfl, c, hc, rfl⟩ T F hT hF
    have hc2 : z.cps.toList[i]? = some c := by
      rw [Array.getElem?_toList]
      exact hc
    exact hs c _ (List.mem_of_getElem? hc2) s1 T F (fun y H4 s4 e => hT y H4 s4 ((ho i c hc2).trans e)) (fun H3 s3 e => hF H3 s3 ((ho i c hc2).trans e))
  · rw [← fm_map ho, ← hlen]
    exact hD
/-! ### names, heaps and ties, or not -/
def isNm (z : Str) : Bool := decide (1 ≤ z.length) && (decide (z.length ≤ 6) && z.cps.toList.all fun c => decide (97 ≤ c) && decide (c ≤ 122))
def isName : PyData → Bool
  | .str z => isNm z
  | _ => false
theorem isNm_iff {z : Str} : isNm z = true ↔ Nm z := by
  unfold isNm Nm Lt
  rw [Bool.and_eq_true, Bool.and_eq_true, decide_eq_true_iff, decide_eq_true_iff, List.all_eq_true, str_len]
  constructor
  · rintro ⟨h1, h2, h3⟩
    refine ⟨h1, h2, fun c hc => ?_⟩
    have := h3 c hc
    rw [Bool.and_eq_true, decide_eq_true_iff, decide_eq_true_iff] at this
    exact this
  · rintro ⟨h1, h2, h3⟩
    refine ⟨h1, h2, fun c hc => ?_⟩
    rw [Bool.and_eq_true, decide_eq_true_iff, decide_eq_true_iff]
    exact h3 c hc
theorem lt_one (a b : Nat) : (decide (([a] : List Nat) < [b])) = decide (a < b) := by
  rw [Bool.eq_iff_iff, decide_eq_true_iff, decide_eq_true_iff, List.cons_lt_cons_iff]
  simp
def strD : PyData → Str
  | .str z => z
  | _ => ""
theorem names_strs : ∀ {ds : List PyData}, ds.all isName = true → ds = (ds.map strD).map PyData.str ∧ ∀ z ∈ ds.map strD, Nm z
  | [], _ => ⟨rfl, fun z hz => nomatch hz⟩
  | d :: r, h => by
    rw [List.all_cons, Bool.and_eq_true] at h
    obtain ⟨e, hn⟩ := names_strs h.2
    cases d with
    | str z =>
      refine ⟨?_, fun y hy => ?_⟩
      · rw [List.map_cons, List.map_cons, ← e]
        rfl
      · rcases List.mem_cons.mp hy with rfl | hy
        · exact isNm_iff.mp h.1
        · exact hn y hy
    | _ => exact nomatch h.1
def isHeapB : PyData → Bool
  | .tuple ds => !ds.isEmpty && (ds.all isName && decide ((ds.map strD).Nodup))
  | _ => false
def isTieB (zs : List Str) : PyData → Bool
  | .tuple [a, b] => (inBk zs a && (inBk zs b && !PyData.eqv a b))
  | _ => false
where inBk (zs : List Str) (d : PyData) : Bool := (zs.map PyData.str).any fun z => PyData.eqv z d
def riseB (ds : List PyData) : Bool := (List.range (ds.length - 1)).all fun i => PySem.W.dataLt (ds.getD i .none) (ds.getD (i + 1) .none)
def isTiesB (zs : List Str) : PyData → Bool
  | .tuple ds => ds.all (isTieB zs) && riseB ds
  | _ => false
theorem inBk_str {zs : List Str} {d : PyData} (h : isTieB.inBk zs d = true) : ∃ b, d = .str b ∧ b ∈ zs := by
  unfold isTieB.inBk at h
  by_cases hs : ∃ b, d = .str b
  · obtain ⟨b, rfl⟩ := hs
    rw [eqv_strs] at h
    exact ⟨b, rfl, of_decide_eq_true h⟩
  · rw [eqv_other fun b e => hs ⟨b, e⟩] at h
    exact nomatch h
theorem tie_pair {zs : List Str} {d : PyData} (h : isTieB zs d = true) : ∃ a b, d = .tuple [.str a, .str b] ∧ a ∈ zs ∧ b ∈ zs := by
  unfold isTieB at h
  split at h
  · rename_i x y
    rw [Bool.and_eq_true, Bool.and_eq_true] at h
    obtain ⟨a, rfl, ha⟩ := inBk_str h.1
    obtain ⟨b, rfl, hb⟩ := inBk_str h.2.1
    exact ⟨a, b, rfl, ha, hb⟩
  · exact nomatch h
theorem ded_len {ls : List Str} : (dedG [] ls).length = ls.length ↔ ls.Nodup := by
  rw [dedG_nil]
  constructor
  · intro h
    induction ls with
    | nil => exact List.nodup_nil
    | cons x r ih =>
      have e : (ded (x :: r)).length = ((ded r).filter fun y => decide (y ≠ x)).length + 1 := rfl
      have h1 : (ded r).length ≤ r.length := by
        have := dedG_few r
        rwa [dedG_nil] at this
      have h2 := List.length_filter_le (fun y => decide (y ≠ x)) (ded r)
      rw [e, List.length_cons] at h
      have h3 : ((ded r).filter fun y => decide (y ≠ x)).length = (ded r).length := by omega
      have h4 := List.length_filter_eq_length_iff.mp h3
      refine List.nodup_cons.mpr ⟨fun hx => ?_, ih (by omega)⟩
      have := of_decide_eq_true (h4 x (ded_mem.mpr hx))
      exact this rfl
  · intro h
    rw [ded_nodup h]
theorem count_all {ls : List Str} : (ls.all fun x => decide (V.int ((ls.count x : Nat) : Int) = V.int 1)) = decide ls.Nodup := by
  rw [Bool.eq_iff_iff, List.all_eq_true, decide_eq_true_iff]
  constructor
  · intro h
    refine List.nodup_iff_count.mpr fun x => ?_
    by_cases hx : x ∈ ls
    · have h1 := of_decide_eq_true (h x hx)
      injection h1 with h1
      omega
    · rw [List.count_eq_zero_of_not_mem hx]
      omega
  · intro h x hx
    have h1 := List.nodup_iff_count.mp h x
    have h2 := List.count_pos_iff.mpr hx
    refine decide_eq_true ?_
    rw [show ls.count x = 1 by omega]
    rfl
variable (K : PySem.W.Frag)
def spName : Sp := fun vs H Q _ => ∃ (x : V) (d : PyData), vs = [x] ∧ Dp K H x d ∧ d.weight ≤ 100000 ∧ ∀ H' : Hp, Same H H' → Q (.bl (isName d)) H'
def spHeapB : Sp := fun vs H Q _ => ∃ (A : Addr → Prop) (x : V) (d : PyData), vs = [x] ∧ Dq A H x d ∧ Tq H x d ∧ Gd 6 1000 d ∧ d.weight ≤ 100000 ∧ ∀ H' : Hp, Same H H' → Q (.bl (isHeapB d)) H'
def spTieB : Sp := fun vs H Q _ => ∃ (h : Addr) (zs : List Str) (A : Addr → Prop) (x : V) (d : PyData), vs = [.ref h, x] ∧ Hq K H h zs ∧ (∀ z ∈ zs, Nm z) ∧ Dq A H x d ∧ Gd 6 1000 d ∧ ∀ H' : Hp, Same H H' → Q (.bl (isTieB zs d)) H'
def spTiesB : Sp := fun vs H Q _ => ∃ (h : Addr) (zs : List Str) (A : Addr → Prop) (x : V) (d : PyData), vs = [.ref h, x] ∧ Hq K H h zs ∧ (∀ z ∈ zs, Nm z) ∧ Dq A H x d ∧ Gd 6 1000 d ∧ ∀ H' : Hp, Same H H' → Q (.bl (isTiesB zs d)) H'
def spTiesL : Sp := fun vs H Q _ => ∃ (h : Addr) (zs : List Str) (A : Addr → Prop) (x : V) (d : PyData), vs = [.ref h, x] ∧ Tp H h (zs.map V.str) ∧ (∀ z ∈ zs, Nm z) ∧ Dq A H x d ∧ Gd 6 1000 d ∧ d.weight ≤ 100000 ∧ ∀ H' : Hp, Same H H' → Q (.bl (isTiesB zs d)) H'
end HF
namespace HF
open PySem PySem.Spec PyProof.Rows L2
theorem ret_all {K : PySem.W.Frag} {wi : TI} {g : TG} {tt : TT} {te : TE} {vs : List Nat} {D : Ends} {σ : L2.St} {H : Hp} (h : tLc wi g tt te vs σ H (fun v H1 => rAll K [v] H1 (fun u H2 => D.rt u H2))) : tRet (tCB (rAll K) (tCons (tLc wi g tt te vs) tNil)) D σ H := h
theorem if_all {K : PySem.W.Frag} {wi : TI} {g : TG} {tt : TT} {te : TE} {vs : List Nat} {D : Ends} {σ : L2.St} {H : Hp} {t u : TS} (h : tLc wi g tt te vs σ H (fun v H1 => rAll K [v] H1 (fun y H2 => ∃ c, y = .bl c ∧ (if (!c) = true then t D σ H2 else u D σ H2)))) : tIfS (tNot (tB (tCB (rAll K) (tCons (tLc wi g tt te vs) tNil)))) t u D σ H := h
/-- a comprehension of truths: all of them, or not -/
theorem all_of {K : PySem.W.Frag} {bs : List Bool} {D : Addr} {H : Hp} {Q : VK} (h : H D = some (.lst (bs.map V.bl))) (q : Q (.bl (bs.all id)) H) : rAll K [.ref D] H Q := ⟨D, bs, rfl, .inl (.inl h), q⟩
end HF
namespace HF
open PySem PySem.Spec PyProof.Rows L2
theorem walk_zipN {K : PySem.W.Frag} {a b : Addr} {xs ys : List V} {n : Nat} (hx : n ≤ xs.length) (hy : ys.length = n) : Walk (RZ.ItzT K a b) n (fun H => SqT K H a xs ∧ SqT K H b ys) (YPair (fun i => xs[i]?) (fun i => ys[i]?)) := by
  refine ⟨fun i H hi q => ⟨xs, ys, xs[i]'(by omega), ys[i]'(by omega), q.1, q.2, List.getElem?_eq_getElem _, List.getElem?_eq_getElem _⟩, fun H q => ⟨xs, ys, q.1, q.2, .inr (by omega)⟩, ?_⟩
  rintro i H x H' hi q ⟨T, u, v, e1, e2, e3, h1, h2⟩
  exact ⟨T, u, v, e1, e2, e3, h1 xs q.1, h2 ys q.2⟩
theorem tie_len {zs : List Str} {ds : List PyData} (h : ds.length ≠ 2) : isTieB zs (.tuple ds) = false := by
  match ds, h with
  | [], _ => rfl
  | [_], _ => rfl
  | [_, _], h => exact absurd rfl h
  | _ :: _ :: _ :: _, _ => rfl
theorem tie_not {zs : List Str} {d : PyData} (h : isTup d = false) : isTieB zs d = false := by
  cases d with
  | tuple ds => exact nomatch h
  | _ => rfl
theorem Hq.dq {K : PySem.W.Frag} {H : Hp} {h : Addr} {zs : List Str} (hq : Hq K H h zs) : Dp K H (.ref h) (.list (zs.map PyData.str)) ∨ Dp K H (.ref h) (.tuple (zs.map PyData.str)) := hq.imp (fun z => .lst z (dp_strs zs)) fun z => .tup z.sq (dp_strs zs)
theorem seq_tup {A : Addr → Prop} {H : Hp} {x : V} {ds : List PyData} (h : Dq A H x (.tuple ds)) : ∃ (a : Addr) (zs : List (V × PyData)), x = .ref a ∧ ¬ A a ∧ TsA H a (zs.map Prod.fst) ∧ (∀ z ∈ zs, Dq A H z.1 z.2) ∧ ds = zs.map Prod.snd := by
  generalize hd : PyData.tuple ds = d at h
  cases h with
  | non => cases hd
  | bl b => cases hd
  | int i => cases hd
  | str z => cases hd
  | lst _ _ _ => cases hd
  | tup ne sq hz =>
    injection hd with hd
    exact ⟨_, _, rfl, ne, sq, hz, hd⟩
theorem tup_of {d : PyData} (h : isTup d = true) : ∃ ds, d = .tuple ds := by
  cases d with
  | tuple ds => exact ⟨ds, rfl⟩
  | _ => exact nomatch h
theorem alike_ties {zs : List Str} {d e : PyData} (hd : isTieB zs d = true) (he : isTieB zs e = true) : PySem.W.alike d e = true ∧ d ≠ .none ∧ d.depth ≤ 60 := by
  obtain ⟨a, b, rfl, _⟩ := tie_pair hd
  obtain ⟨a', b', rfl, _⟩ := tie_pair he
  exact ⟨rfl, nofun, by show 0 + 1 ≤ 60; decide⟩
end HF
/-! things handed to the deciders: what holds of each -/
namespace HF
open PySem PySem.Spec PyProof.Rows L2
def gk1 {α : Type} : List α → List α → List α
  | [], [x] => [x]
  | _, _ => []
theorem gk1_rel {vs : List V} {us : List Value} {zs : List V} {ws : List Value} (h1 : Vals vs us) (h2 : Vals zs ws) : Vals (gk1 vs zs) (gk1 us ws) := by
  cases h1 with
  | cons _ _ => cases h2 <;> exact .nil
  | nil =>
    cases h2 with
    | nil => exact .nil
    | cons a t =>
      cases t with
      | nil => exact .cons a .nil
      | cons b t2 => exact .nil
def gk11 {α : Type} : List α → List α → List α
  | [h], [x] => [h, x]
  | _, _ => []
theorem gk11_rel {vs : List V} {us : List Value} {zs : List V} {ws : List Value} (h1 : Vals vs us) (h2 : Vals zs ws) : Vals (gk11 vs zs) (gk11 us ws) := by
  cases h1 with
  | nil => exact .nil
  | cons c r =>
    cases r with
    | cons _ _ => exact .nil
    | nil =>
      cases h2 with
      | nil => exact .nil
      | cons a t =>
        cases t with
        | nil => exact .cons c (.cons a .nil)
        | cons b t2 => exact .nil
section
variable {X : Cx}
/-- a slice of a tuple, new or the tuple itself -/
def rSlW (K : PySem.W.Frag) : V → Option Int → Option Int → Hp → VK → Prop := fun x lo hi H Q => ∃ a xs, x = .ref a ∧ SqT K H a xs ∧ ∀ b H', Same H H' → SqT K H' b (cutV xs lo hi) → Q (.ref b) H'
theorem sl_tupW : SlR X (rSlW X.K) := by
  intro pins s σ H x v vl vu lo hi sl Q I rx hs pl pu h
  obtain ⟨a, xs, rfl, hx, q⟩ := h
  refine sl_tupA pins s σ H _ v vl vu lo hi sl Q I rx hs pl pu ⟨a, xs, rfl, hx, fun hw => q a H (Same.refl _) ?_, fun _ p np => q p _ (same_upd np) (.inl (.inl upd_same))⟩
  have e : cutV xs lo hi = xs := by
    unfold cutV
    rw [hw.1, hw.2]
    simp
  rw [e]
  exact hx
end
/-- a thing at hand -/
structure Th (A : Addr → Prop) (H : Hp) (z : V × PyData) : Prop where
  dq : Dq A H z.1 z.2
  tq : Tq H z.1 z.2
  gd : Gd 6 1000 z.2
  wt : z.2.weight ≤ 100000
theorem Th.oth {A : Addr → Prop} {H H' : Hp} {z : V × PyData} (h : Th A H z) (o : OthA A H H') : Th A H' z := ⟨h.dq.oth o, h.tq.oth h.dq o, h.gd, h.wt⟩
theorem Th.same {A : Addr → Prop} {H H' : Hp} {z : V × PyData} (h : Th A H z) (s : Same H H') : Th A H' z := h.oth (OthA.of s)
theorem Th.more {A : Addr → Prop} {S : Addr} {H : Hp} {z : V × PyData} (h : Th A H z) (n : H S = none) : Th (fun b => A b ∨ b = S) H z := ⟨h.dq.more n, h.tq, h.gd, h.wt⟩
theorem Th.fine {A : Addr → Prop} {H : Hp} {z : V × PyData} (h : Th A H z) : Fine 6 1000 100000 z.2 := h.gd.fine h.wt
def PS2 (p S : Addr) : Addr → Prop := fun b => b = p ∨ b = S
/-- the list of things -/
structure Ths (p S : Addr) (H : Hp) (ws : List (V × PyData)) : Prop where
  lst : H S = some (.lst (ws.map Prod.fst))
  all : ∀ z ∈ ws, Th (PS2 p S) H z
theorem Ths.oth {p S : Addr} {H H' : Hp} {ws : List (V × PyData)} (h : Ths p S H ws) (o : Oth p H H') (ne : S ≠ p) : Ths p S H' ws := ⟨o _ _ h.lst ne, fun z hz => (h.all z hz).oth (OthA.box o (.inl rfl))⟩
theorem Ths.same {p S : Addr} {H H' : Hp} {ws : List (V × PyData)} (h : Ths p S H ws) (o : Same H H') : Ths p S H' ws := ⟨o _ _ h.lst, fun z hz => (h.all z hz).same o⟩
theorem othS {p S : Addr} {H : Hp} {o : HO} : OthA (PS2 p S) H (upd H S o) := fun b u h n => by
  rw [upd_ne (fun e => n (.inr e))]
  exact h
theorem Ths.app {p S : Addr} {H : Hp} {ws : List (V × PyData)} {z : V × PyData} (h : Ths p S H ws) (hz : Th (PS2 p S) H z) : Ths p S (upd H S (.lst (ws.map Prod.fst ++ [z.1]))) (ws ++ [z]) := by
  refine ⟨by rw [upd_same, List.map_append]; rfl, fun y hy => ?_⟩
  rcases List.mem_append.mp hy with hy | hy
  · exact (h.all y hy).oth othS
  · rw [List.mem_singleton.mp hy]
    exact hz.oth othS
theorem Tp.othA {A : Addr → Prop} {H H' : Hp} {a : Addr} {xs : List V} (h : Tp H a xs) (o : OthA A H H') (n : ¬ A a) : Tp H' a xs := by
  obtain ⟨ob, e, r⟩ := h
  exact ⟨ob, o _ _ e n, r⟩
theorem nm_size {z : Str} (h : Nm z) : z.cps.size ≤ 6 := by
  rw [← Array.length_toList]
  exact h.2.1
theorem gd_names {w : Nat} {zs : List Str} (hn : ∀ z ∈ zs, Nm z) : ∀ d ∈ zs.map PyData.str, Gd 0 w d := fun d hd => by
  obtain ⟨z, hz, rfl⟩ := List.mem_map.mp hd
  exact gd_str (hn z hz).sg
theorem gd_heap {w : Nat} {zs : List Str} (hn : ∀ z ∈ zs, Nm z) (hl : zs.length ≤ w) : Gd 1 w (.tuple (zs.map PyData.str)) ∧ (PyData.tuple (zs.map PyData.str)).weight ≤ 7 * zs.length := by
  refine ⟨Gd.tuple (gd_names hn) (by rw [List.length_map]; exact hl), ?_⟩
  exact weight_strs2 (n := 6) fun z hz => nm_size (hn z hz)
theorem gd_heapL {w : Nat} {zs : List Str} (hn : ∀ z ∈ zs, Nm z) (hl : zs.length ≤ w) : Gd 1 w (.list (zs.map PyData.str)) ∧ (PyData.list (zs.map PyData.str)).weight ≤ 7 * zs.length := by
  refine ⟨Gd.list (gd_names hn) (by rw [List.length_map]; exact hl), ?_⟩
  exact weight_strs2 (n := 6) fun z hz => nm_size (hn z hz)
theorem gd_ties {zs : List Str} {L : SL} (hn : ∀ z ∈ zs, Nm z) (hok : ∀ p ∈ L, OkP zs p) (hl : L.length ≤ 200) : Gd 2 200 (dTies L) ∧ (dTies L).weight ≤ 15 * L.length := by
  refine ⟨Gd.tuple (fun d hd => ?_) (by rw [List.length_map]; exact hl), weight_rows hn hok⟩
  obtain ⟨p, hp, rfl⟩ := List.mem_map.mp hd
  obtain ⟨x, y, e, hx, hy, _⟩ := hok p hp
  refine Gd.tuple (m := 0) (gd_names fun z hz => ?_) (by rw [List.length_map, e]; show 2 ≤ 200; decide)
  rw [e] at hz
  rcases List.mem_cons.mp hz with rfl | hz
  · exact hn _ hx
  · rw [List.mem_singleton.mp hz]
    exact hn _ hy
theorem dq_ties {A : Addr → Prop} {zs : List Str} {H : Hp} {r : Addr} {L : SL} (hT : Ties zs H r L) (nr : ¬ A r) (np : ∀ p ∈ L, ¬ A p.1) : Dq A H (.ref r) (dTies L) := by
  have e1 : (L.map fun p => (V.ref p.1, dRow p)).map Prod.fst = rf L := by rw [List.map_map]; rfl
  have e2 : (L.map fun p => (V.ref p.1, dRow p)).map Prod.snd = L.map dRow := by rw [List.map_map]; rfl
  show Dq A H (.ref r) (.tuple (L.map dRow))
  rw [← e2]
  refine .tup nr (.inr (by rw [e1]; exact hT.1)) fun z hz => ?_
  obtain ⟨p, hp, rfl⟩ := List.mem_map.mp hz
  exact Dq.tupS (np p hp) (.inl (hT.2.1 p hp).1)
theorem tq_tp {H : Hp} {a : Addr} {xs : List V} {d : PyData} (h : Tp H a xs) : Tq H (.ref a) d := fun b ds e _ => by
  cases e
  exact ⟨_, h⟩
theorem tq_no {H : Hp} {v : V} {d : PyData} (h : ∀ ds, d ≠ .tuple ds) : Tq H v d := fun _ ds _ e => absurd e (h ds)
theorem th_heap {A : Addr → Prop} {H : Hp} {a : Addr} {zs : List Str} (h : Tp H a (zs.map V.str)) (n : ¬ A a) (hn : ∀ z ∈ zs, Nm z) (hl : zs.length ≤ 100) : Th A H (.ref a, .tuple (zs.map PyData.str)) :=
  ⟨Dq.tupS n (.inr h), tq_tp h, (gd_heap (w := 100) hn hl).1.mono (by decide) (by decide), Nat.le_trans (gd_heap (w := 100) hn hl).2 (by omega)⟩
theorem th_ties {A : Addr → Prop} {zs : List Str} {H : Hp} {r : Addr} {L : SL} (hT : Ties zs H r L) (nr : ¬ A r) (np : ∀ p ∈ L, ¬ A p.1) (hn : ∀ z ∈ zs, Nm z) (hok : ∀ p ∈ L, OkP zs p) (hl : L.length ≤ 200) : Th A H (.ref r, dTies L) :=
  ⟨dq_ties hT nr np, tq_tp hT.1, (gd_ties hn hok hl).1.mono (by decide) (by decide), Nat.le_trans (gd_ties hn hok hl).2 (by omega)⟩
def z12 (zs : List Str) (L : SL) (t r T0 L0 L1 C T2 T3 T5 : Addr) : List (V × PyData) := [(.ref t, .tuple (zs.map PyData.str)), (.ref r, dTies L), (.ref T0, .tuple []), (.ref L0, .list []), (.non, .none), (.int 0, .int 0), (.str "a", .str "a"), (.ref L1, .list (zs.map PyData.str)), (.ref C, .tuple ((zs ++ zs.take 1).map PyData.str)), (.ref T2, .tuple [.tuple [.str "a", .str "a"]]), (.ref T3, .tuple [.int 1]), (.ref T5, .tuple [.tuple []])]
theorem z12_ok {A : Addr → Prop} {zs : List Str} {L : SL} {t r T0 L0 L1 C T1 T2 T3 T4 T5 : Addr} {H : Hp} (hn : ∀ z ∈ zs, Nm z) (hz : zs.length ≤ 12)
    (ht : Th A H (.ref t, .tuple (zs.map PyData.str))) (hr : Th A H (.ref r, dTies L))
    (n0 : ¬ A T0) (h0 : Tp H T0 []) (n1 : ¬ A L0) (h1 : H L0 = some (.lst [])) (n2 : ¬ A L1) (h2 : H L1 = some (.lst (zs.map V.str))) (n3 : ¬ A C) (h3 : Tp H C ((zs ++ zs.take 1).map V.str))
    (n4 : ¬ A T1) (h4 : Tp H T1 [.str "a", .str "a"]) (n5 : ¬ A T2) (h5 : Tp H T2 [.ref T1]) (n6 : ¬ A T3) (h6 : Tp H T3 [.int 1]) (n7 : ¬ A T4) (h7 : Tp H T4 []) (n8 : ¬ A T5) (h8 : Tp H T5 [.ref T4]) :
    ∀ z ∈ z12 zs L t r T0 L0 L1 C T2 T3 T5, Th A H z := by
  have ga : ∀ {m w : Nat}, Gd m w (PyData.str "a") := gd_str (sgB (by decide +kernel))
  have d1 : Dq A H (.ref T1) (.tuple [.str "a", .str "a"]) := Dq.tupS (xs := ["a", "a"]) n4 (.inr h4)
  have d4 : Dq A H (.ref T4) (.tuple []) := Dq.tupS (xs := []) n7 (.inr h7)
  have hn2 : ∀ z ∈ zs ++ zs.take 1, Nm z := fun z hz => (List.mem_append.mp hz).elim (hn z) fun h => hn z (List.mem_of_mem_take h)
  have hl2 : (zs ++ zs.take 1).length ≤ 100 := by
    rw [List.length_append, List.length_take]
    omega
  intro z hz
  unfold z12 at hz
  simp only [List.mem_cons, List.not_mem_nil, or_false] at hz
  rcases hz with rfl | rfl | rfl | rfl | rfl | rfl | rfl | rfl | rfl | rfl | rfl | rfl
  · exact ht
  · exact hr
  · exact ⟨Dq.tupS (xs := []) n0 (.inr h0), tq_tp h0, (Gd.tuple (m := 0) (w := 0) (ds := []) (fun d hd => nomatch hd) (by decide)).mono (by decide) (by decide : 0 ≤ 1000), (by decide : (PyData.tuple []).weight ≤ 100000)⟩
  · exact ⟨Dq.lstS (xs := []) n1 h1, tq_no (fun _ e => by cases e), (Gd.list (m := 0) (w := 0) (ds := []) (fun d hd => nomatch hd) (by decide)).mono (by decide) (by decide : 0 ≤ 1000), (by decide : (PyData.list []).weight ≤ 100000)⟩
  · exact ⟨.non, tq_no (fun _ e => nomatch e), gd_none, by decide⟩
  · exact ⟨.int _, tq_no (fun _ e => nomatch e), gd_int (by decide +kernel) (by decide +kernel), by decide +kernel⟩
  · exact ⟨.str _, tq_no (fun _ e => nomatch e), ga, by decide +kernel⟩
  · exact ⟨Dq.lstS n2 h2, tq_no (fun _ e => nomatch e), (gd_heapL (w := 100) hn (by omega)).1.mono (by decide) (by decide), Nat.le_trans (gd_heapL (w := 100) hn (by omega)).2 (by omega)⟩
  · exact th_heap h3 n3 hn2 hl2
  · refine ⟨.tup (zs := [(.ref T1, .tuple [.str "a", .str "a"])]) n5 (.inr h5) (fun z hz => ?_), tq_tp h5, (Gd.tuple (m := 1) (w := 10) (fun d hd => ?_) (by decide)).mono (by decide) (by decide), (by decide +kernel : (PyData.tuple [.tuple [.str "a", .str "a"]]).weight ≤ 100000)⟩
    · rw [List.mem_singleton.mp hz]
      exact d1
    · rw [List.mem_singleton.mp hd]
      refine Gd.tuple (m := 0) (fun x hx => ?_) (by decide)
      rcases List.mem_cons.mp hx with rfl | hx
      · exact ga
      · rw [List.mem_singleton.mp hx]
        exact ga
  · refine ⟨.tup (zs := [(.int 1, .int 1)]) n6 (.inr h6) (fun z hz => ?_), tq_tp h6, (Gd.tuple (m := 1) (w := 10) (fun d hd => ?_) (by decide)).mono (by decide) (by decide), (by decide +kernel : (PyData.tuple [.int 1]).weight ≤ 100000)⟩
    · rw [List.mem_singleton.mp hz]
      exact .int _
    · rw [List.mem_singleton.mp hd]
      exact gd_int (by decide +kernel) (by decide +kernel)
  · refine ⟨.tup (zs := [(.ref T4, .tuple [])]) n8 (.inr h8) (fun z hz => ?_), tq_tp h8, (Gd.tuple (m := 1) (w := 10) (fun d hd => ?_) (by decide)).mono (by decide) (by decide), (by decide +kernel : (PyData.tuple [.tuple []]).weight ≤ 100000)⟩
    · rw [List.mem_singleton.mp hz]
      exact d4
    · rw [List.mem_singleton.mp hd]
      exact Gd.tuple (m := 0) (fun x hx => nomatch hx) (by decide)
end HF
/-! zip over two lists, whose pair is kept by a name -/
namespace HF
open PySem PySem.Spec PyProof.Rows L2
section
variable {prog : Program} {w : World} {A : Around} {E : Value → Shared → Prop} {s : Shared}
/-- a zip, with or without a pair that it remembers -/
abbrev ZAt (h : Heap) (z TI TO : Addr) (f0 f1 : Value) : Prop := h.get? z = some { cls := .type "zip", dict := none, data := .fields #[f0, f1, .bool false, .ref TI, .ref TO], slots := #[] }
def ZSt (h : Heap) (z TI TO : Addr) : Prop := ∃ f0 f1, ZAt h z TI TO f0 f1 ∧ (f0 = .none ∨ ∃ T : Int, f0 = rawInt T)
theorem wp_alive {M : Model} {a : Addr} {Q : Option Obj → Shared → Prop} (h : Q (s.heap.get? a) s) : wpAny M A (loadIfAlive a) Q E s := fun Γ p _ => by
  unfold loadIfAlive
  rw [Sem.wp_loadIfAlive]
  simpa using h
theorem wp_free {z TI TO : Addr} {Q : Bool → Shared → Prop} (hz : ZSt s.heap z TI TO) (hQ : ∀ b h', ZSt h' z TI TO → Heap.SameBut z s.heap h' → Q b { s with heap := h' }) :
    wpAny (model prog w) A (Builtin.SmallTypes.ownedTupleIsFree (.ref z)) Q E s := by
  obtain ⟨f0, f1, hz, e⟩ := hz
  have hq : ∀ b, Q b s := fun b => hQ b s.heap ⟨f0, f1, hz, e⟩ ⟨rfl, fun _ _ => rfl⟩
  unfold Builtin.SmallTypes.ownedTupleIsFree
  rcases e with rfl | ⟨T, rfl⟩
  · exact wpAny_bind (wpAny_field hz rfl (x := .none) rfl (wpAny_pure (hq _)))
  · refine wpAny_bind (wpAny_field hz rfl (x := rawInt T) rfl ?_)
    refine wpAny_bind (wp_alive ?_)
    cases s.heap.get? T.toNat with
    | none => exact wpAny_pure (hq _)
    | some o =>
      show wpAny _ _ (field (.ref z) 1 >>= _) _ _ _
      refine wpAny_bind (wpAny_field hz rfl (x := f1) rfl ?_)
      split
      · refine wpAny_bind (wpAny_setField_rec hz (by simp) fun h1 hz1 hs1 => wpAny_pure (hQ _ h1 ⟨rawInt T, .bool true, hz1, .inr ⟨T, rfl⟩⟩ hs1))
      · exact wpAny_pure (hq _)
/-- the next pair -/
theorem zipN_item {z TI TO i1 i2 l1 l2 : Addr} {k1 k2 : Nat} {xs ys : Array Value} {x y a b : Value} {Q : Value → Shared → Prop} (D : ZipApart z TI TO i1 i2 l1 l2)
    (hz : ZSt s.heap z TI TO) (hTI : IsPair s.heap TI (.ref i1) (.ref i2)) (hTO : IsPair s.heap TO a b)
    (h1 : s.heap.IsListIter i1 l1 k1) (h2 : s.heap.IsListIter i2 l2 k2) (hl1 : s.heap.IsList l1 xs) (hl2 : s.heap.IsList l2 ys) (hx : xs[k1]? = some x) (hy : ys[k2]? = some y)
    (hQ : ∀ h', ZSt h' z TI TO → (∃ u v, IsPair h' TO u v) → h'.IsListIter i1 l1 (k1 + 1) → h'.IsListIter i2 l2 (k2 + 1) → IsPair h' s.heap.objs.size x y → h'.objs.size = s.heap.objs.size + 1 →
      (∀ c o, c ≠ z → c ≠ TO → c ≠ i1 → c ≠ i2 → s.heap.get? c = some o → h'.get? c = some o) → Q (.ref s.heap.objs.size) { s with heap := h' }) :
    wpAny (model prog w) A (Builtin.«zip.__next__» ⟨[.ref z], []⟩) (fun fin s' => ∃ v, fin = .done (.ret v) ∧ Q v s') E s := by
  obtain ⟨g0, g1, hzz, ez⟩ := hz
  show wpAny _ _ (field (.ref z) 2 >>= _) _ _ _
  refine wpAny_bind (wpAny_field hzz rfl (x := .bool false) rfl ?_)
  show wpAny _ _ (field (.ref z) 3 >>= _) _ _ _
  refine wpAny_bind (wpAny_field hzz rfl (x := .ref TI) rfl ?_)
  refine wpAny_bind (wpAny_seqItems hTI rfl ?_)
  show wpAny _ _ (Builtin.SmallTypes.ownedTupleIsFree (.ref z) >>= _) _ _ _
  refine wpAny_bind (wp_free ⟨g0, g1, hzz, ez⟩ fun fr h₀ hz₀ hs₀ => ?_)
  obtain ⟨f0, f1, hz, ez⟩ := hz₀
  cases fr with
  | true =>
    simp only [if_true]
    refine wpAny_bind (wpAny_rule ?_)
    refine wpAny_bind (wpAny_field hz rfl (x := .ref TO) rfl ?_)
    refine wpAny_bind (wpAny_setField_rec hz (by simp) fun h₁ hz₁ hs₁ => ?_)
    replace hz₁ : ZAt h₁ z TI TO .ellipsis f1 := hz₁
    have up₁ : ∀ c o, c ≠ z → s.heap.get? c = some o → h₁.get? c = some o := fun c o n e => hs₁.extBut _ _ n (hs₀.extBut _ _ n e)
    refine wpAny_bind ?_
    simp only [List.zipIdx_cons, List.zipIdx_nil, List.forIn_cons, List.forIn_nil]
    refine wpAny_bind (wpAny_bind (wpAny_onRaise ?_))
    show wpAny _ _ (Builtin.SmallTypes.nextOf (.ref i1) >>= _) _ _ _
    refine wpAny_bind (wpAny_nextOf_list_item ((h1.extBut hs₀.extBut D.i1z).extBut hs₁.extBut D.i1z) ((hl1.extBut hs₀.extBut D.l1z).extBut hs₁.extBut D.l1z) hx fun h₂ h1₂ hs₂ => wpAny_pure ?_)
    have hTO₂ : IsPair h₂ TO a b := hs₂.extBut _ _ D.TOi1 (up₁ _ _ D.TOz hTO)
    refine wpAny_bind (wpAny_seqItems hTO₂ rfl ?_)
    refine wpAny_bind (wpAny_updateSeq_pair hTO₂ fun h₃ hTO₃ hs₃ => ?_)
    replace hTO₃ : IsPair h₃ TO x b := hTO₃
    refine wpAny_bind (wpAny_letGo (wpAny_pure ?_))
    refine wpAny_bind (wpAny_bind (wpAny_onRaise ?_))
    show wpAny _ _ (Builtin.SmallTypes.nextOf (.ref i2) >>= _) _ _ _
    refine wpAny_bind (wpAny_nextOf_list_item ((((h2.extBut hs₀.extBut D.i2z).extBut hs₁.extBut D.i2z).extBut hs₂.extBut D.i12.symm).extBut hs₃.extBut D.TOi2.symm)
      ((((hl2.extBut hs₀.extBut D.l2z).extBut hs₁.extBut D.l2z).extBut hs₂.extBut D.l2i1).extBut hs₃.extBut D.l2TO) hy fun h₄ h2₄ hs₄ => wpAny_pure ?_)
    have hTO₄ : IsPair h₄ TO x b := hs₄.extBut _ _ D.TOi2 hTO₃
    refine wpAny_bind (wpAny_seqItems hTO₄ rfl ?_)
    refine wpAny_bind (wpAny_updateSeq_pair hTO₄ fun h₅ hTO₅ hs₅ => ?_)
    replace hTO₅ : IsPair h₅ TO x y := hTO₅
    refine wpAny_bind (wpAny_letGo (wpAny_pure (wpAny_pure ?_)))
    refine wpAny_bind (wpAny_seqItems hTO₅ rfl ?_)
    refine wpAny_bind (wpAny_newTuple ?_)
    have hsz : h₅.objs.size = s.heap.objs.size := by rw [hs₅.1, hs₄.1, hs₃.1, hs₂.1, hs₁.1, hs₀.1]
    have hz₅ : ZAt h₅ z TI TO .ellipsis f1 := hs₅.extBut _ _ D.TOz.symm (hs₄.extBut _ _ D.i2z.symm (hs₃.extBut _ _ D.TOz.symm (hs₂.extBut _ _ D.i1z.symm hz₁)))
    have hk₅ : ∀ c o, c ≠ z → c ≠ TO → c ≠ i1 → c ≠ i2 → s.heap.get? c = some o → h₅.get? c = some o := fun c o c1 c2 c3 c4 e =>
      hs₅.extBut _ _ c2 (hs₄.extBut _ _ c4 (hs₃.extBut _ _ c2 (hs₂.extBut _ _ c3 (up₁ _ _ c1 e))))
    have h1₅ : h₅.IsListIter i1 l1 (k1 + 1) := ((h1₂.extBut hs₃.extBut D.TOi1.symm).extBut hs₄.extBut D.i12).extBut hs₅.extBut D.TOi1.symm
    have h2₅ : h₅.IsListIter i2 l2 (k2 + 1) := h2₄.extBut hs₅.extBut D.TOi2.symm
    have hzlt : z < h₅.objs.size := Heap.lt_size hz₅
    show wpAny _ _ (Builtin.SmallTypes.ownedTupleHandOut (.ref z) (.ref h₅.objs.size) >>= _) _ _ _
    refine wpAny_bind ?_
    unfold Builtin.SmallTypes.ownedTupleHandOut
    have hz₆ : ZAt (h₅.push { cls := .type "tuple", data := .seq #[x, y] }) z TI TO .ellipsis f1 := Heap.get?_push_of_some _ hz₅
    refine wpAny_bind (wpAny_setField_rec hz₆ (by simp) fun h₇ hz₇ hs₇ => ?_)
    replace hz₇ : ZAt h₇ z TI TO (rawInt h₅.objs.size) f1 := hz₇
    refine wpAny_setField_rec hz₇ (by simp) fun h₈ hz₈ hs₈ => ?_
    replace hz₈ : ZAt h₈ z TI TO (rawInt h₅.objs.size) (.bool false) := hz₈
    have up : ∀ c o, c ≠ z → h₅.get? c = some o → h₈.get? c = some o := fun c o c1 e => hs₈.extBut _ _ c1 (hs₇.extBut _ _ c1 (Heap.get?_push_of_some _ e))
    have hT₈ : IsPair h₈ h₅.objs.size x y := hs₈.extBut _ _ (Nat.ne_of_gt hzlt) (hs₇.extBut _ _ (Nat.ne_of_gt hzlt) (Heap.get?_push_size _ rfl))
    have hz8 : h₈.objs.size = h₅.objs.size + 1 := by rw [hs₈.1, hs₇.1, Heap.size_push]
    refine wpAny_pure ⟨_, rfl, ?_⟩
    show Q (.ref h₅.objs.size) _
    rw [hsz] at hz8 hT₈ ⊢
    exact hQ h₈ ⟨_, _, hz₈, .inr ⟨_, rfl⟩⟩ ⟨x, y, up _ _ D.TOz hTO₅⟩ (h1₅.at fun o e => up _ o D.i1z e) (h2₅.at fun o e => up _ o D.i2z e) hT₈ hz8 fun c o c1 c2 c3 c4 e => up c o c1 (hk₅ c o c1 c2 c3 c4 e)
  | false =>
    simp only [Bool.false_eq_true, if_false]
    refine wpAny_bind ?_
    rw [show (#[Value.ref i1, Value.ref i2] : Array Value) = [Value.ref i1, Value.ref i2].toArray from rfl, List.forIn_toArray]
    simp only [List.forIn_cons, List.forIn_nil]
    refine wpAny_bind (wpAny_bind (wpAny_holding ?_))
    show wpAny _ _ (Builtin.SmallTypes.nextOf (.ref i1) >>= _) _ _ _
    refine wpAny_bind (wpAny_nextOf_list_item (h1.extBut hs₀.extBut D.i1z) (hl1.extBut hs₀.extBut D.l1z) hx fun h₂ h1₂ hs₂ => wpAny_pure (wpAny_pure ?_))
    refine wpAny_bind (wpAny_bind (wpAny_holding ?_))
    show wpAny _ _ (Builtin.SmallTypes.nextOf (.ref i2) >>= _) _ _ _
    refine wpAny_bind (wpAny_nextOf_list_item ((h2.extBut hs₀.extBut D.i2z).extBut hs₂.extBut D.i12.symm) ((hl2.extBut hs₀.extBut D.l2z).extBut hs₂.extBut D.l2i1) hy fun h₄ h2₄ hs₄ => wpAny_pure (wpAny_pure (wpAny_pure ?_)))
    refine wpAny_bind (wpAny_newTuple (hsz := (by decide : (2 : Nat) ≤ sizeLine)) ?_)
    have hsz : h₄.objs.size = s.heap.objs.size := by rw [hs₄.1, hs₂.1, hs₀.1]
    have up : ∀ c o, c ≠ z → c ≠ i1 → c ≠ i2 → s.heap.get? c = some o → (h₄.push { cls := .type "tuple", data := .seq #[x, y] }).get? c = some o := fun c o n1 n2 n3 e => Heap.get?_push_of_some _ (hs₄.extBut _ _ n3 (hs₂.extBut _ _ n2 (hs₀.extBut _ _ n1 e)))
    have hz₄ : ZAt (h₄.push { cls := .type "tuple", data := .seq #[x, y] }) z TI TO f0 f1 := Heap.get?_push_of_some _ (hs₄.extBut _ _ D.i2z.symm (hs₂.extBut _ _ D.i1z.symm hz))
    have hT₄ : IsPair (h₄.push { cls := .type "tuple", data := .seq #[x, y] }) h₄.objs.size x y := Heap.get?_push_size _ rfl
    have hz8 : (h₄.push { cls := .type "tuple", data := .seq #[x, y] }).objs.size = h₄.objs.size + 1 := by rw [Heap.size_push]
    have h1₄ : h₄.IsListIter i1 l1 (k1 + 1) := h1₂.extBut hs₄.extBut D.i12
    refine wpAny_pure ⟨_, rfl, ?_⟩
    show Q (.ref h₄.objs.size) _
    rw [hsz] at hz8 hT₄ ⊢
    exact hQ _ ⟨_, _, hz₄, ez⟩ ⟨a, b, up _ _ D.TOz D.TOi1 D.TOi2 hTO⟩ (h1₄.at fun o e => Heap.get?_push_of_some _ e) (h2₄.at fun o e => Heap.get?_push_of_some _ e) hT₄ hz8 fun c o c1 _ c3 c4 e => up c o c1 c3 c4 e
/-- no more -/
theorem zipN_end {z TI TO i1 i2 l1 l2 : Addr} {k1 k2 : Nat} {xs ys : Array Value} {a b : Value} {Q : Fin → Shared → Prop} (hh : A.handled = none) (D : ZipApart z TI TO i1 i2 l1 l2)
    (hz : ZSt s.heap z TI TO) (hTI : IsPair s.heap TI (.ref i1) (.ref i2)) (hTO : IsPair s.heap TO a b)
    (h1 : s.heap.IsListIter i1 l1 k1) (h2 : s.heap.IsListIter i2 l2 k2) (hl1 : s.heap.IsList l1 xs) (hl2 : s.heap.IsList l2 ys) (hend : xs[k1]? = none ∨ ys[k2]? = none)
    (hE : ∀ h' e, (∀ c o, c ≠ z → c ≠ TO → c ≠ i1 → c ≠ i2 → s.heap.get? c = some o → h'.get? c = some o) → (∃ o, h'.get? e = some o ∧ o.cls = .type "StopIteration") → E (.ref e) { s with heap := h' }) :
    wpAny (model prog w) A (Builtin.«zip.__next__» ⟨[.ref z], []⟩) Q E s := by
  obtain ⟨g0, g1, hzz, ez⟩ := hz
  show wpAny _ _ (field (.ref z) 2 >>= _) _ _ _
  refine wpAny_bind (wpAny_field hzz rfl (x := .bool false) rfl ?_)
  show wpAny _ _ (field (.ref z) 3 >>= _) _ _ _
  refine wpAny_bind (wpAny_field hzz rfl (x := .ref TI) rfl ?_)
  refine wpAny_bind (wpAny_seqItems hTI rfl ?_)
  show wpAny _ _ (Builtin.SmallTypes.ownedTupleIsFree (.ref z) >>= _) _ _ _
  refine wpAny_bind (wp_free ⟨g0, g1, hzz, ez⟩ fun fr h₀ hz₀ hs₀ => ?_)
  obtain ⟨f0, f1, hz, ez⟩ := hz₀
  cases fr with
  | true =>
    simp only [if_true]
    refine wpAny_bind (wpAny_rule ?_)
    refine wpAny_bind (wpAny_field hz rfl (x := .ref TO) rfl ?_)
    refine wpAny_bind (wpAny_setField_rec hz (by simp) fun h₁ hz₁ hs₁ => ?_)
    replace hz₁ : ZAt h₁ z TI TO .ellipsis f1 := hz₁
    have up₁ : ∀ c o, c ≠ z → s.heap.get? c = some o → h₁.get? c = some o := fun c o n e => hs₁.extBut _ _ n (hs₀.extBut _ _ n e)
    refine wpAny_bind ?_
    simp only [List.zipIdx_cons, List.zipIdx_nil, List.forIn_cons, List.forIn_nil]
    refine wpAny_bind (wpAny_bind (wpAny_onRaise ?_))
    show wpAny _ _ (Builtin.SmallTypes.nextOf (.ref i1) >>= _) _ _ _
    have j1 := (h1.extBut hs₀.extBut D.i1z).extBut hs₁.extBut D.i1z
    have j2 := (hl1.extBut hs₀.extBut D.l1z).extBut hs₁.extBut D.l1z
    cases hx : xs[k1]? with
    | none =>
      refine wpAny_bind (wpAny_nextOf_list_end hh j1 j2 hx fun h₂ e hs₂ he => ?_)
      obtain ⟨oe, hoe, hce⟩ := he
      have hz₂ : ZAt h₂ z TI TO .ellipsis f1 := hs₂ _ _ D.i1z.symm hz₁
      have hez : e ≠ z := fun x => by subst x; rw [hz₂] at hoe; cases hoe; simp at hce
      refine wpAny_setField_rec hz₂ (by simp) fun h₃ _ hs₃ => hE h₃ e (fun c o c1 _ c3 _ x => hs₃.extBut _ _ c1 (hs₂ _ _ c3 (up₁ _ _ c1 x))) ⟨oe, hs₃.extBut _ _ hez hoe, hce⟩
    | some x =>
      have hy : ys[k2]? = none := by rcases hend with h | h; rw [hx] at h; cases h; exact h
      refine wpAny_bind (wpAny_nextOf_list_item j1 j2 hx fun h₂ h1₂ hs₂ => wpAny_pure ?_)
      have hTO₂ : IsPair h₂ TO a b := hs₂.extBut _ _ D.TOi1 (up₁ _ _ D.TOz hTO)
      refine wpAny_bind (wpAny_seqItems hTO₂ rfl ?_)
      refine wpAny_bind (wpAny_updateSeq_pair hTO₂ fun h₃ hTO₃ hs₃ => ?_)
      refine wpAny_bind (wpAny_letGo (wpAny_pure ?_))
      refine wpAny_bind (wpAny_bind (wpAny_onRaise ?_))
      show wpAny _ _ (Builtin.SmallTypes.nextOf (.ref i2) >>= _) _ _ _
      refine wpAny_bind (wpAny_nextOf_list_end hh ((((h2.extBut hs₀.extBut D.i2z).extBut hs₁.extBut D.i2z).extBut hs₂.extBut D.i12.symm).extBut hs₃.extBut D.TOi2.symm)
        ((((hl2.extBut hs₀.extBut D.l2z).extBut hs₁.extBut D.l2z).extBut hs₂.extBut D.l2i1).extBut hs₃.extBut D.l2TO) hy fun h₄ e hs₄ he => ?_)
      obtain ⟨oe, hoe, hce⟩ := he
      have hz₄ : ZAt h₄ z TI TO .ellipsis f1 := hs₄ _ _ D.i2z.symm (hs₃.extBut _ _ D.TOz.symm (hs₂.extBut _ _ D.i1z.symm hz₁))
      have hez : e ≠ z := fun x => by subst x; rw [hz₄] at hoe; cases hoe; simp at hce
      refine wpAny_setField_rec hz₄ (by simp) fun h₅ _ hs₅ => hE h₅ e (fun c o c1 c2 c3 c4 x => hs₅.extBut _ _ c1 (hs₄ _ _ c4 (hs₃.extBut _ _ c2 (hs₂.extBut _ _ c3 (up₁ _ _ c1 x))))) ⟨oe, hs₅.extBut _ _ hez hoe, hce⟩
  | false =>
    simp only [Bool.false_eq_true, if_false]
    refine wpAny_bind ?_
    rw [show (#[Value.ref i1, Value.ref i2] : Array Value) = [Value.ref i1, Value.ref i2].toArray from rfl, List.forIn_toArray]
    simp only [List.forIn_cons, List.forIn_nil]
    refine wpAny_bind (wpAny_bind (wpAny_holding ?_))
    show wpAny _ _ (Builtin.SmallTypes.nextOf (.ref i1) >>= _) _ _ _
    have j1 := h1.extBut hs₀.extBut D.i1z
    have j2 := hl1.extBut hs₀.extBut D.l1z
    cases hx : xs[k1]? with
    | none =>
      exact wpAny_bind (wpAny_nextOf_list_end hh j1 j2 hx fun h₂ e hs₂ he => hE h₂ e (fun c o c1 _ c3 _ x => hs₂ _ _ c3 (hs₀.extBut _ _ c1 x)) he)
    | some x =>
      have hy : ys[k2]? = none := by rcases hend with h | h; rw [hx] at h; cases h; exact h
      refine wpAny_bind (wpAny_nextOf_list_item j1 j2 hx fun h₂ h1₂ hs₂ => wpAny_pure (wpAny_pure ?_))
      refine wpAny_bind (wpAny_bind (wpAny_holding ?_))
      show wpAny _ _ (Builtin.SmallTypes.nextOf (.ref i2) >>= _) _ _ _
      exact wpAny_bind (wpAny_nextOf_list_end hh ((h2.extBut hs₀.extBut D.i2z).extBut hs₂.extBut D.i12.symm) ((hl2.extBut hs₀.extBut D.l2z).extBut hs₂.extBut D.l2i1) hy fun h₄ e hs₄ he =>
        hE h₄ e (fun c o c1 c2 c3 c4 x => hs₄ _ _ c4 (hs₂.extBut _ _ c3 (hs₀.extBut _ _ c1 x))) he)
theorem ZSt.ty {z TI TO : Addr} (hz : ZSt s.heap z TI TO) : s.TypeIs (.ref z) "zip" := by
  obtain ⟨f0, f1, hz, _⟩ := hz
  exact ⟨_, hz, rfl⟩
theorem nextN_item {z TI TO i1 i2 l1 l2 : Addr} {k1 k2 : Nat} {xs ys : Array Value} {x y a b : Value} {Q : Option Value → Shared → Prop} (D : ZipApart z TI TO i1 i2 l1 l2)
    (hz : ZSt s.heap z TI TO) (hTI : IsPair s.heap TI (.ref i1) (.ref i2)) (hTO : IsPair s.heap TO a b)
    (h1 : s.heap.IsListIter i1 l1 k1) (h2 : s.heap.IsListIter i2 l2 k2) (hl1 : s.heap.IsList l1 xs) (hl2 : s.heap.IsList l2 ys) (hx : xs[k1]? = some x) (hy : ys[k2]? = some y)
    (hQ : ∀ h', ZSt h' z TI TO → (∃ u v, IsPair h' TO u v) → h'.IsListIter i1 l1 (k1 + 1) → h'.IsListIter i2 l2 (k2 + 1) → IsPair h' s.heap.objs.size x y → h'.objs.size = s.heap.objs.size + 1 →
      (∀ c o, c ≠ z → c ≠ TO → c ≠ i1 → c ≠ i2 → s.heap.get? c = some o → h'.get? c = some o) → Q (some (.ref s.heap.objs.size)) { s with heap := h' }) :
    wpAny (model prog w) A (pyNext (.ref z)) Q E s := by
  unfold pyNext
  exact wpAny_bind (wpAny_attempt (wpAny_callSpecial?_slot (name := Str.ofString "__next__") hz.ty F.slot_zip_next
    (wpAny_call_entry F.slot_zip_next hz.ty F.entry_zip_next
      (zipN_item D hz hTI hTO h1 h2 hl1 hl2 hx hy fun h' a1 a2 a3 a4 a5 a6 a7 => wpAny_pure (hQ h' a1 a2 a3 a4 a5 a6 a7)) (F.args_zip_next_1 _))))
theorem nextN_end {z TI TO i1 i2 l1 l2 : Addr} {k1 k2 : Nat} {xs ys : Array Value} {a b : Value} {Q : Option Value → Shared → Prop} (hh : A.handled = none) (D : ZipApart z TI TO i1 i2 l1 l2)
    (hz : ZSt s.heap z TI TO) (hTI : IsPair s.heap TI (.ref i1) (.ref i2)) (hTO : IsPair s.heap TO a b)
    (h1 : s.heap.IsListIter i1 l1 k1) (h2 : s.heap.IsListIter i2 l2 k2) (hl1 : s.heap.IsList l1 xs) (hl2 : s.heap.IsList l2 ys) (hend : xs[k1]? = none ∨ ys[k2]? = none)
    (hQ : ∀ h', (∀ c o, c ≠ z → c ≠ TO → c ≠ i1 → c ≠ i2 → s.heap.get? c = some o → h'.get? c = some o) → Q none { s with heap := h' }) : wpAny (model prog w) A (pyNext (.ref z)) Q E s := by
  unfold pyNext
  refine wpAny_bind (wpAny_attempt (wpAny_callSpecial?_slot (name := Str.ofString "__next__") hz.ty F.slot_zip_next
    (wpAny_call_entry F.slot_zip_next hz.ty F.entry_zip_next (zipN_end hh D hz hTI hTO h1 h2 hl1 hl2 hend fun h' e hk he => ?_) (F.args_zip_next_1 _))))
  obtain ⟨o, ho, hc⟩ := he
  refine wpAny_bind (wpAny_isInstance (T := "StopIteration") (b := true) ⟨o, ho, hc⟩ isSubtype_stop ?_)
  exact wpAny_pure (hQ _ hk)
end
theorem turn_zipN {P : Program} {w : World} {K : PySem.W.Frag} {tg : Expr} {a b z TI TO i1 i2 : Addr} (hgo : ∀ it v, letOwnedTupleGo tg it v = pure ()) (D : ZipApart z TI TO i1 i2 a b) :
    Turn P w K tg (Itz K a b) [z, TI, TO, i1, i2] z (fun i h => ZSt h z TI TO ∧ IsPair h TI (.ref i1) (.ref i2) ∧ (∃ x y, IsPair h TO x y) ∧ h.IsListIter i1 a i ∧ h.IsListIter i2 b i) where
  mem := by simp
  obj := fun i h st c hc => by
    obtain ⟨⟨f0, f1, hz, _⟩, hTI, ⟨x, y, hTO⟩, ⟨o1, e1, _, d1⟩, ⟨o2, e2, _, d2⟩⟩ := st
    have e' : c = z ∨ c = TI ∨ c = TO ∨ c = i1 ∨ c = i2 := by simpa using hc
    rcases e' with q | q | q | q | q
    · rw [q]; exact ⟨_, hz, fun v q => nomatch q⟩
    · rw [q]; exact ⟨_, hTI, fun v q => nomatch q⟩
    · rw [q]; exact ⟨_, hTO, fun v q => nomatch q⟩
    · rw [q]; exact ⟨o1, e1, fun v q => by rw [d1] at q; cases q⟩
    · rw [q]; exact ⟨o2, e2, fun v q => by rw [d2] at q; cases q⟩
  keep := fun i h h' st k => by
    obtain ⟨⟨f0, f1, hz, ez⟩, hTI, ⟨x, y, hTO⟩, h1, h2⟩ := st
    exact ⟨⟨f0, f1, k z (by simp) _ hz, ez⟩, k TI (by simp) _ hTI, ⟨x, y, k TO (by simp) _ hTO⟩, h1.at fun o q => k i1 (by simp) o q, h2.at fun o q => k i2 (by simp) o q⟩
  item := by
    intro X hP hw hK hc i pins s σ H E I hf st hg
    subst hP hw hK
    obtain ⟨hz, hTI, ⟨x0, y0, hTO⟩, h1, h2⟩ := st
    obtain ⟨xs, ys, x, y, hqx, hqy, hx, hy⟩ := hg
    obtain ⟨its, rv, p, _⟩ := I.list hqx
    obtain ⟨its2, rv2, p2, _⟩ := I.list hqy
    obtain ⟨u, hu, ru⟩ := rv.get hx
    obtain ⟨u2, hu2, ru2⟩ := rv2.get hy
    have hzl : z < s.heap.objs.size := by obtain ⟨f0, f1, e, _⟩ := hz; exact Heap.lt_size e
    refine nextN_item D hz hTI hTO h1 h2 p.isList p2.isList (x := u) (y := u2) (by simpa using hu) (by simpa using hu2) fun h' z' TO' h1' h2' hT hsz hk => ?_
    refine ⟨_, rfl, ?_⟩
    rw [hgo]
    refine wpAny_pure ?_
    have new : ObjOk X.prog X.w (upd H s.heap.objs.size (.tup [x, y])) h' s.heap.objs.size (.tup [x, y]) :=
      ⟨by show 2 ≤ sizeLine; decide, [u, u2], .cons ru (.cons ru2 .nil), ⟨_, hT, rfl, _, rfl⟩⟩
    have I1 : Inv X pins σ (upd H s.heap.objs.size (.tup [x, y])) { s with heap := h' } :=
      I.turnedNew (t' := s.toks) (ch := [z, TI, TO, i1, i2]) (fun c o hb q => hk c o (fun q' => hb (by simp [q'])) (fun q' => hb (by simp [q'])) (fun q' => hb (by simp [q'])) (fun q' => hb (by simp [q'])) q) hf (Nat.le_refl _) new
    refine ⟨.ref s.heap.objs.size, _, I1, rfl, ⟨_, x, y, rfl, I.hok.fresh (Nat.le_refl _), rfl, fun l hl => by rw [I.list_inj hl hqx]; exact hx, fun l hl => by rw [I.list_inj hl hqy]; exact hy⟩, ⟨z', ?_, TO', h1', h2'⟩, fun c hcm => ?_⟩
    · exact hk _ _ D.TIz D.TITO D.TIi1 D.TIi2 hTI
    · have hlt : c < s.heap.objs.size := by
        have e' : c = z ∨ c = TI ∨ c = TO ∨ c = i1 ∨ c = i2 := by simpa using hcm
        rcases e' with q | q | q | q | q
        · rw [q]; exact hzl
        · rw [q]; exact Heap.lt_size hTI
        · rw [q]; exact Heap.lt_size hTO
        · rw [q]; obtain ⟨_, e1, _⟩ := h1; exact Heap.lt_size e1
        · rw [q]; obtain ⟨_, e2, _⟩ := h2; exact Heap.lt_size e2
      rw [upd_ne (Nat.ne_of_lt hlt)]
      exact (hf c hcm).1
  done := by
    intro X hP hw hK hc i pins s σ H E I hf st hg
    subst hP hw hK
    obtain ⟨hz, hTI, ⟨x0, y0, hTO⟩, h1, h2⟩ := st
    obtain ⟨xs, ys, hqx, hqy, hend⟩ := hg
    obtain ⟨its, rv, p, _⟩ := I.list hqx
    obtain ⟨its2, rv2, p2, _⟩ := I.list hqy
    have l1 := rv.length
    have l2 := rv2.length
    have he : its.toArray[i]? = none ∨ its2.toArray[i]? = none := by
      rcases hend with q | q
      · exact .inl (by simp; omega)
      · exact .inr (by simp; omega)
    exact nextN_end (I.ok.hd hc) D hz hTI hTO h1 h2 p.isList p2.isList he fun h' hk => ⟨rfl, I.turnedL (t' := s.toks) (ch := [z, TI, TO, i1, i2]) (fun c o hb q =>
      hk c o (fun q' => hb (by simp [q'])) (fun q' => hb (by simp [q'])) (fun q' => hb (by simp [q'])) (fun q' => hb (by simp [q'])) q) hf⟩
  self := fun A i s Q E st h => by
    obtain ⟨⟨f0, f1, hz, _⟩, _⟩ := st
    have hT : s.TypeIs (.ref z) "zip" := ⟨_, hz, rfl⟩
    refine wpAny_pyIter_slot hT F.slot_zip_iter (wpAny_call_entry F.slot_zip_iter hT F.entry_zip_iter ?_ (F.args_zip_iter_1 _))
    show wpAny _ _ (ret (.ref z)) _ _ s
    exact wpAny_pure ⟨_, rfl, "zip", _, hT, F.slot_zip_next.lookup, h⟩
theorem pi_zipN {X : Cx} {e e2 : Expr} {ta : TA} {p pos tpos : Pos} {nm : Str} (hg : Gl X "zip") (hm : X.mg "zip" = none) (ha : PA X [e, e2] ta)
    (hs : starEach [e, e2] X.env = (false, eval e X.env) :: starEach [e2] X.env := by rfl) (hpl : (backTo pos (starEach [e2] X.env)).any (·.1) = false := by rfl) :
    PI X (.Name nm tpos) (.Call (.Name "zip" p) [e, e2] [] pos) (iZip X.K ta) := by
  refine ⟨fun pins s σ H R I h => ?_⟩
  refine Call_ (ld_blt I hg hm PyProof.Rows.boot_zip (PyProof.Rows.callWith_type1 (thn (ha.run pos pins s σ H _ I h) fun us s1 ⟨vs, H1, I1, r1, q1⟩ => ?_) hs hpl))
  obtain ⟨a, b, xs, ys, rfl, hqx, hqy, q⟩ := q1
  obtain ⟨u1, u2, rfl, r, r'⟩ := vals2 r1
  cases r
  cases r'
  obtain ⟨its, rv, p1, _⟩ := I1.list hqx
  obtain ⟨its2, rv2, p2, _⟩ := I1.list hqy
  have la : a < s1.heap.objs.size := p1.lt
  have lb : b < s1.heap.objs.size := p2.lt
  refine call_zip_2 p1.isList p2.isList fun h' hz hTI hTO h1 h2 hsz hk => wpAny_pyIter_zip hz ?_
  have I2 : Inv X pins σ H1 { s1 with heap := h' } := I1.kept (t' := s1.toks) hk
  refine ⟨s1.heap.objs.size + 4, [s1.heap.objs.size + 4, s1.heap.objs.size + 2, s1.heap.objs.size + 3, s1.heap.objs.size, s1.heap.objs.size + 1], _, _, H1, rfl, I2, turn_zipN (fun _ _ => rfl) (PySem.W.ktu_apart s1.heap.objs.size a b la lb), ⟨⟨_, _, hz, .inl rfl⟩, hTI, ⟨_, _, hTO⟩, h1, h2⟩, fun c hcm => ?_, q⟩
  have e' : c = s1.heap.objs.size + 4 ∨ c = s1.heap.objs.size + 2 ∨ c = s1.heap.objs.size + 3 ∨ c = s1.heap.objs.size ∨ c = s1.heap.objs.size + 1 := by simpa using hcm
  have hle : s1.heap.objs.size ≤ c := by
    rcases e' with z | z | z | z | z <;> rw [z] <;> first | exact Nat.le_refl _ | exact Nat.le_add_right _ _
  exact I1.fpOk hle (I1.hok.fresh hle)
end HF
/-! rings, or not -/
namespace HF
open PySem PySem.Spec PyProof.Rows L2
theorem strs_of : ∀ {ds : List PyData}, ds.all isStr = true → ds = (ds.map strD).map PyData.str
  | [], _ => rfl
  | d :: r, h => by
    rw [List.all_cons, Bool.and_eq_true] at h
    have e := strs_of h.2
    cases d with
    | str z =>
      rw [List.map_cons, List.map_cons, ← e]
      rfl
    | _ => exact nomatch h.1
theorem fst_strs {A : Addr → Prop} {H : Hp} : ∀ {zs : List (V × PyData)}, (∀ z ∈ zs, Dq A H z.1 z.2) → (zs.map Prod.snd).all isStr = true → zs.map Prod.fst = ((zs.map Prod.snd).map strD).map V.str
  | [], _, _ => rfl
  | z :: r, hz, h => by
    rw [List.map_cons, List.all_cons, Bool.and_eq_true] at h
    have e := fst_strs (fun y hy => hz y (List.mem_cons_of_mem _ hy)) h.2
    have hq := hz z List.mem_cons_self
    rw [List.map_cons, List.map_cons, List.map_cons, List.map_cons, ← e]
    congr 1
    obtain ⟨v, d⟩ := z
    cases d with
    | str s =>
      cases hq
      rfl
    | _ => exact nomatch h.1
def cyc (ls : List Str) : List (Str × Str) := ls.zip (ls.tail ++ ls.take 1)
theorem cyc_snoc {ms : List Str} {y : Str} {p : Str × Str} : p ∈ (y :: (ms ++ [y])).zip (ms ++ [y]) ↔ p ∈ cyc (ms ++ [y]) := by
  unfold cyc
  cases h : ms ++ [y] with
  | nil => simp at h
  | cons x r =>
    have hl : ms.length = r.length := by
      have := congrArg List.length h
      simp at this
      omega
    have e1 : (y :: x :: r).zip (x :: r) = (y, x) :: (x :: r).zip r := rfl
    have e2 : (x :: r).zip r = ms.zip r := by
      have : (ms ++ [y]).zip (r ++ []) = ms.zip r ++ [y].zip [] := List.zip_append hl
      rw [List.append_nil, h] at this
      rw [this]
      simp
    have e3 : (x :: r).zip ((x :: r).tail ++ (x :: r).take 1) = ms.zip r ++ [(y, x)] := by
      show (x :: r).zip (r ++ [x]) = _
      rw [← h]
      exact List.zip_append hl
    rw [e1, e2, e3, List.mem_cons, List.mem_append, List.mem_singleton]
    exact or_comm
def isRingB (qs : List (Str × Str)) : PyData → Bool
  | .list ds => decide (2 ≤ ds.length) && (ds.all isStr && (decide ((ds.map strD).Nodup) && (cyc (ds.map strD)).all fun p => decide (p ∈ qs)))
  | _ => false
theorem ring_not {qs : List (Str × Str)} {d : PyData} (h : isLst d = false) : isRingB qs d = false := by
  cases d with
  | list ds => exact nomatch h
  | _ => rfl
theorem count_any {ls : List Str} : (ls.any fun x => decide ((1 : Int) < ((ls.count x : Nat) : Int))) = !decide ls.Nodup := by
  rw [Bool.eq_iff_iff, List.any_eq_true, Bool.not_eq_true', decide_eq_false_iff_not]
  constructor
  · rintro ⟨x, hx, h⟩ hn
    have h1 := List.nodup_iff_count.mp hn x
    have h2 := of_decide_eq_true h
    omega
  · intro h
    refine Classical.byContradiction fun hc => h (List.nodup_iff_count.mpr fun x => ?_)
    by_cases hx : x ∈ ls
    · refine Classical.byContradiction fun hc2 => hc ⟨x, hx, decide_eq_true ?_⟩
      omega
    · rw [List.count_eq_zero_of_not_mem hx]
      omega
section
variable {X : Cx}
/-- l.count(x), of texts -/
def rCntL (K : PySem.W.Frag) : V → List V → Hp → VK → Prop := fun x vs H Q => ∃ (a : Addr) (ls : List Str) (z : Str), x = .ref a ∧ vs = [.str z] ∧ SqL K H a (ls.map V.str) ∧ Q (.int ((ls.count z : Nat) : Int)) H
theorem mt_lcount (hu : X.A.units + 64 < cLine) : MtR X "list.count" (rCntL X.K) := by
  intro pins s σ H x vs v us Q I rx rvs hyp
  obtain ⟨a, ls, z, rfl, rfl, hq, q⟩ := hyp
  cases rx
  obtain ⟨u, rfl, ru⟩ := vals1 rvs
  have hdp : Dp X.K H (.ref a) (.list (ls.map PyData.str)) := .lst hq (dp_strs ls)
  obtain ⟨as, r1⟩ := Dp.reads I _ _ _ hdp rfl
  obtain ⟨bs, r2⟩ := Dp.reads I (.str z) (.str z) u (.str z) ru
  cases r1 with
  | list h1 h2 h3 h4 =>
    refine SeqAt.count_list_data (xs := ls.map PyData.str) ⟨_, h1, h2, _, h3⟩ h4 r2 (plain_strs ls) rfl (by rw [depth_strs]; simp; omega) ⟨.int _, H, I.tok _, ⟨_, rfl⟩, ?_⟩
    rw [countP_strs]
    exact q
/-- l.count(x) in a comprehension -/
theorem pe_cntL {K : PySem.W.Frag} {o e : Expr} {es : List Expr} {to : TE} {t : TA} {apos cpos : Pos} (hK : X.K = K) (hu : X.A.units + 64 < cLine) (ho : PE X o to) (ha : PA X (e :: es) t)
    (hbase : attributeBase o "count" X.env (eval o X.env) = eval o X.env := by rfl)
    (hfew : ((backTo cpos (starEach (e :: es) X.env)).all (fun x => !x.1) && (backToKw cpos (keywordEach [] X.env)).all (fun x => x.1.isSome)
      && decide ((e :: es).length + ([] : List Keyword).length + (if ([] : List Keyword).isEmpty then 0 else 1) < 30)) = true := by rfl)
    (hline : (apos.endLine == cpos.line) = true := by rfl) (hs : starEach (e :: es) X.env = (false, eval e X.env) :: starEach es X.env := by rfl) (hplain : (backTo cpos (starEach es X.env)).any (·.1) = false := by rfl) :
    PE X (.Call (.Attribute o "count" apos) (e :: es) [] cpos) (tBM K "list" (rCntL K) to t) := by
  subst hK
  exact pe_bm PySem.F.plainAttrs_list PySem.F.slot_list_count PySem.F.type_list_count (mt_lcount hu) ho ha hbase hfew hline hs hplain
end
theorem row_any {L : SL} {zs : List Str} (hok : ∀ p ∈ L, OkP zs p) {a b : Str} : ((L.map dRow).any fun z => PyData.eqv z (.tuple [.str a, .str b])) = decide ((a, b) ∈ L.map prOf) := by
  rw [Bool.eq_iff_iff, List.any_eq_true, decide_eq_true_iff]
  have key : ∀ p ∈ L, (PyData.eqv (dRow p) (.tuple [.str a, .str b]) = true ↔ prOf p = (a, b)) := fun p hp => by
    obtain ⟨x, y, e, _⟩ := hok p hp
    have e1 : dRow p = .tuple [.str x, .str y] := by
      show PyData.tuple (p.2.map PyData.str) = _
      rw [e]
      rfl
    have e2 : prOf p = (x, y) := by
      unfold prOf
      rw [e]
    rw [e1, e2]
    show ((x == a) && ((y == b) && true)) = true ↔ _
    rw [Bool.and_true, Bool.and_eq_true, beq_iff_eq, beq_iff_eq, Prod.mk.injEq]
  constructor
  · rintro ⟨d, hd, h⟩
    obtain ⟨p, hp, rfl⟩ := List.mem_map.mp hd
    exact List.mem_map.mpr ⟨p, hp, (key p hp).mp h⟩
  · intro h
    obtain ⟨p, hp, e⟩ := List.mem_map.mp h
    exact ⟨_, List.mem_map_of_mem hp, (key p hp).mpr e⟩
theorem cut_tl {ls : List Str} (h : 1 ≤ ls.length) : cutV (ls.map V.str) (some 1) none = ls.tail.map V.str := by
  unfold cutV
  rw [HT.sIx_none, show (1 : Int) = ((1 : Nat) : Int) from rfl, HT.sIx_nat, Nat.min_eq_left (by rw [List.length_map]; omega), List.take_of_length_le (by rw [List.length_drop]; omega), ← List.map_drop, List.drop_one]
theorem cut_hd {ls : List Str} (h : 1 ≤ ls.length) : cutV (ls.map V.str) none (some 1) = (ls.take 1).map V.str := by
  unfold cutV
  rw [HT.sIx_none, show (1 : Int) = ((1 : Nat) : Int) from rfl, HT.sIx_nat, List.drop_zero, Nat.sub_zero, List.map_take]
  rw [Nat.min_eq_left (by rw [List.length_map]; omega)]
theorem cyc_len {ls : List Str} (h : 1 ≤ ls.length) : (cyc ls).length = ls.length ∧ (ls.tail ++ ls.take 1).length = ls.length := by
  have e : (ls.tail ++ ls.take 1).length = ls.length := by
    rw [List.length_append, List.length_tail, List.length_take]
    omega
  refine ⟨?_, e⟩
  unfold cyc
  rw [List.length_zip, e, Nat.min_self]
variable (K : PySem.W.Frag)
def spShowA : Sp := fun vs H Q _ => ∃ (r : Addr) (A : Addr → Prop) (x : V) (d : PyData) (qs : List (Str × Str)), vs = [.ref r, x] ∧ PqA K H r qs ∧ Dq A H x d ∧ Gd 6 1000 d ∧ qs.length ≤ 1000 ∧ ∀ H' : Hp, Same H H' → Q (.bl (isRingB qs d)) H'
def spRingL : Sp := fun vs H Q _ => ∃ (r : Addr) (zs : List Str) (L : SL) (A : Addr → Prop) (x : V) (d : PyData), vs = [.ref r, x] ∧ Ties zs H r L ∧ (∀ z ∈ zs, Nm z) ∧ L.length ≤ 200 ∧ Dq A H x d ∧ Gd 6 1000 d ∧ ∀ H' : Hp, Same H H' → Q (.bl (isRingB (L.map prOf) d)) H'
end HF
namespace HF
open PySem PySem.Spec PyProof.Rows L2
def gk2 {α : Type} : List α → List α → List α
  | [], [x, y] => [x, y]
  | _, _ => []
theorem gk2_rel {vs : List V} {us : List Value} {zs : List V} {ws : List Value} (h1 : Vals vs us) (h2 : Vals zs ws) : Vals (gk2 vs zs) (gk2 us ws) := by
  cases h1 with
  | cons _ _ => cases h2 <;> exact .nil
  | nil =>
    cases h2 with
    | nil => exact .nil
    | cons a t =>
      cases t with
      | nil => exact .nil
      | cons b t2 =>
        cases t2 with
        | nil => exact .cons a (.cons b .nil)
        | cons _ _ => exact .nil
/-- a thing at hand, asked by no method -/
structure Tg (A : Addr → Prop) (H : Hp) (z : V × PyData) : Prop where
  dq : Dq A H z.1 z.2
  gd : Gd 6 1000 z.2
  wt : z.2.weight ≤ 100000
theorem Tg.oth {A : Addr → Prop} {H H' : Hp} {z : V × PyData} (h : Tg A H z) (o : OthA A H H') : Tg A H' z := ⟨h.dq.oth o, h.gd, h.wt⟩
theorem Tg.same {A : Addr → Prop} {H H' : Hp} {z : V × PyData} (h : Tg A H z) (s : Same H H') : Tg A H' z := h.oth (OthA.of s)
theorem Tg.fine {A : Addr → Prop} {H : Hp} {z : V × PyData} (h : Tg A H z) : Fine 6 1000 100000 z.2 := h.gd.fine h.wt
theorem tg_lst {A : Addr → Prop} {H : Hp} {a : Addr} {zs : List Str} (h : H a = some (.lst (zs.map V.str))) (n : ¬ A a) (hn : ∀ z ∈ zs, Sg z ∧ z.cps.size ≤ 6) (hl : zs.length ≤ 100) : Tg A H (.ref a, .list (zs.map PyData.str)) := by
  refine ⟨Dq.lstS n h, (Gd.list (m := 0) (w := 100) (fun d hd => ?_) (by rw [List.length_map]; exact hl)).mono (by decide) (by decide), ?_⟩
  · obtain ⟨z, hz, rfl⟩ := List.mem_map.mp hd
    exact gd_str (hn z hz).1
  · have := weight_strs2 (n := 6) fun z hz => (hn z hz).2
    show PyData.weightAll (zs.map PyData.str) ≤ 100000
    omega
theorem tg_tup {A : Addr → Prop} {H : Hp} {a : Addr} {zs : List Str} (h : TsA H a (zs.map V.str)) (n : ¬ A a) (hn : ∀ z ∈ zs, Sg z ∧ z.cps.size ≤ 6) (hl : zs.length ≤ 100) : Tg A H (.ref a, .tuple (zs.map PyData.str)) := by
  refine ⟨Dq.tupS n h, (Gd.tuple (m := 0) (w := 100) (fun d hd => ?_) (by rw [List.length_map]; exact hl)).mono (by decide) (by decide), ?_⟩
  · obtain ⟨z, hz, rfl⟩ := List.mem_map.mp hd
    exact gd_str (hn z hz).1
  · have := weight_strs2 (n := 6) fun z hz => (hn z hz).2
    show PyData.weightAll (zs.map PyData.str) ≤ 100000
    omega
theorem nm6 {zs : List Str} (h : ∀ z ∈ zs, Nm z) : ∀ z ∈ zs, Sg z ∧ z.cps.size ≤ 6 := fun z hz => ⟨(h z hz).sg, nm_size (h z hz)⟩
def z11 (zs : List Str) (x : Str) (L0 T0 L1 T1 L3 L4 L5 L6 : Addr) : List (V × PyData) := [(.ref L0, .list []), (.ref T0, .tuple []), (.non, .none), (.int 0, .int 0), (.str "a", .str "a"), (.ref L1, .list (zs.map PyData.str)), (.ref T1, .tuple (zs.map PyData.str)), (.ref L3, .list [.list [.str "a", .str "b"]]), (.ref L4, .list [.str x]), (.ref L5, .list [.str x, .str x]), (.ref L6, .list [.str "A", .str "b"])]
theorem z11_ok {A : Addr → Prop} {zs : List Str} {x : Str} {L0 T0 L1 T1 L2 L3 L4 L5 L6 : Addr} {H : Hp} (hn : ∀ z ∈ zs, Nm z) (hz : zs.length ≤ 12) (hx : Nm x)
    (n0 : ¬ A L0) (h0 : H L0 = some (.lst [])) (n1 : ¬ A T0) (h1 : H T0 = some (.tup [])) (n2 : ¬ A L1) (h2 : H L1 = some (.lst (zs.map V.str))) (n3 : ¬ A T1) (h3 : Tp H T1 (zs.map V.str))
    (n4 : ¬ A L2) (h4 : H L2 = some (.lst [.str "a", .str "b"])) (n5 : ¬ A L3) (h5 : H L3 = some (.lst [.ref L2])) (n6 : ¬ A L4) (h6 : H L4 = some (.lst [.str x])) (n7 : ¬ A L5) (h7 : H L5 = some (.lst [.str x, .str x])) (n8 : ¬ A L6) (h8 : H L6 = some (.lst [.str "A", .str "b"])) :
    ∀ z ∈ z11 zs x L0 T0 L1 T1 L3 L4 L5 L6, Tg A H z := by
  have sg : ∀ z ∈ (["a", "b", "A"] : List Str), Sg z ∧ z.cps.size ≤ 6 := fun z hz => by
    simp only [List.mem_cons, List.not_mem_nil, or_false] at hz
    rcases hz with rfl | rfl | rfl
    · exact ⟨sgB (by decide +kernel), by decide +kernel⟩
    · exact ⟨sgB (by decide +kernel), by decide +kernel⟩
    · exact ⟨sgB (by decide +kernel), by decide +kernel⟩
  have sub : ∀ {l : List Str}, (∀ z ∈ l, z ∈ (["a", "b", "A"] : List Str)) → ∀ z ∈ l, Sg z ∧ z.cps.size ≤ 6 := fun h z hz => sg z (h z hz)
  have sx : ∀ {l : List Str}, (∀ z ∈ l, z = x) → ∀ z ∈ l, Sg z ∧ z.cps.size ≤ 6 := fun h z hz => by rw [h z hz]; exact ⟨hx.sg, nm_size hx⟩
  have t2 : Tg A H (.ref L2, .list ((["a", "b"] : List Str).map PyData.str)) := tg_lst h4 n4 (sub (by decide +kernel)) (by decide)
  intro z hz
  unfold z11 at hz
  simp only [List.mem_cons, List.not_mem_nil, or_false] at hz
  rcases hz with rfl | rfl | rfl | rfl | rfl | rfl | rfl | rfl | rfl | rfl | rfl
  · exact tg_lst (zs := []) h0 n0 (fun z hz => nomatch hz) (by decide)
  · exact tg_tup (zs := []) (.inl h1) n1 (fun z hz => nomatch hz) (by decide)
  · exact ⟨.non, gd_none, by decide⟩
  · exact ⟨.int _, gd_int (by decide +kernel) (by decide +kernel), by decide +kernel⟩
  · exact ⟨.str _, gd_str (sg "a" (by decide +kernel)).1, by decide +kernel⟩
  · exact tg_lst h2 n2 (nm6 hn) (by omega)
  · exact tg_tup (.inr h3) n3 (nm6 hn) (by omega)
  · refine ⟨.lst (zs := [(.ref L2, .list [.str "a", .str "b"])]) n5 h5 (fun z hz => ?_), (Gd.list (m := 5) (w := 1000) (fun d hd => ?_) (by decide)), (by decide +kernel : (PyData.list [.list [.str "a", .str "b"]]).weight ≤ 100000)⟩
    · rw [List.mem_singleton.mp hz]
      exact t2.dq
    · rw [List.mem_singleton.mp hd]
      refine (Gd.list (m := 0) (w := 10) (ds := [.str "a", .str "b"]) (fun x hx => ?_) (by decide)).mono (by decide) (by decide)
      rcases List.mem_cons.mp hx with rfl | hx
      · exact gd_str (sg "a" (by decide +kernel)).1
      · rw [List.mem_singleton.mp hx]
        exact gd_str (sg "b" (by decide +kernel)).1
  · exact tg_lst (zs := [x]) h6 n6 (sx fun z hz => List.mem_singleton.mp hz) (Nat.le_of_ble_eq_true rfl)
  · exact tg_lst (zs := [x, x]) h7 n7 (sx fun z hz => by simpa using hz) (Nat.le_of_ble_eq_true rfl)
  · exact tg_lst (zs := ["A", "b"]) h8 n8 (sub (by decide +kernel)) (by decide)
theorem cut_drop {ls : List Str} {n : Nat} (h : n ≤ ls.length) : cutV (ls.map V.str) (some (n : Int)) none = (ls.drop n).map V.str := by
  unfold cutV
  rw [HT.sIx_none, HT.sIx_nat, Nat.min_eq_left (by rw [List.length_map]; omega), List.take_of_length_le (by rw [List.length_drop]; omega), ← List.map_drop]
theorem cut_take {ls : List Str} {n : Nat} (h : n ≤ ls.length) : cutV (ls.map V.str) none (some (n : Int)) = (ls.take n).map V.str := by
  unfold cutV
  rw [HT.sIx_none, HT.sIx_nat, Nat.min_eq_left (by rw [List.length_map]; omega), List.drop_zero, Nat.sub_zero, List.map_take]
theorem rep_two (ls : List Str) : (List.replicate (2 : Int).toNat (ls.map V.str)).flatten = (ls ++ ls).map V.str := by
  show (ls.map V.str) ++ ((ls.map V.str) ++ []) = _
  rw [List.append_nil, List.map_append]
end HF
namespace HF
open PySem PySem.Spec PyProof.Rows L2
/-! ### walks over what is a list or a tuple -/
section
variable {X : Cx}
def SeqIt (K : PySem.W.Frag) (H : Hp) (a : Addr) (R : It → Hp → Prop) : Prop := ∃ xs, (SqL K H a xs ∧ R (Itl K a) H) ∨ (SqT K H a xs ∧ R (Itt K a) H)
def iSeq (K : PySem.W.Frag) (tl : TE) : TI := fun σ H R => tl σ H fun v H1 => ∃ c, v = .ref c ∧ SeqIt K H1 c R
theorem pi_seq {tg e : Expr} {tl : TE} (he : PE X e tl) : PI X tg e (iSeq X.K tl) := by
  refine ⟨fun pn st σ H R J hyp => thn (he.run pn st σ H _ J hyp) ?_⟩
  rintro val t1 ⟨y, G, J1, rel, c, rfl, xs, way⟩
  cases rel
  have fresh : FpOk X pn G t1.heap.objs.size := J1.fpOk (Nat.le_refl _) (J1.hok.fresh (Nat.le_refl _))
  have pins : ∀ d ∈ [t1.heap.objs.size], FpOk X pn G d := fun d hd => by
    rw [List.mem_singleton.mp hd]
    exact fresh
  rcases way with ⟨sq, got⟩ | ⟨sq, got⟩
  · obtain ⟨items, _, isl, _⟩ := J1.list sq
    exact wpAny_pyIter_list isl.isList ⟨_, _, _, _, G, rfl, J1.kept (t' := t1.toks) (fun d o h => Heap.get?_push_of_some _ h), turn_list c _, ⟨_, Heap.get?_push_size _ rfl, rfl, rfl⟩, pins, got⟩
  · obtain ⟨items, _, ist, _⟩ := J1.tuple sq
    exact wpAny_pyIter_tuple (show t1.heap.IsTuple c items.toArray from ist) ⟨_, _, _, _, G, rfl, J1.kept (t' := t1.toks) (fun d o h => Heap.get?_push_of_some _ h), turn_tuple c _, ⟨_, Heap.get?_push_size _ rfl, rfl, rfl⟩, pins, got⟩
theorem iseq {K : PySem.W.Frag} {a : Addr} {xs : List V} {H : Hp} {R : It → Hp → Prop} (hq : Sq K H a xs) (h : ∀ J, Walk J xs.length (Kp K a H) (YAt xs) → R J H) : SeqIt K H a R := by
  rcases hq with hq | hq
  · exact ⟨xs, .inl ⟨hq, h _ ((walk_list (xs := xs)).mono (fun G k => k.1 _ hq) fun _ _ _ _ _ _ y => y)⟩⟩
  · exact ⟨xs, .inr ⟨hq, h _ ((walk_tup (xs := xs)).mono (fun G k => k.2 _ hq) fun _ _ _ _ _ _ y => y)⟩⟩
def gSeq (K : PySem.W.Frag) (n : Nat) (t : TGs) : TG := fun v σ H Q => ∃ a xs, v = .ref a ∧ Sq K H a xs ∧ xs.length = n ∧ t xs σ H Q
theorem pg_seq {es : List Expr} {k : Nat} {t : TGs} {n : Nat} {pos : Pos} (hc : X.calm = true) (h : PGs X es t) (hn : (assignEach es X.env).length = n := by rfl) (hst : (assignEach es X.env).findIdx? (·.1) = none := by rfl) : PG X (.Tuple es k pos) (gSeq X.K n t) := by
  refine ⟨fun pins s σ H v u Q I r hw => ?_⟩
  obtain ⟨a, xs, e, sq, l, q⟩ := hw
  rcases sq with sq | sq
  · exact (pg_unl hc h hn hst).run pins s σ H v u Q I r ⟨a, xs, e, sq, l, q⟩
  · exact (pg_tup hc h hn hst).run pins s σ H v u Q I r ⟨a, xs, e, sq, l, q⟩
def rSlQ (K : PySem.W.Frag) : V → Option Int → Option Int → Hp → VK → Prop := fun x lo hi H Q => ∃ a xs, x = .ref a ∧ Sq K H a xs ∧ ∀ b H', Same H H' → Sq K H' b (cutV xs lo hi) → Q (.ref b) H'
theorem sl_seq : SlR X (rSlQ X.K) := by
  intro pins s σ H x v vl vu lo hi sl Q I rx hs pl pu h
  obtain ⟨a, xs, e, sq, q⟩ := h
  rcases sq with sq | sq
  · exact sl_list pins s σ H x v vl vu lo hi sl Q I rx hs pl pu ⟨a, xs, e, sq, fun p np => q p _ (same_upd np) (.inl (.inl (.inl upd_same)))⟩
  · exact sl_tupW pins s σ H x v vl vu lo hi sl Q I rx hs pl pu ⟨a, xs, e, sq, fun p H' sm hq => q p H' sm (.inr hq)⟩
def tRevQ (K : PySem.W.Frag) (te : TE) (k : Nat) : TE := oE (tRevL K te) (tRevT K te)
theorem rev_seq {K : PySem.W.Frag} {k : Nat} {a : Addr} {xs : List V} {σ : L2.St} {H : Hp} {Q : VK} (hv : σ[k]? = some (some (.ref a))) (hq : Sq K H a xs) (h : ∀ b H', H b = none → Same H H' → Sq K H' b xs.reverse → Q (.ref b) H') : oE (tRevL K (tVar k)) (tRevT K (tVar k)) σ H Q := by
  rcases hq with hq | hq
  · exact .inl ⟨.ref a, hv, a, xs, rfl, hq, fun p np => h p _ np (same_upd np) (.inl (.inl (.inl upd_same)))⟩
  · exact .inr ⟨.ref a, hv, a, xs, rfl, hq, fun p ob np _ _ => h p _ np (same_upd np) (.inr (.inl (.inr ⟨ob, upd_same⟩)))⟩
end
/-! ### pairs in lists or tuples -/
def Pz (K : PySem.W.Frag) (H : Hp) (r : Addr) (qs : List (Str × Str)) : Prop := ∃ as : List Addr, Sq K H r (as.map V.ref) ∧ as.length = qs.length ∧ ∀ (i : Nat) (a : Addr) (q : Str × Str), as[i]? = some a → qs[i]? = some q → Sq K H a [.str q.1, .str q.2]
theorem PqA.pz {K : PySem.W.Frag} {H : Hp} {r : Addr} {qs : List (Str × Str)} (h : PqA K H r qs) : Pz K H r qs := by
  rcases h with ⟨as, h1, h2, h3⟩ | ⟨as, h1, h2, h3⟩ | ⟨as, h1, h2, h3⟩
  · exact ⟨as, .inr h1, h2, fun i a q e f => .inr (h3 i a q e f)⟩
  · exact ⟨as, .inl h1, h2, fun i a q e f => .inl (h3 i a q e f)⟩
  · exact ⟨as, h1, h2, h3⟩
theorem Pz.same {K : PySem.W.Frag} {H H' : Hp} {r : Addr} {qs : List (Str × Str)} (h : Pz K H r qs) (s : Same H H') : Pz K H' r qs := by
  obtain ⟨as, h1, h2, h3⟩ := h
  exact ⟨as, sameQ s h1, h2, fun i a q e f => sameQ s (h3 i a q e f)⟩
/-! ### dicts of numbers by books, of books by books -/
abbrev dkv (zs : List Str) (h : Str → Int) : List (Key × V) := zs.map fun x => ((Sum.inr x : Key), V.int (h x))
def DH (H : Hp) (D : Addr) (zs : List Str) (h : Str → Int) : Prop := H D = some (.dK (dkv zs h))
theorem dkv_put {zs : List Str} {h : Str → Int} {x : Str} {n : Int} (hx : x ∈ zs) : putK (dkv zs h) (Sum.inr x) (.int n) = dkv zs (setF h x n) := by
  unfold putK
  rw [if_pos (by
    rw [List.any_eq_true]
    exact ⟨(Sum.inr x, .int (h x)), List.mem_map.mpr ⟨x, hx, rfl⟩, decide_eq_true rfl⟩), List.map_map]
  refine List.map_congr_left fun y _ => ?_
  show (if (Sum.inr y : Key) = Sum.inr x then ((Sum.inr y : Key), V.int n) else (Sum.inr y, V.int (h y))) = (Sum.inr y, V.int (setF h x n y))
  unfold setF
  by_cases e : y = x
  · rw [e, if_pos rfl, if_pos rfl]
  · rw [if_neg e, if_neg (fun z => e (Sum.inr.inj z))]
theorem dkv_len (zs : List Str) (h : Str → Int) : (dkv zs h).length = zs.length := List.length_map ..
theorem DH.get {H : Hp} {D : Addr} {zs : List Str} {h : Str → Int} {x : Str} (d : DH H D zs h) (hx : x ∈ zs) : DGet H D (.str x) (some (.int (h x))) := by
  have := DGet.k (k := (Sum.inr x : Key)) d
  rw [keys_at (g := fun x => V.int (h x)) hx] at this
  exact this
theorem DH.put {H : Hp} {D : Addr} {zs : List Str} {h : Str → Int} {x : Str} {n : Int} (d : DH H D zs h) (hx : x ∈ zs) (few : zs.length ≤ 1000) : DPut H D (.str x) (.int n) (upd H D (.dK (dkv zs (setF h x n)))) := by
  have := DPut.k (k := (Sum.inr x : Key)) (v := .int n) d (by rw [dkv_len, sizeLine_eq]; omega)
  rw [dkv_put hx] at this
  exact this
def DC (H : Hp) (D : Addr) (c : Str → Option Str) (n : Nat) : Prop := ∃ kvs : List (Key × V), H D = some (.dK kvs) ∧ kvs.length ≤ n ∧ ∀ x : Str, valV kvs (Sum.inr x) = (c x).map V.str
theorem DC.get {H : Hp} {D : Addr} {c : Str → Option Str} {n : Nat} {x y : Str} (d : DC H D c n) (hx : c x = some y) : DGet H D (.str x) (some (.str y)) := by
  obtain ⟨kvs, e, l, v⟩ := d
  have := DGet.k (k := (Sum.inr x : Key)) e
  rw [v, hx] at this
  exact this
theorem DC.put {H : Hp} {D : Addr} {c : Str → Option Str} {n : Nat} {x y : Str} (d : DC H D c n) (few : n ≤ 1000000) : ∃ H', H' = upd H D (H' D |>.getD (.dK [])) ∧ DPut H D (.str x) (.str y) H' ∧ DC H' D (setF c x (some y)) (n + 1) ∧ ∀ b, b ≠ D → H' b = H b := by
  obtain ⟨kvs, e, l, v⟩ := d
  refine ⟨upd H D (.dK (putK kvs (Sum.inr x) (.str y))), by rw [upd_same]; rfl, DPut.k (k := (Sum.inr x : Key)) e (by rw [sizeLine_eq]; omega), ⟨_, upd_same, Nat.le_trans (length_putK _ _ _) (Nat.succ_le_succ l), fun z => ?_⟩, fun b hb => upd_ne hb⟩
  rw [valV_put]
  unfold setF
  by_cases ez : z = x
  · rw [if_pos ez, if_pos (by rw [ez])]
    rfl
  · rw [if_neg ez, if_neg (fun q => ez (Sum.inr.inj q)), v]
/-! ### {x: 0 for x in xs} -/
theorem dc_nil {K : PySem.W.Frag} {k j : Nat} {a : Addr} {zs : List Str} {σ : L2.St} {H : Hp} {Q : VK} (hv : σ[k]? = some (some (.ref a))) (hq : Sq K H a (zs.map V.str)) (nd : zs.Nodup) (few : zs.length ≤ 1000)
    (hw : ∀ x : V, wipe ((wipe σ [j]).set j (some x)) [j] = wipe σ [j]) (hx : ∀ x : V, ((wipe σ [j]).set j (some x))[j]? = some (some x))
    (hd : ∀ D H', H D = none → Same H H' → DH H' D zs (fun _ => 0) → Q (.ref D) H') : tDc (iSeq K (tVar k)) (gName j) tYes (tVar j) (tC (.int 0)) [j] σ H Q := by
  refine ⟨.ref a, hv, a, rfl, iseq hq fun J wkk D nD => dc_it wkk (fun i H4 => DH H4 D (zs.take i) (fun _ => 0) ∧ Same H H4) ⟨upd_same, same_upd nD⟩ (fun i H4 _ h => Kp.of h.2) ?_ ?_⟩
  · rintro i v H4 H5 hi ⟨hD, s4⟩ ⟨rfl, hv2⟩
    rw [List.getElem?_map] at hv2
    obtain ⟨x, hxi, rfl⟩ := Option.map_eq_some_iff.mp hv2
    have nx : x ∉ zs.take i := fun z => by
      have h1 := (mem_take_pos (Nat.le_of_lt (by rw [List.length_map] at hi; exact hi))).mp z
      rw [pos_at nd hxi] at h1
      omega
    refine ⟨hw _, .str x, hx _, _, Sum.inr x, rfl, hD, by rw [dkv_len, List.length_take, sizeLine_eq]; omega, ?_, same_put s4 nD⟩
    have e : putK (dkv (zs.take i) (fun _ => 0)) (Sum.inr x) (.int 0) = dkv (zs.take (i + 1)) (fun _ => 0) := by
      rw [putK_new _ (keys_out (g := fun _ => V.int 0) nx), List.take_add_one, hxi]
      show _ = dkv (zs.take i ++ [x]) _
      rw [show dkv (zs.take i ++ [x]) (fun _ => 0) = dkv (zs.take i) (fun _ => 0) ++ [(Sum.inr x, V.int 0)] from List.map_append]
    show (upd H5 D _) D = _
    rw [upd_same, e]
  · rintro H4 ⟨hD, s4⟩
    rw [List.length_map, List.take_length] at hD
    exact hd D H4 nD s4 hD
/-! ### the greatest value of a dict -/
section
variable {X : Cx}
def tMaxVals (td : TE) : TE := fun σ H Q => td σ H fun x H1 => ∃ (D : Addr) (zs : List Str) (h : Str → Int), x = .ref D ∧ DH H1 D zs h ∧ zs ≠ [] ∧ ∀ m : Int, (∃ z ∈ zs, h z = m) → (∀ z ∈ zs, h z ≤ m) → Q (.int m) H1
theorem pe_maxVals {o : Expr} {p pos apos mpos : Pos} {td : TE} (calm : X.calm = true) (gl : Gl X "max") (mm : X.mg "max" = none) (ho : PE X o td) (plainO : attributeBase o "values" X.env (eval o X.env) = eval o X.env := by rfl) (row1 : (apos.endLine == mpos.line) = true := by rfl)
    (one : starEach [Expr.Call (.Attribute o "values" apos) [] [] mpos] X.env = [(false, eval (Expr.Call (.Attribute o "values" apos) [] [] mpos) X.env)] := by rfl) :
    PE X (.Call (.Name "max" p) [.Call (.Attribute o "values" apos) [] [] mpos] [] pos) (tMaxVals td) := by
  refine ⟨fun pn st σ H Q I0 want => wpAny_Call_Name_kw (ld_blt I0 gl mm (u := .builtin "max") (by first | rfl | decide +kernel) ?_ (by first | decide +kernel | decide) (by first | decide +kernel | decide))⟩
  rw [one]
  refine PySem.callWith_builtin1 (wpAny_Call_method0_late plainO row1 (thn (ho.run pn st σ H _ I0 want) ?_))
  rintro val t1 ⟨y, G, I1, rel1, D, zs, h, rfl, hD, hne, q⟩
  cases rel1
  obtain ⟨_, nsys, vs, rel, dof⟩ := dk_of I1.hok hD
  obtain ⟨ep, dat⟩ := dof.dictAt
  obtain ⟨ob, es, hob, exact_, _, _, _, _⟩ := id dat
  refine ⟨"dict", "dict.values", F.plainAttrs_dict, F.slot_dict_values, F.type_dict_values, ⟨ob, hob, exact_.1⟩, fun b e => by cases e; exact ⟨ob, hob, exact_.2.1⟩, Calls.callWith_builtin rfl (PySem.evalArgs_none ?_)⟩
  refine call_meetsIn F.slot_dict_values ⟨ob, hob, exact_.1⟩ F.entry_dict_values (F.args_dict_values_1 _) (meets_dict_values (mixKind X.prog X.w) D nsys) ⟨⟨vs, dof⟩, ?_⟩
  let view : Obj := { cls := .type "dict_values", data := .fields #[.ref D] }
  have up1 : ∀ b u, t1.heap.get? b = some u → (t1.heap.push view).get? b = some u := fun b u e => Heap.get?_push_of_some _ e
  have datV : (t1.heap.push view).DictAt (mixKind X.prog X.w) D vs ep := dat.keep up1
  have many : vs.length = zs.length := (KV.length rel).symm.trans (dkv_len zs h)
  have pos1 : 0 < vs.length := by
    rw [many]
    exact List.length_pos_iff.mpr hne
  have each : ∀ (i : Nat) (v : Value), (∃ k, vs[i]? = some (k, v)) → ∃ t, v = Value.int (h (zs.getD i "")) t := by
    rintro i v ⟨k, hk⟩
    obtain ⟨x, g1, g2⟩ := KV.at' rel hk
    rw [List.getElem?_map] at g1
    obtain ⟨z, hz, e⟩ := Option.map_eq_some_iff.mp g1
    have ex : x = V.int (h z) := (congrArg Prod.snd e).symm
    subst ex
    obtain ⟨t, et⟩ := g2
    exact ⟨t, by rw [et, List.getD_eq_getElem?_getD, hz]; rfl⟩
  have older : D < t1.heap.objs.size := Heap.lt_size hob
  have size1 : (t1.heap.push view).objs.size = t1.heap.objs.size + 1 := Heap.size_push _ _
  refine call_max_walk (wpAny_pyIter_values (v := t1.heap.objs.size) (d := D) ⟨_, Heap.get?_push_size _ rfl, rfl, rfl⟩ datV ?_)
  refine ⟨_, _, _, _, _, _, _, rfl, Walks.dictValues (knd := mixKind X.prog X.w) (A := X.A.in1) (I0.ok.hd calm) (t1.heap.push view).objs.size D (by rw [size1]; exact Nat.ne_of_lt (Nat.lt_succ_of_lt older)) vs ep, ⟨⟨_, Heap.get?_push_size _ rfl, rfl, rfl⟩, datV.keep fun b u e => Heap.get?_push_of_some _ e⟩, ?_, pos1, CmpOf.ints_gt (fun i => h (zs.getD i "")) each, ?_⟩
  · intro b hb
    show b < ((t1.heap.push view).push _).objs.size
    rw [Heap.size_push, size1]
    rcases List.mem_cons.mp hb with e | hb
    · rw [e, size1]
      exact Nat.lt_succ_self _
    · rw [List.mem_singleton.mp hb]
      exact Nat.lt_succ_of_lt (Nat.lt_succ_of_lt older)
  · intro v h' tk hP keeps
    obtain ⟨t, rfl⟩ := each _ v hP
    obtain ⟨b1, b2⟩ := argBest_gt (fun i => h (zs.getD i "")) (vs.length - 1)
    have inz : ∀ i, i < zs.length → zs.getD i "" ∈ zs := fun i hi => by
      rw [List.getD_eq_getElem?_getD, List.getElem?_eq_getElem hi]
      exact List.getElem_mem hi
    refine ⟨.int _, G, I1.kept (t' := tk) fun b u e => keeps b u (fun hm => ?_) (Heap.get?_push_of_some _ (up1 b u e)), ⟨t, rfl⟩, q _ ⟨_, inz _ (by omega), rfl⟩ fun z hz => ?_⟩
    · have e1 : b = (t1.heap.push view).objs.size := List.mem_singleton.mp hm
      have e2 := Heap.lt_size e
      rw [e1, size1] at e2
      exact absurd e2 (Nat.not_lt.mpr (Nat.le_succ _))
    · obtain ⟨i, hi, e⟩ := List.mem_iff_getElem.mp hz
      have e2 : zs.getD i "" = z := by rw [List.getD_eq_getElem?_getD, List.getElem?_eq_getElem hi, ← e]; rfl
      rw [← e2]
      exact b2 i (by omega)
end
end HF
namespace HF
open PySem PySem.Spec PyProof.Rows L2
/-! ### promises of the functions about two heaps -/
def optS : Option Str → V
  | none => .non
  | some f => .str f
/-- triples (book, friend, gain) -/
def GsAt (H : Hp) (G : Addr) (qs : List (Str × Str)) (g : Str × Str → Int) : Prop := ∃ as : List Addr, H G = some (.lst (as.map V.ref)) ∧ as.length = qs.length ∧ ∀ (i : Nat) (a : Addr) (q : Str × Str), as[i]? = some a → qs[i]? = some q → H a = some (.tup [.str q.1, .str q.2, .int (g q)])
theorem GsAt.oth {H H' : Hp} {G : Addr} {qs : List (Str × Str)} {g : Str × Str → Int} {A : Addr → Prop} (h : GsAt H G qs g) (o : OthA A H H') (na : ∀ b u, A b → H b = some u → ∃ kvs, u = .dK kvs) : GsAt H' G qs g := by
  obtain ⟨as, h1, h2, h3⟩ := h
  refine ⟨as, o _ _ h1 fun z => ?_, h2, fun i a q e f => o _ _ (h3 i a q e f) fun z => ?_⟩
  · obtain ⟨kvs, e⟩ := na _ _ z h1
    exact nomatch e
  · obtain ⟨kvs, e2⟩ := na _ _ z (h3 i a q e f)
    exact nomatch e2
theorem GsAt.same {H H' : Hp} {G : Addr} {qs : List (Str × Str)} {g : Str × Str → Int} (h : GsAt H G qs g) (o : Same H H') : GsAt H' G qs g := by
  obtain ⟨as, h1, h2, h3⟩ := h
  exact ⟨as, o _ _ h1, h2, fun i a q e f => o _ _ (h3 i a q e f)⟩
theorem DC.le {H : Hp} {D : Addr} {c : Str → Option Str} {n m : Nat} (d : DC H D c n) (h : n ≤ m) : DC H D c m := by
  obtain ⟨kvs, e, l, v⟩ := d
  exact ⟨kvs, e, Nat.le_trans l h, v⟩
/-- two heaps of the same books, and ties -/
structure Two (K : PySem.W.Frag) (H : Hp) (h o r : Addr) (zs ws : List Str) (qs : List (Str × Str)) : Prop where
  hz : Hq K H h zs
  hw : Hq K H o ws
  ti : Pz K H r qs
  pm : ws.Perm zs
  nd : zs.Nodup
  ne : zs ≠ []
  few : zs.length ≤ 100
  qf : qs.length ≤ 400
  cl : ∀ q ∈ qs, q.2 ∈ zs ∧ q.1 ≠ q.2 ∧ q.1 ∈ zs
  nm : ∀ z ∈ zs, Nm z
theorem Two.same {K : PySem.W.Frag} {H H' : Hp} {h o r : Addr} {zs ws : List Str} {qs : List (Str × Str)} (t : Two K H h o r zs ws qs) (s : Same H H') : Two K H' h o r zs ws qs := { t with hz := t.hz.same s, hw := t.hw.same s, ti := t.ti.same s }
theorem Two.wnd {K : PySem.W.Frag} {H : Hp} {h o r : Addr} {zs ws : List Str} {qs : List (Str × Str)} (t : Two K H h o r zs ws qs) : ws.Nodup := t.pm.nodup_iff.mpr t.nd
def spGain (K : PySem.W.Frag) : Sp := fun vs H Q _ => ∃ (h o : Addr) (b f : Str) (zs ws : List Str), vs = [.ref h, .ref o, .str b, .str f] ∧ Hq K H h zs ∧ Hq K H o ws ∧ b ∈ zs ∧ f ∈ zs ∧ b ∈ ws ∧ f ∈ ws ∧ Q (.int (gn zs ws (b, f))) H
def spTG (K : PySem.W.Frag) : Sp := fun vs H Q _ => ∃ (h o r : Addr) (zs ws : List Str) (qs : List (Str × Str)), vs = [.ref h, .ref o, .ref r] ∧ Two K H h o r zs ws qs ∧ ∀ (H' : Hp) (G : Addr), Same H H' → H G = none → GsAt H' G qs (gn zs ws) → Q (.ref G) H'
def TwoD (a b : Addr) : Addr → Prop := fun x => x = a ∨ x = b
def spRaise : Sp := fun vs H Q _ => ∃ (G Dh Dc : Addr) (zs ws : List Str) (qs : List (Str × Str)) (t n : Nat) (h : Str → Int) (c : Str → Option Str) (r : Str → Nat), vs = [.ref G, .ref Dh, .ref Dc] ∧ GsAt H G qs (gn zs ws) ∧ DH H Dh zs h ∧ DC H Dc c n ∧ Dh ≠ Dc ∧ Bf qs (gn zs ws) t h c r [] ∧ (∀ q ∈ qs, q.2 ∈ zs ∧ q.1 ≠ q.2 ∧ q.1 ∈ zs) ∧ zs.length ≤ 100 ∧ qs.length ≤ 400 ∧ n ≤ 500000 ∧
  ∀ (H' : Hp) (h' : Str → Int) (c' : Str → Option Str) (r' : Str → Nat) (last : Option Str), OthA (TwoD Dh Dc) H H' → DH H' Dh zs h' → DC H' Dc c' (n + qs.length) → Mid qs (gn zs ws) t h' c' r' qs last → (∀ f, last = some f → f ∈ zs) → rnd qs (gn zs ws) h c = (h', c', last) → Q (optS last) H'
def spBack : Sp := fun vs H Q _ => ∃ (Dc : Addr) (v s : Str) (zs : List Str) (c : Str → Option Str) (n : Nat), vs = [.ref Dc, .str v, .int (zs.length : Nat)] ∧ DC H Dc c n ∧ zs.Nodup ∧ v ∈ zs ∧ (∀ x y, c x = some y → y ∈ zs) ∧ wk c zs.length v = some s ∧ zs.length ≤ 100 ∧
  ∀ (H' : Hp) (l : Addr) (q : Nat → Str) (m : Nat), Same H H' → H l = none → H' l = some (.lst ((back q m).reverse.map V.str)) → 1 ≤ m → q 0 = s → q m = s → (∀ k, c (q k) = some (q (k + 1))) → (∀ k, 1 ≤ k → k < m → q k ≠ s) → Q (.ref l) H'
def spGrow (K : PySem.W.Frag) : Sp := fun vs H Q _ => ∃ (h o r : Addr) (zs ws : List Str) (qs : List (Str × Str)), vs = [.ref h, .ref o, .ref r] ∧ Two K H h o r zs ws qs ∧
  (∀ (H' : Hp) (p : Str → Int), Same H H' → Pot zs ws qs p → Q .non H') ∧
  ∀ (H' : Hp) (l : Addr) (ls : List Str), Same H H' → H l = none → H' l = some (.lst (ls.map V.str)) → Rng qs zs ls → T zs ls < T ws ls → RingIs zs ws qs ls → Q (.ref l) H'
def spForce (K : PySem.W.Frag) : Sp := fun vs H Q _ => ∃ (h o D : Addr) (zs ws : List Str) (g : Str → Int), vs = [.ref h, .ref o, .ref D] ∧ Hq K H h zs ∧ Hq K H o ws ∧ ws.Perm zs ∧ zs.Nodup ∧ zs.length ≤ 100 ∧ DH H D zs g ∧ ∀ (H' : Hp) (m : Nat), Same H H' → Fm zs ws g m → Q (.int (m : Nat)) H'
def spLeast (K : PySem.W.Frag) : Sp := fun vs H Q _ => ∃ (h o r : Addr) (zs ws : List Str) (qs : List (Str × Str)) (p : Str → Int), vs = [.ref h, .ref o, .ref r] ∧ Two K H h o r zs ws qs ∧ Pot zs ws qs p ∧
  ∀ (H' : Hp) (D : Addr) (g : Str → Int), Same H H' → H D = none → DH H' D zs g → Lst zs ws qs g → Q (.ref D) H'
/-- the greatest number -/
def Gr (zs : List Str) (g : Str → Int) (m : Nat) : Prop := (∃ z ∈ zs, g z = m) ∧ ∀ z ∈ zs, g z ≤ m
def spRow (K : PySem.W.Frag) : Sp := fun vs H Q _ => ∃ (o D : Addr) (zs ws : List Str) (g : Str → Int), vs = [.ref o, .ref D] ∧ Hq K H o ws ∧ ws.Perm zs ∧ zs ≠ [] ∧ zs.length ≤ 100 ∧ DH H D zs g ∧ (∀ z ∈ zs, 0 ≤ g z ∧ g z ≤ 100) ∧
  ∀ (H' : Hp) (l : Addr) (m : Nat), Same H H' → H l = none → Gr zs g m → H' l = some (.lst ((rowOf ws g m).map V.str)) → Q (.ref l) H'
def spLeads (K : PySem.W.Frag) : Sp := fun vs H Q _ => ∃ (h o r : Addr) (zs ws : List Str) (qs : List (Str × Str)), vs = [.ref h, .ref o, .ref r] ∧ Two K H h o r zs ws qs ∧
  (∀ (H' : Hp) (p : Str → Int), Same H H' → Pot zs ws qs p → Q (.bl true) H') ∧
  ∀ (H' : Hp) (ls : List Str), Same H H' → Rng qs zs ls → T zs ls < T ws ls → Q (.bl false) H'
def spBetw (K : PySem.W.Frag) : Sp := fun vs H Q _ => ∃ (h o r : Addr) (zs ws : List Str) (qs : List (Str × Str)), vs = [.ref h, .ref o, .ref r] ∧ Two K H h o r zs ws qs ∧
  (∀ (H' : Hp) (t l : Addr) (p g : Str → Int) (m : Nat), Same H H' → H t = none → H l = none → H' t = some (.tup [.str "row", .ref l]) → H' l = some (.lst ((rowOf ws g m).map V.str)) → Pot zs ws qs p → Lst zs ws qs g → Gr zs g m → Q (.ref t) H') ∧
  ∀ (H' : Hp) (t l : Addr) (ls : List Str), Same H H' → H t = none → H l = none → H' t = some (.tup [.str "ring", .ref l]) → H' l = some (.lst (ls.map V.str)) → Rng qs zs ls → T zs ls < T ws ls → RingIs zs ws qs ls → Q (.ref t) H'
def spUnl (K : PySem.W.Frag) : Sp := fun vs H Q _ => ∃ (h o : Addr) (zs ws : List Str), vs = [.ref h, .ref o] ∧ Hq K H h zs ∧ Hq K H o ws ∧ ws.Perm zs ∧ zs.length ≤ 100 ∧ (∀ z ∈ zs, Nm z) ∧ ∀ H' : Hp, Same H H' → Q .non H'
theorem asg_dc {wi : TI} {g : TG} {tt : TT} {tk tv : TE} {vs : List Nat} {i : Nat} {b : TS} {D : Ends} {σ : L2.St} {H : Hp} (h : tDc wi g tt tk tv vs σ H (fun v H1 => b D (σ.set i (some v)) H1)) : tSeq (tAsg (tDc wi g tt tk tv vs) (gName i)) b D σ H := h
theorem srt_same {xs ys : List Str} (h : xs.Perm ys) : srt xs = srt ys := rise_one ((srt_perm xs).trans (h.trans (srt_perm ys).symm)) (srt_rise _) (srt_rise _)
theorem max_one (x : Int) : (if (1 : Int) > x then 1 else x) = max x 1 := by
  split <;> omega
theorem setF_r (g : Str → Int) (x : Str) (v : Int) : setF g x v x = v := setF_eq _ _ _
theorem othA_same {A : Addr → Prop} {H H1 Hx : Hp} (s : Same H H1) (o : OthA A H1 Hx) (na : ∀ b, A b → H b = none) : Same H Hx := fun b u e => o _ _ (s _ _ e) fun z => by
  rw [na b z] at e
  exact nomatch e
theorem layer_step {ws : List Str} {g : Str → Int} {m i : Nat} (h : i < m) : ∀ acc : List Str, acc = ((List.range i).map fun k => layer ws g (m - k)).flatten → acc ++ layer ws g (m - i) = ((List.range (i + 1)).map fun k => layer ws g (m - k)).flatten := by
  rintro acc rfl
  rw [List.range_succ, List.map_append, List.flatten_append]
  simp
theorem rowOf_flat {ws : List Str} {g : Str → Int} : ∀ m, ((List.range m).map fun k => layer ws g (m - k)).flatten = rowOf ws g m
  | 0 => rfl
  | m + 1 => by
    rw [List.range_succ_eq_map, List.map_cons, List.map_map, List.flatten_cons]
    show layer ws g (m + 1) ++ _ = layer ws g (m + 1) ++ rowOf ws g m
    rw [← rowOf_flat m]
    congr 2
    refine List.map_congr_left fun k _ => ?_
    show layer ws g (m + 1 - (k + 1)) = layer ws g (m - k)
    rw [Nat.add_sub_add_right]
theorem rows_len {ws : List Str} {g : Str → Int} {m : Nat} : ∀ i, (((List.range i).map fun k => layer ws g (m - k)).flatten).length ≤ i * ws.length
  | 0 => Nat.zero_le _
  | i + 1 => by
    have h1 := rows_len (ws := ws) (g := g) (m := m) i
    have h2 := layer_len ws g (m - i)
    rw [List.range_succ, List.map_append, List.flatten_append, List.length_append, Nat.add_mul]
    simp only [List.map_cons, List.map_nil, List.flatten_cons, List.flatten_nil, List.append_nil]
    omega
end HF
/-! a refusal of an own class that has no __init__ of its own -/
namespace HF
open PySem PySem.Spec PyProof.Rows L2
structure XU (K : PySem.W.Frag) (mg : Str → Option Value) (x : Str) (C : Addr) (bmB : List Value) (newId : String) : Prop where
  gC : mg x = some (.ref C)
  q : PySem.W.excIn K C bmB newId = true
  kC : PySem.W.keepIn K (.ref C) = true
  exC : PySem.W.subIn K (.ref C) (.type "BaseException") = some true
  tyC : PySem.W.typeIn K (.ref C) = some (.type "type")
  I : XIs K C
section
variable {X : Cx}
theorem pmk_own0 {C : Addr} {bmB : List Value} {B newId initId : String} {x : Str} {p pos : Pos} (F : ExcBaseFacts B newId initId bmB) (q : PySem.W.excIn X.K C bmB newId = true) (gC : X.mg x = some (.ref C))
    (kC : PySem.W.keepIn X.K (.ref C) = true) (r : Raises X (.ref C)) (hg : Gl X x) (hdb : (x == ("__debug__" : Str)) = false := by decide) :
    PMk X (.Call (.Name x p) [] [] pos) (fun _ H Q => Q (.ref C) none H) := by
  intro pins s σ H Q I h
  refine wpAny_Call_Name_kw (ld_glob I hg gC (PySem.W.callWith_K0 I.kIn kC ?_) hdb)
  show wpAny _ _ (call (.ref C) []) _ _ _
  obtain ⟨bm, N, nm, qn, bs, hdct, sn, sub, ab, col, dd, k0, k1, k2, k3, k5, mN, hC, hN, hni, T⟩ := exc_obj I.kIn q
  refine wpAny_call_exc_subT F T hC hN hni (fun h' e hm => ?_) (Nat.zero_le _)
  exact mk_of I hm r h (I.hok.gone hm.new)
def rIsX0 (K : PySem.W.Frag) : List V → Hp → VK → Prop := fun xs H Q => ∃ (a C : Addr) (c : V) (cv : Value) (b : Bool), xs = [.ref a, c] ∧ H a = some (ExH (.ref C) none a) ∧ XIs K C ∧ (∀ u, RelV c u → u = cv) ∧ PySem.W.kitOne K (.ref C) cv = some b ∧ Q (.bl b) H
theorem call_isX0 : CallR X (.builtin "isinstance") (rIsX0 X.K) := by
  intro pins s σ H xs us Q I rel hyp
  obtain ⟨a, C, c, cv, b, rfl, ha, T, hc, e, q⟩ := hyp
  obtain ⟨u1, u2, rfl, r1, r2⟩ := vals2 rel
  cases r1
  cases hc _ r2
  obtain ⟨⟨oe, vs, e1, z, e2⟩, _⟩ := (show ObjOk X.prog X.w H s.heap a (ExH (.ref C) none a) from I.hok a _ ha)
  have J : PySem.W.InstAt s.heap a oe C none := ⟨e1, z.1, by unfold PySem.W.notCls; rw [e2] <;> rfl, by rw [z.2]; trivial⟩
  exact PySem.W.kia_one (PySem.W.kitx_exc T.cl T.ga T.gg T.ex T.ca T.sg T.tk T.ob) I.kIn J e (fun z => nomatch z) fun tk => ⟨.bl b, H, I.kept (t' := tk) fun _ _ z => z, rfl, q⟩
end
end HF
/-! isinstance(a refusal without fields, several classes) -/
namespace HF
open PySem PySem.Spec PyProof.Rows L2
section
variable {X : Cx}
def rIsX0T (K : PySem.W.Frag) : List V → Hp → VK → Prop := fun xs H Q => ∃ (a t C : Addr) (cs : List Addr) (b : Bool), xs = [.ref a, .ref t] ∧ H a = some (ExH (.ref C) none a) ∧ XIs K C ∧ H t = some (.tup (cs.map V.ref)) ∧ PySem.W.kitAny K (.ref C) (cs.map Value.ref) = some b ∧ Q (.bl b) H
theorem call_isX0T : CallR X (.builtin "isinstance") (rIsX0T X.K) := by
  intro pins s σ H xs us Q I rel hyp
  obtain ⟨a, t, C, cs, b, rfl, ha, T, ht, e, q⟩ := hyp
  obtain ⟨u1, u2, rfl, r1, r2⟩ := vals2 rel
  cases r1
  cases r2
  obtain ⟨⟨oe, vs, e1, z, e2⟩, _⟩ := (show ObjOk X.prog X.w H s.heap a (ExH (.ref C) none a) from I.hok a _ ha)
  have J : PySem.W.InstAt s.heap a oe C none := ⟨e1, z.1, by unfold PySem.W.notCls; rw [e2] <;> rfl, by rw [z.2]; trivial⟩
  obtain ⟨its, rv, ⟨o, ho, hcl, n, hdat⟩, _⟩ := I.tuple (.inl (.inl ht) : SqT X.K H t (cs.map V.ref))
  have eits := refs_at rv
  subst eits
  obtain ⟨oc, odd, oda, osl⟩ := o
  dsimp only at hcl hdat
  subst hcl hdat
  exact PySem.W.kia_tup (PySem.W.kitx_exc T.cl T.ga T.gg T.ex T.ca T.sg T.tk T.ob) I.kIn J ho e (fun z => nomatch z) fun tk => ⟨.bl b, H, I.kept (t' := tk) fun _ _ z => z, rfl, q⟩
end
end HF
/-! refusals with two fields -/
namespace HF
open PySem PySem.Spec PyProof.Rows L2
section
variable {prog : Program} {w : World} {A : Around} {R : Result → Shared → Prop} {hp : Heap} {g : Array GenState} {d : Drawn} {t : Nat} {os : OsState} {K : PySem.W.Frag} {B newId initId : String} {bmB : List Value}
/-- a further field -/
theorem xosa_old {x C t1 dx : Addr} {name : Str} {tk : Tok} {v : Value} {m0 : Str → Option Value} {nl : List Str} (T : XoC K C B newId initId bmB) (X : K.In hp) (hx : hp.get? x = some { PySem.HandSPX.excO C t1 with dict := some dx }) (hns : hp.Ns1 dx m0) (hw : Within m0 nl) (hz : nl.length ≤ 1000) (no : PySem.W.findIn K (.ref C) name = some none)
    (hq : ∀ h2 tk2, (∀ b o, b ≠ dx → hp.get? b = some o → h2.get? b = some o) → h2.Ns1 dx (fun y => if y = name then some v else m0 y) → R (.ok (.ret .none)) ⟨h2, g, d, tk2, os⟩) :
    codeAny (model prog w) A (.call (.builtin "object.__setattr__") ⟨[.ref x, .str name tk, v], []⟩) R ⟨hp, g, d, t, os⟩ := by
  obtain ⟨oD, esD, epD, hoD, hdD, _⟩ := hns.count hw
  have I : PySem.W.InstAt hp x { PySem.HandSPX.excO C t1 with dict := some dx } C (some oD) := ⟨hx, rfl, rfl, hoD⟩
  have tkr : PySem.W.takerIn K C name = some none := by
    unfold PySem.W.takerIn
    rw [no]
    rfl
  obtain ⟨cd, hcd, hdct⟩ : ∃ cd, PySem.W.clsIn K C = some cd ∧ cd.hasDict = true := by
    have z := T.hdi
    unfold PySem.W.hasDictIn at z
    cases hc : PySem.W.clsIn K C with
    | none =>
      rw [hc] at z
      exact nomatch z
    | some cd =>
      rw [hc] at z
      exact ⟨cd, rfl, z⟩
  have lc : PySem.W.Looks (model prog w) hp (classData C) cd := PySem.W.looks_clsIn X hcd
  refine PySem.W.osa_openX T.store X I T.over tkr fun bb => ?_
  dsimp only
  obtain ⟨n1, n2, n3, n4, n5, n6, n7, n8, n9, n10, n11⟩ := cd
  dsimp only at hdct
  subst hdct
  unfold PySem.Builtin.ObjectAttr.storeInOwnDict PySem.Builtin.ObjectAttr.ownDictForStores
  repeat (first | with_reducible refine PySem.OEX.store_in_old hns hw hz ?_ | with_reducible refine wpAny_loadPart_at hx ?_ | with_reducible refine lc.at ?_ | wp_step)
  intro h' tk' hn' hs
  exact hq h' tk' (fun b o hb ho => (hs.2 b hb).trans ho) hn'
end
section
variable {X : Cx} {pins : List (Addr × Obj)} {σ : L2.St} {H : Hp} {s : Shared} {a C dx : Addr} {f : Str} {fs : List (Str × V)} {y : V} {u : Value} {E : Value → Shared → Prop} {A : Around} {B newId initId : String} {bmB : List Value}
theorem xst_old {Q : Unit → Shared → Prop} (T : XoC X.K C B newId initId bmB) (I : Inv X pins σ H s) (e : H a = some (exo a C (some dx))) (ed : H dx = some (exd dx fs)) (hl : fs.length ≤ 900) (no : PySem.W.findIn X.K (.ref C) f = some none) (ry : RelV y u)
    (q : ∀ s', Inv X pins σ (upd H dx (exd dx ((f, y) :: fs))) s' → Q () s') : wpAny (model X.prog X.w) A (setAttr (.ref a) f u) Q E s := by
  obtain ⟨t1, ho⟩ := exo_at I.hok e
  obtain ⟨mA, hns, rel⟩ := exd_at I.hok ed
  have hw := within_of rel
  obtain ⟨hp, g, d, t, os⟩ := s
  obtain ⟨oD, _, _, hoD, _, _⟩ := hns.count hw
  refine PySem.W.set_plain I.kIn (ox := { PySem.HandSPX.excO C t1 with dict := some dx }) (od := some oD) ⟨ho, rfl, rfl, hoD⟩ T.sa ?_
  refine xosa_old T I.kIn ho hns hw (by rw [List.length_map]; omega) no (fun h' tk' k hn => ?_)
  have hd : ∃ o, h'.get? dx = some o := by
    obtain ⟨o, _, _, e', _⟩ := hn
    exact ⟨o, e'⟩
  exact q _ (I.write (t' := tk') (x := dx) (e := dx) (o := exd dx ((f, y) :: fs)) (by rw [ed]; exact True.intro) (.inl rfl) k hd (exd_ok hn (relO_put ry rel)))
end
/-- self.f = e, a further one -/
def tXsu (K : PySem.W.Frag) (B newId initId : String) (bmB : List Value) (f : Str) (to te : TE) : TS := fun D σ H => te σ H fun y H1 => to σ H1 fun x H2 => ∃ (a C dx : Addr) (fs : List (Str × V)), x = .ref a ∧ XoC K C B newId initId bmB ∧ PySem.W.findIn K (.ref C) f = some none ∧
  H2 a = some (exo a C (some dx)) ∧ H2 dx = some (exd dx fs) ∧ fs.length ≤ 900 ∧ D.nx σ (upd H2 dx (exd dx ((f, y) :: fs)))
section
variable {X : Cx} {o e : Expr} {to te : TE} {f : Str} {p' pos : Pos} {B newId initId : String} {bmB : List Value}
theorem ps_xsu (ho : PE X o to) (he : PE X e te) (sw : swapsWith e (some (.Attribute o f p')) pos.line X.env = pure false := by rfl) : PS X (.Assign [.Attribute o f p'] e pos) (tXsu X.K B newId initId bmB f to te) := by
  refine ⟨fun pins st σ H D I want => plainObj_wpAny_Assign_Attribute (thn (he.run pins st σ H _ I want) ?_) sw⟩
  rintro v s1 ⟨y, H1, J1, r1, q1⟩
  refine thn (ho.run pins s1 σ H1 _ J1 q1) ?_
  rintro u s2 ⟨z, H2, J2, r2, a, C, dx, fs, rfl, T, no, ea, ed, hl, q⟩
  cases (show u = Value.ref a from r2)
  exact xst_old T J2 ea ed hl no r1 fun s3 J3 => ⟨σ, _, J3, q⟩
end
/-- what its __init__ does: the fields f1, f2 -/
def spXI2 (C : Addr) (f1 f2 : Str) : Sp := fun vs H Q _ => ∃ (a : Addr) (v1 v2 : V), vs = [.ref a, v1, v2] ∧ H a = some (exo a C none) ∧ ∀ dx, H dx = none → dx ≠ a → Q .non (upd (upd (upd H dx (exd dx [(f1, v1)])) a (exo a C (some dx))) dx (exd dx [(f2, v2), (f1, v1)]))
/-- what the top has written of a refusal with two fields -/
structure XT2 (K : PySem.W.Frag) (mg : Str → Option Value) (x qn : Str) (st : Stmt) (f1 f2 : Str) (B newId initId : String) (bmB : List Value) (C : Addr) where
  fI : Addr
  dI : FuncData
  T : XoC K C B newId initId bmB
  I : XIs K C
  gC : mg x = some (.ref C)
  no1 : PySem.W.findIn K (.ref C) f1 = some none
  no2 : PySem.W.findIn K (.ref C) f2 = some none
  iC : PySem.W.findIn K (.ref C) "__init__" = some (some (.ref fI))
  tI : PySem.W.typeIn K (.ref fI) = some (.type "function")
  F : Fun K "__init__" qn st fI dI
  b : Binds K dI ["self", f1, f2] []
  vV : PySem.W.findCls K (.type B) (.type "type") "__init__" = some (.val (.builtin initId))
theorem AtX.xt2 {K : PySem.W.Frag} {x qn : Str} {st : Stmt} {f1 f2 : Str} {B newId initId : String} {bmB : List Value} {C fI : Addr} {h : Heap} {mg : Str → Option Value} (a : AtX K x qn st f1 B newId initId bmB C fI) (n2 : PySem.W.findIn K (.ref C) f2 = some none) (X : K.In h) (G : h.Ns mainGlobals mg)
    (hB : ExcBaseFacts B newId initId bmB) (hS : StoreFacts B bmB "object.__setattr__" "object") (hb : ∀ fd, Fun K "__init__" qn st fI fd → Binds K fd ["self", f1, f2] []) : Nonempty (XT2 K mg x qn st f1 f2 B newId initId bmB C) := by
  obtain ⟨oc, od, an, osl, kV, doc, pm, cdv, ct, l, c⟩ := a.fn
  have F := fun_mk (st := st) l c a.kp
  exact ⟨{ fI := fI, dI := _, T := ⟨hB, hS, a.ini, a.over, a.hdi, a.sa, a.exC, a.tyC, a.kC⟩, I := ⟨a.cl, a.ga, a.gg, a.exC, a.hdi, a.ca, a.sg, a.tk, a.ob⟩, gC := PySem.W.mg_of X G a.ns, no1 := a.no, no2 := n2, iC := a.iC, tI := a.tI, F := F, b := hb _ F, vV := a.vV }⟩
end HF
namespace HF
open PySem PySem.Spec PyProof.Rows L2
/-! ### a row by rounds is let, and leaves the other heap -/
theorem pos_rev {x : Str} {zs : List Str} (nd : zs.Nodup) (hx : x ∈ zs) : pos x zs.reverse + pos x zs + 1 = zs.length := by
  have hl := pos_lt hx
  have hg := pos_get hx
  have nr : zs.reverse.Nodup := List.pairwise_reverse.mpr (nd.imp fun h e => h e.symm)
  have : zs.reverse[zs.length - 1 - pos x zs]? = some x := by
    rw [List.getElem?_reverse (by omega), show zs.length - 1 - (zs.length - 1 - pos x zs) = pos x zs by omega]
    exact hg
  have h2 := pos_at nr this
  omega
theorem later_pos {zs steps : List Str} {x y : Str} (nd : zs.Nodup) (hs : ∀ b ∈ steps, b ∈ zs) (hx : x ∈ zs) (hy : y ∈ zs) (ne : x ≠ y) (h : Later zs steps x y) : pos x (lefts zs steps) < pos y (lefts zs steps) := by
  have hp := lefts_perm nd hs
  have hr := last_rise nd steps
  rw [← lefts_last] at hr
  have hnd : (lefts zs steps).Nodup := hp.nodup_iff.mpr nd
  have hx2 : x ∈ lefts zs steps := hp.mem_iff.mpr hx
  have hy2 : y ∈ lefts zs steps := hp.mem_iff.mpr hy
  refine Nat.lt_of_not_le fun hle => ?_
  have hne : pos y (lefts zs steps) ≠ pos x (lefts zs steps) := fun e => ne (pos_inj hy2 hx2 e).symm
  have hlt : pos y (lefts zs steps) < pos x (lefts zs steps) := by omega
  have h1 := List.pairwise_iff_getElem.mp hr (pos y (lefts zs steps)) (pos x (lefts zs steps)) (pos_lt hy2) (pos_lt hx2) hlt
  have e1 : (lefts zs steps)[pos y (lefts zs steps)]'(pos_lt hy2) = y := (List.getElem?_eq_some_iff.mp (pos_get hy2)).2
  have e2 : (lefts zs steps)[pos x (lefts zs steps)]'(pos_lt hx2) = x := (List.getElem?_eq_some_iff.mp (pos_get hx2)).2
  rw [e1, e2] at h1
  unfold Later at h h1
  omega
theorem refAt_snoc {qs : List (Str × Str)} {zs P : List Str} {b : Str} (h : refAt qs zs P = none) (hl : lets qs (lefts zs P) b = true) : refAt qs zs (P ++ [b]) = none := by
  rw [refAt_app, h]
  show (refAt qs (lefts zs P) [b]).map _ = none
  unfold refAt
  rw [if_pos hl]
  rfl
/-- the rounds above k -/
def hiOf (ws : List Str) (g : Str → Int) : Nat → Nat → List Str
  | _, 0 => []
  | k, d + 1 => hiOf ws g (k + 1) d ++ layer ws g (k + 1)
theorem hi_row (ws : List Str) (g : Str → Int) : ∀ d k, hiOf ws g k d ++ rowOf ws g k = rowOf ws g (k + d)
  | 0, k => rfl
  | d + 1, k => by
    show (hiOf ws g (k + 1) d ++ layer ws g (k + 1)) ++ rowOf ws g k = _
    rw [List.append_assoc, show layer ws g (k + 1) ++ rowOf ws g k = rowOf ws g (k + 1) from rfl, hi_row ws g d (k + 1), show k + 1 + d = k + (d + 1) by omega]
theorem mem_layer {ws : List Str} {g : Str → Int} {k : Nat} {x : Str} : x ∈ layer ws g k ↔ x ∈ ws ∧ (k : Int) ≤ g x := by
  unfold layer
  rw [List.mem_filter, List.mem_reverse]
  simp
theorem mem_hi {ws : List Str} {g : Str → Int} {x : Str} : ∀ {d k : Nat}, x ∈ hiOf ws g k d → x ∈ ws ∧ (k : Int) < g x
  | 0, k, h => nomatch h
  | d + 1, k, h => by
    rcases List.mem_append.mp h with z | z
    · have := mem_hi z
      exact ⟨this.1, by omega⟩
    · have := mem_layer.mp z
      exact ⟨this.1, by omega⟩
theorem hi_mem {ws : List Str} {g : Str → Int} {x : Str} {d k : Nat} (hx : x ∈ ws) (h1 : (k : Int) < g x) (hd : 0 < d) : x ∈ hiOf ws g k d := by
  obtain ⟨e, rfl⟩ : ∃ e, d = e + 1 := ⟨d - 1, by omega⟩
  exact List.mem_append.mpr (.inr (mem_layer.mpr ⟨hx, by omega⟩))
theorem pos_app_in {x : Str} : ∀ {a b : List Str}, x ∈ a → pos x (a ++ b) = pos x a
  | z :: r, b, h => by
    show pos x (z :: (r ++ b)) = pos x (z :: r)
    unfold pos
    by_cases e : z = x
    · rw [if_pos e, if_pos e]
    · rw [if_neg e, if_neg e, pos_app_in ((List.mem_cons.mp h).resolve_left fun q => e q.symm)]
theorem pos_app_out {x : Str} : ∀ {a b : List Str}, x ∉ a → pos x (a ++ b) = a.length + pos x b
  | [], b, _ => by simp
  | z :: r, b, h => by
    show (if z = x then 0 else pos x (r ++ b) + 1) = r.length + 1 + pos x b
    rw [if_neg (fun e => h (by rw [e]; exact List.mem_cons_self)), pos_app_out (b := b) fun q => h (List.mem_cons_of_mem _ q)]
    exact Nat.add_right_comm _ _ _
theorem pos_layer {ws : List Str} {g : Str → Int} {k : Nat} {x y : Str} (nd : ws.Nodup) (hx : x ∈ ws) (hy : y ∈ ws) (gx : (k : Int) ≤ g x) (gy : (k : Int) ≤ g y) (h : pos y ws < pos x ws) : pos x (layer ws g k) < pos y (layer ws g k) := by
  unfold layer
  rw [pos_filter (decide_eq_true gx) (decide_eq_true gy)]
  have h1 := pos_rev nd hx
  have h2 := pos_rev nd hy
  omega
theorem layer_rev {ws : List Str} {g : Str → Int} {k : Nat} : (layer ws g k).reverse = ws.filter fun x => decide ((k : Int) ≤ g x) := by
  unfold layer
  rw [← List.filter_reverse, List.reverse_reverse]
/-- the turn of a book in its round -/
theorem turn_let {zs ws : List Str} {qs : List (Str × Str)} {g : Str → Int} (hs : Sol zs ws qs g) (pm : ws.Perm zs) (nd : zs.Nodup) (cl : ∀ q ∈ qs, q.2 ∈ zs ∧ q.1 ≠ q.2 ∧ q.1 ∈ zs) {k d n : Nat} {b : Str} (top : ∀ x ∈ zs, g x ≤ ((k + 1 + d : Nat) : Int))
    (hb : (layer ws g (k + 1))[n]? = some b) : lets qs (lefts zs (hiOf ws g (k + 1) d ++ (layer ws g (k + 1)).take n)) b = true := by
  have wnd : ws.Nodup := pm.nodup_iff.mpr nd
  have lnd : (layer ws g (k + 1)).Nodup := List.Pairwise.filter _ (List.pairwise_reverse.mpr (wnd.imp fun h e => h e.symm))
  have hbl := List.mem_of_getElem? hb
  obtain ⟨hbw, hbk⟩ := mem_layer.mp hbl
  have hpb := pos_at lnd hb
  have hnl := (List.getElem?_eq_some_iff.mp hb).1
  have hbz := pm.mem_iff.mp hbw
  unfold lets
  rw [List.all_eq_true]
  intro f hf
  obtain ⟨q, hq, rfl⟩ := List.mem_map.mp hf
  obtain ⟨hq1, hq2⟩ := List.mem_filter.mp hq
  have hqb : q.1 = b := of_decide_eq_true hq2
  obtain ⟨hfz, hne, _⟩ := cl q hq1
  have hfw := pm.mem_iff.mpr hfz
  rw [hqb] at hne
  have hed := hs.ed q hq1 (by rw [hqb]; omega)
  rw [hqb] at hed
  have hgn : gn zs ws q = (if pos q.2 ws < pos b ws then 1 else 0) - (if pos q.2 zs < pos b zs then 1 else 0) := by
    unfold gn up
    rw [hqb]
    by_cases h1 : pos q.2 ws < pos b ws <;> by_cases h2 : pos q.2 zs < pos b zs <;> simp [h1, h2]
  generalize q.2 = f at *
  have hsub : ∀ x ∈ hiOf ws g (k + 1) d ++ (layer ws g (k + 1)).take n, x ∈ zs := fun x hx => by
    rcases List.mem_append.mp hx with z | z
    · exact pm.mem_iff.mp (mem_hi z).1
    · exact pm.mem_iff.mp (mem_layer.mp (List.mem_of_mem_take z)).1
  have hbB : b ∉ (layer ws g (k + 1)).take n := fun z => by
    have := (mem_take_pos (by omega)).mp z
    omega
  have hfB : pos b ws < pos f ws → ((k + 1 : Nat) : Int) ≤ g f → f ∈ (layer ws g (k + 1)).take n := fun h1 h2 => by
    refine (mem_take_pos (by omega)).mpr ?_
    have := pos_layer wnd hfw hbw h2 hbk h1
    omega
  have hneq : pos f ws ≠ pos b ws := fun e => hne (pos_inj hbw hfw e.symm)
  have hneqz : pos f zs ≠ pos b zs := fun e => hne (pos_inj hbz hfz e.symm)
  refine decide_eq_true (Int.ofNat_lt.mpr (later_pos nd hsub hfz hbz hne.symm ?_))
  unfold Later
  rw [List.reverse_append, List.length_append]
  generalize hB : (layer ws g (k + 1)).take n = B at *
  generalize hA : hiOf ws g (k + 1) d = A at *
  have hbr : b ∉ B.reverse := fun z => hbB (List.mem_reverse.mp z)
  rw [pos_app_out hbr, List.length_reverse]
  by_cases hfin : f ∈ B
  · left
    rw [pos_app_in (List.mem_reverse.mpr hfin)]
    have := pos_lt (List.mem_reverse.mpr hfin)
    rw [List.length_reverse] at this
    omega
  · rw [pos_app_out (fun z => hfin (List.mem_reverse.mp z)), List.length_reverse]
    by_cases hlast : ((k + 1 : Nat) : Int) < g b
    · -- it went a round before
      have hd : 0 < d := Nat.pos_of_ne_zero fun e => by
        have := top b hbz
        rw [e] at this
        omega
      obtain ⟨e, rfl⟩ : ∃ e, d = e + 1 := ⟨d - 1, by omega⟩
      have hbA : b ∈ (layer ws g (k + 1 + 1)).reverse := List.mem_reverse.mpr (mem_layer.mpr ⟨hbw, by omega⟩)
      have hArev : A.reverse = (layer ws g (k + 1 + 1)).reverse ++ (hiOf ws g (k + 1 + 1) e).reverse := by
        rw [← hA]
        show (hiOf ws g (k + 1 + 1) e ++ layer ws g (k + 1 + 1)).reverse = _
        rw [List.reverse_append]
      by_cases hfw2 : pos f ws < pos b ws
      · have hgf : ((k + 1 + 1 : Nat) : Int) ≤ g f := by
          rw [if_pos hfw2] at hgn
          split at hgn <;> omega
        left
        have hfA : f ∈ (layer ws g (k + 1 + 1)).reverse := List.mem_reverse.mpr (mem_layer.mpr ⟨hfw, hgf⟩)
        rw [hArev, pos_app_in hbA, pos_app_in hfA, layer_rev]
        have := (pos_filter (p := fun x => decide (((k + 1 + 1 : Nat) : Int) ≤ g x)) (decide_eq_true hgf) (decide_eq_true (show ((k + 1 + 1 : Nat) : Int) ≤ g b by omega)) ws).mpr hfw2
        omega
      · exfalso
        refine hfin (hfB (by omega) ?_)
        rw [if_neg hfw2] at hgn
        split at hgn <;> omega
    · -- its first going
      have hbA : b ∉ A.reverse := fun z => by
        have h1 := List.mem_reverse.mp z
        rw [← hA] at h1
        have := (mem_hi h1).2
        omega
      by_cases hfA : f ∈ A.reverse
      · left
        rw [pos_out hbA]
        have := pos_lt hfA
        omega
      · right
        rw [pos_out hbA, pos_out hfA, List.length_reverse]
        refine ⟨by omega, by omega, Nat.lt_of_not_le fun hz => ?_⟩
        rw [if_neg (show ¬ pos f zs < pos b zs by omega)] at hgn
        by_cases hfw2 : pos f ws < pos b ws
        · rw [if_pos hfw2] at hgn
          refine hfA (List.mem_reverse.mpr ?_)
          rw [← hA]
          refine hi_mem hfw (by omega) (Nat.pos_of_ne_zero fun e => ?_)
          have := top f hfz
          rw [e] at this
          omega
        · rw [if_neg hfw2] at hgn
          exact hfin (hfB (by omega) (by omega))
theorem hi_let {zs ws : List Str} {qs : List (Str × Str)} {g : Str → Int} (hs : Sol zs ws qs g) (pm : ws.Perm zs) (nd : zs.Nodup) (cl : ∀ q ∈ qs, q.2 ∈ zs ∧ q.1 ≠ q.2 ∧ q.1 ∈ zs) : ∀ {d k : Nat}, (∀ x ∈ zs, g x ≤ ((k + d : Nat) : Int)) → refAt qs zs (hiOf ws g k d) = none
  | 0, k, _ => rfl
  | d + 1, k, top => by
    have top2 : ∀ x ∈ zs, g x ≤ ((k + 1 + d : Nat) : Int) := fun x hx => by
      have := top x hx
      omega
    have h1 := hi_let hs pm nd cl (d := d) (k := k + 1) top2
    have go : ∀ n, n ≤ (layer ws g (k + 1)).length → refAt qs zs (hiOf ws g (k + 1) d ++ (layer ws g (k + 1)).take n) = none := fun n => by
      induction n with
      | zero =>
        intro _
        rw [List.take_zero, List.append_nil]
        exact h1
      | succ n ih =>
        intro hn
        have hb : (layer ws g (k + 1))[n]? = some (layer ws g (k + 1))[n] := List.getElem?_eq_getElem (by omega)
        rw [List.take_add_one, hb, ← List.append_assoc]
        exact refAt_snoc (ih (by omega)) (turn_let hs pm nd cl top2 hb)
    have := go _ (Nat.le_refl _)
    rw [List.take_length] at this
    exact this
theorem rowOf_let {zs ws : List Str} {qs : List (Str × Str)} {g : Str → Int} {m : Nat} (hs : Sol zs ws qs g) (pm : ws.Perm zs) (nd : zs.Nodup) (cl : ∀ q ∈ qs, q.2 ∈ zs ∧ q.1 ≠ q.2 ∧ q.1 ∈ zs) (top : ∀ x ∈ zs, g x ≤ (m : Int)) : refAt qs zs (rowOf ws g m) = none := by
  have h1 := hi_let hs pm nd cl (d := m) (k := 0) (by rw [Nat.zero_add]; exact top)
  have h2 := hi_row ws g m 0
  rw [Nat.zero_add] at h2
  rw [← h2]
  show refAt qs zs (hiOf ws g 0 m ++ []) = none
  rw [List.append_nil]
  exact h1
/-! what it leaves -/
theorem ded_app_sub : ∀ {a b : List Str}, a.Nodup → (∀ x ∈ b, x ∈ a) → ded (a ++ b) = a := by
  intro a b nd hb
  rw [← dedG_nil]
  unfold dedG
  rw [List.foldl_append]
  have h1 : a.foldl (fun a y => if y ∈ a then a else a ++ [y]) [] = a := by
    have := dedG_nil a
    rw [ded_nodup nd] at this
    exact this
  rw [h1]
  have h2 : ∀ (l : List Str), (∀ x ∈ l, x ∈ a) → l.foldl (fun a y => if y ∈ a then a else a ++ [y]) a = a := fun l => by
    induction l with
    | nil => intro _; rfl
    | cons x r ih =>
      intro h
      show r.foldl _ (if x ∈ a then a else a ++ [x]) = a
      rw [if_pos (h x List.mem_cons_self)]
      exact ih fun y hy => h y (List.mem_cons_of_mem _ hy)
  exact h2 b hb
theorem rise_uniq {zs : List Str} : ∀ {l m : List Str}, l.Perm m → l.Pairwise (fun x y => pos x zs < pos y zs) → m.Pairwise (fun x y => pos x zs < pos y zs) → l = m
  | [], m, h, _, _ => (List.nil_perm.mp h).symm
  | a :: r, [], h, _, _ => absurd h.length_eq (by simp)
  | a :: r, b :: t, h, h1, h2 => by
    have e : a = b := by
      rcases List.mem_cons.mp (h.mem_iff.mp (List.mem_cons_self (a := a) (l := r))) with z | z
      · exact z
      · rcases List.mem_cons.mp (h.mem_iff.mpr (List.mem_cons_self (a := b) (l := t))) with y | y
        · exact y.symm
        · have i1 := (List.pairwise_cons.mp h1).1 b y
          have i2 := (List.pairwise_cons.mp h2).1 a z
          omega
    subst e
    rw [rise_uniq (List.Perm.cons_inv h) (List.pairwise_cons.mp h1).2 (List.pairwise_cons.mp h2).2]
theorem chain_pw {α : Type} {R : α → α → Prop} (tr : ∀ x y z, R x y → R y z → R x z) : ∀ {l : List α}, (∀ i x y, l[i]? = some x → l[i + 1]? = some y → R x y) → l.Pairwise R
  | [], _ => .nil
  | [a], _ => List.pairwise_singleton ..
  | a :: b :: r, h => by
    have h1 := chain_pw tr (l := b :: r) fun i x y hx hy => h (i + 1) x y hx hy
    have hab : R a b := h 0 a b rfl rfl
    refine List.pairwise_cons.mpr ⟨fun x hx => ?_, h1⟩
    rcases List.mem_cons.mp hx with e | e
    · rw [e]
      exact hab
    · exact tr _ _ _ hab ((List.pairwise_cons.mp h1).1 x e)
theorem preSplit {P : Str → Prop} : ∀ {ws : List Str}, (∀ (i j : Nat) (x y : Str), j ≤ i → ws[i]? = some x → ws[j]? = some y → P x → P y) → ∃ n, (∀ x ∈ ws.take n, P x) ∧ ∀ x ∈ ws.drop n, ¬ P x
  | [], _ => ⟨0, (fun x hx => nomatch hx), fun x hx => nomatch hx⟩
  | a :: r, h => by
    by_cases pa : P a
    · obtain ⟨n, h1, h2⟩ := preSplit (ws := r) fun i j x y hj hx hy => h (i + 1) (j + 1) x y (by omega) hx hy
      refine ⟨n + 1, fun x hx => ?_, h2⟩
      rcases List.mem_cons.mp (show x ∈ a :: r.take n from hx) with e | e
      · rw [e]
        exact pa
      · exact h1 x e
    · refine ⟨0, (fun x hx => nomatch hx), fun x hx px => pa ?_⟩
      obtain ⟨i, hi⟩ := List.mem_iff_getElem?.mp (show x ∈ a :: r from hx)
      exact h i 0 x a (Nat.zero_le _) hi rfl px
/-- who goes lies on top in the other heap -/
theorem Sol.prefix {zs ws : List Str} {qs : List (Str × Str)} {g : Str → Int} (hs : Sol zs ws qs g) : ∃ n, (∀ x ∈ ws.take n, 1 ≤ g x) ∧ ∀ x ∈ ws.drop n, g x ≤ 0 := by
  obtain ⟨n, h1, h2⟩ := preSplit (P := fun x => 1 ≤ g x) (ws := ws) fun i j x y hj hx hy px => hs.up i x hx (.inl (show 0 < g x by omega)) j y hj hy
  exact ⟨n, h1, fun x hx => by have := h2 x hx; omega⟩
theorem rowOf_left {zs ws : List Str} {qs : List (Str × Str)} {g : Str → Int} {m : Nat} (hs : Sol zs ws qs g) (pm : ws.Perm zs) (nd : zs.Nodup) (top : ∀ x ∈ zs, g x ≤ (m : Int)) : lefts zs (rowOf ws g m) = ws := by
  have wnd : ws.Nodup := pm.nodup_iff.mpr nd
  obtain ⟨n, hup, hdn⟩ := hs.prefix
  have hft : ws.filter (fun x => decide (((0 + 1 : Nat) : Int) ≤ g x)) = ws.take n := by
    conv => lhs; rw [← List.take_append_drop n ws]
    rw [List.filter_append, List.filter_eq_self.mpr fun x hx => decide_eq_true (by have := hup x hx; omega), List.filter_eq_nil_iff.mpr fun x hx => by have := hdn x hx; simp; omega, List.append_nil]
  have hded : ded (rowOf ws g m).reverse = ws.take n := by
    cases m with
    | zero =>
      have : ws.take n = [] := List.eq_nil_iff_forall_not_mem.mpr fun x hx => by
        have h1 := hup x hx
        have h2 := top x (pm.mem_iff.mp (List.mem_of_mem_take hx))
        omega
      rw [this]
      rfl
    | succ j =>
      have h2 := hi_row ws g (j + 1) 0
      rw [Nat.zero_add] at h2
      have e : rowOf ws g (j + 1) = hiOf ws g 1 j ++ layer ws g (0 + 1) := by
        rw [← h2]
        show (hiOf ws g (0 + 1) j ++ layer ws g (0 + 1)) ++ [] = _
        rw [List.append_nil]
      rw [e, List.reverse_append, layer_rev, hft]
      refine ded_app_sub (wnd.sublist (List.take_sublist ..)) fun x hx => ?_
      obtain ⟨h3, h4⟩ := mem_hi (List.mem_reverse.mp hx)
      rw [← hft]
      exact List.mem_filter.mpr ⟨h3, decide_eq_true (by omega)⟩
  rw [lefts_last]
  unfold byLast
  rw [hded]
  conv => rhs; rw [← List.take_append_drop n ws]
  congr 1
  have hmem : ∀ z ∈ zs, (z ∉ ws.take n ↔ z ∈ ws.drop n) := fun z hz => by
    have h1 := pm.mem_iff.mpr hz
    rw [← List.take_append_drop n ws] at h1 wnd
    have h2 := (List.nodup_append.mp wnd).2.2
    rcases List.mem_append.mp h1 with h3 | h3
    · exact ⟨fun h => absurd h3 h, fun h => absurd rfl (h2 z h3 z h)⟩
    · exact ⟨fun _ => h3, fun _ h => absurd rfl (h2 z h z h3)⟩
  refine rise_uniq (zs := zs) ?_ ?_ ?_
  · have n1 : (zs.filter fun z => decide (z ∉ ws.take n)).Nodup := nd.sublist (List.filter_sublist ..)
    have n2 : (ws.drop n).Nodup := wnd.sublist (List.drop_sublist ..)
    refine (List.perm_ext_iff_of_nodup n1 n2).mpr fun z => ?_
    rw [List.mem_filter]
    constructor
    · rintro ⟨h1, h2⟩
      exact (hmem z h1).mp (of_decide_eq_true h2)
    · intro h
      have hz : z ∈ zs := pm.mem_iff.mp (List.mem_of_mem_drop h)
      exact ⟨hz, decide_eq_true ((hmem z hz).mpr h)⟩
  · exact (nodup_rise nd).sublist (List.filter_sublist ..)
  · refine chain_pw (fun x y z h1 h2 => by omega) fun i x y hx hy => ?_
    rw [List.getElem?_drop] at hx hy
    refine Nat.lt_of_not_le fun hle => ?_
    have hx0 := hdn x (List.mem_iff_getElem?.mpr ⟨i, by rw [List.getElem?_drop]; exact hx⟩)
    have hxz : x ∈ zs := pm.mem_iff.mp (List.mem_of_getElem? hx)
    have hyz : y ∈ zs := pm.mem_iff.mp (List.mem_of_getElem? hy)
    have hne : x ≠ y := fun e => by
      have h1 := pos_at wnd hx
      have h2 := pos_at wnd hy
      rw [e] at h1
      omega
    have hlt : pos y zs < pos x zs := Nat.lt_of_le_of_ne hle fun e => hne (pos_inj hxz hyz e.symm)
    have := hs.up (n + i) x hx (.inr ⟨y, by rw [show n + i + 1 = n + (i + 1) by omega]; exact hy, hlt⟩) (n + i) x (Nat.le_refl _) hx
    omega
end HF
namespace HF
open PySem PySem.Spec PyProof.Rows L2
/-! ### plain tuples: slices, sums -/
section
variable {X : Cx}
def rSlTp : V → Option Int → Option Int → Hp → VK → Prop := fun x lo hi H Q => ∃ a xs, x = .ref a ∧ Tp H a xs ∧ ∀ b H', Same H H' → Tp H' b (cutV xs lo hi) → Q (.ref b) H'
theorem sl_tp : SlR X rSlTp := by
  intro pn st σ H x val vl vu lo hi sl Q I rel isS pl pu hyp
  obtain ⟨a, xs, rfl, tp, q⟩ := hyp
  by_cases whole : HT.sIx xs.length 0 lo = 0 ∧ HT.sIx xs.length xs.length hi = xs.length
  · refine sl_tupA pn st σ H _ val vl vu lo hi sl Q I rel isS pl pu ⟨a, xs, rfl, tp.sq, fun _ => q a H (Same.refl _) ?_, fun no => absurd whole no⟩
    have e : cutV xs lo hi = xs := by
      unfold cutV
      rw [whole.1, whole.2]
      simp
    rw [e]
    exact tp
  · cases rel
    obtain ⟨its, rv, ist, hz⟩ := I.tuple (tp.sq (K := X.K))
    have many : its.toArray.size = xs.length := by
      rw [List.size_toArray]
      exact rv.length.symm
    refine ⟨"tuple", _, PyProof.Rows.slot_tuple_getitem.lookup, ist.typeIs, HT.getItem_tuple_cut ist isS pl pu (by rw [many]; exact whole) ?_ (by rw [many]; exact hz)⟩
    rw [many]
    let ob : Obj := { cls := .type "tuple", data := .seq ((its.drop (HT.sIx xs.length 0 lo)).take (HT.sIx xs.length xs.length hi - HT.sIx xs.length 0 lo)).toArray }
    refine ⟨.ref st.heap.objs.size, _, I.laid (t' := st.toks) (o := .frz ob (.tup (cutV xs lo hi))) (fun d u e => Heap.get?_push_of_some _ e) (Nat.le_refl _) ⟨Heap.get?_push_size _ rfl, Nat.le_trans (cutV_length xs lo hi) hz, _, (rv.drop (HT.sIx xs.length 0 lo)).take (HT.sIx xs.length xs.length hi - HT.sIx xs.length 0 lo), IsTup.new _ _⟩, rfl, q _ _ (same_upd (I.hok.fresh (Nat.le_refl _))) ⟨ob, upd_same, rfl, rfl⟩⟩
def rCatTp (K : PySem.W.Frag) : R2 := fun x y H Q => ∃ a b xs ys, x = .ref a ∧ y = .ref b ∧ Tp H a xs ∧ Tp H b ys ∧ xs.length + ys.length ≤ sizeLine ∧ ∀ l H', Same H H' → Tp H' l (xs ++ ys) → Q (.ref l) H'
theorem op_catTp : OpR X (binaryOp .Add) (rCatTp X.K) := by
  intro pn st σ H x y v u Q I rx ry hyp
  obtain ⟨a, b, xs, ys, rfl, rfl, ta, tb, hz, q⟩ := hyp
  by_cases hx : xs = []
  · subst hx
    exact op_catA pn st σ H _ _ v u Q I rx ry ⟨a, b, [], ys, rfl, rfl, ta.sq, tb.sq, hz, fun _ => q b H (Same.refl _) tb, fun z => absurd rfl z, fun z => absurd rfl z⟩
  · refine op_catF pn st σ H _ _ v u Q I rx ry ⟨a, b, xs, ys, rfl, rfl, ta.sq, tb.sq, hx, hz, fun e => q a H (Same.refl _) (by rw [e, List.append_nil]; exact ta), fun _ l ob nl e1 e2 => q l _ (same_upd nl) ⟨ob, upd_same, e1, e2⟩⟩
end
/-! ### a few neighbours exchanged -/
theorem cutTp_to (xs : List V) (k : Nat) : cutV xs none (some (k : Int)) = xs.take k := cutTo xs k
theorem cutTp_mid (xs : List V) (k : Nat) : cutV xs (some (k : Int)) (some ((k : Int) + 2)) = (xs.drop k).take 2 := by
  unfold cutV
  rw [HT.sIx_nat, show ((k : Int) + 2) = ((k + 2 : Nat) : Int) by omega, HT.sIx_nat]
  by_cases h : k ≤ xs.length
  · rw [Nat.min_eq_left h]
    by_cases h2 : k + 2 ≤ xs.length
    · rw [Nat.min_eq_left h2, show k + 2 - k = 2 by omega]
    · rw [Nat.min_eq_right (by omega), List.take_of_length_le (by rw [List.length_drop]; omega), List.take_of_length_le (by rw [List.length_drop]; omega)]
  · rw [Nat.min_eq_right (by omega), Nat.min_eq_right (by omega), List.drop_length, List.drop_eq_nil_of_le (by omega)]
    simp
theorem cutTp_from (xs : List V) (k : Nat) : cutV xs (some ((k : Int) + 2)) none = xs.drop (k + 2) := by
  have := cutFrom xs (k + 2)
  rw [show ((k + 2 : Nat) : Int) = (k : Int) + 2 by omega] at this
  exact this
def swp (k : Nat) (zs : List Str) : List Str := zs.take k ++ ((zs.drop k).take 2).reverse ++ zs.drop (k + 2)
theorem swp_perm (k : Nat) (zs : List Str) : (swp k zs).Perm zs := by
  unfold swp
  refine (((List.reverse_perm ((zs.drop k).take 2)).append_left (zs.take k)).append_right (zs.drop (k + 2))).trans ?_
  have e : zs.take k ++ (zs.drop k).take 2 ++ zs.drop (k + 2) = zs := by
    rw [List.append_assoc, show zs.drop (k + 2) = (zs.drop k).drop 2 by rw [List.drop_drop], List.take_append_drop, List.take_append_drop]
  rw [e]
theorem swp_map (k : Nat) (zs : List Str) : (zs.map V.str).take k ++ (((zs.map V.str).drop k).take 2).reverse ++ (zs.map V.str).drop (k + 2) = (swp k zs).map V.str := by
  unfold swp
  rw [List.map_append, List.map_append, List.map_reverse, List.map_take, List.map_drop, List.map_take, List.map_drop]
/-- another heap of the same books -/
def spFar : Sp := fun vs H Q _ => ∃ (p h r : Addr) (c : Int) (zs : List Str) (L : SL), vs = [.ref p, .ref h, .ref r] ∧ Bx H p c ∧ c < 2 ^ 37 ∧ Tp H h (zs.map V.str) ∧ zs.Nodup ∧ zs ≠ [] ∧ zs.length ≤ 12 ∧ Ties zs H r L ∧
  ∀ (H' : Hp) (o : Addr) (ws : List Str) (c' : Int), Oth p H H' → Tp H' o (ws.map V.str) → ws.Perm zs → Bx H' p c' → c ≤ c' → c' ≤ c + 60 → Q (.ref o) H'
/-! ### goings never raise a ring's number -/
theorem T_step {qs : List (Str × Str)} {zs ls : List Str} {b : Str} (h : Rng qs zs ls) (nd : zs.Nodup) (hb : b ∈ zs) (hl : lets qs zs b = true) : T (onTop b zs) ls ≤ T zs ls := by
  by_cases hin : b ∈ ls
  · obtain ⟨u, v, rfl, _⟩ := split_at hin
    have two := h.two
    obtain ⟨f, hf⟩ : ∃ f, (v ++ u).getLast? = some f := by
      cases e : (v ++ u).getLast? with
      | some f => exact ⟨f, rfl⟩
      | none =>
        have := List.getLast?_eq_none_iff.mp e
        have l2 := congrArg List.length this
        rw [List.length_append] at l2 two
        have l3 : v.length + u.length = 0 := l2
        rw [List.length_cons] at two
        omega
    have := (fall_in h nd hb hl hf).1
    split at this <;> omega
  · rw [fall_out hin]
    exact Nat.le_refl _
theorem T_row {qs : List (Str × Str)} {ls : List Str} : ∀ {row zs : List Str}, Rng qs zs ls → zs.Nodup → (∀ b ∈ row, b ∈ zs) → refAt qs zs row = none → T (lefts zs row) ls ≤ T zs ls
  | [], zs, _, _, _, _ => Nat.le_refl _
  | b :: r, zs, h, nd, hin, hr => by
    obtain ⟨h1, h2⟩ := refAt_none hr
    have hb := hin b List.mem_cons_self
    have pm := onTop_perm nd hb
    have h3 := T_step h nd hb h1
    have h4 := T_row (row := r) (zs := onTop b zs) (h.perm pm) (pm.nodup_iff.mpr nd) (fun x hx => pm.mem_iff.mpr (hin x (List.mem_cons_of_mem _ hx))) h2
    show T (lefts (onTop b zs) r) ls ≤ T zs ls
    omega
end HF
namespace HF
open PySem PySem.Spec PyProof.Rows L2
/-! ### the greatest sums of all ways -/
abbrev GF := Str → Str → Option Int
def setG (g : GF) (a b : Str) (v : Int) : GF := fun x y => if x = a ∧ y = b then some v else g x y
theorem setG_eq (g : GF) (a b : Str) (v : Int) : setG g a b v a b = some v := if_pos ⟨rfl, rfl⟩
theorem setG_ne (g : GF) {a b x y : Str} (v : Int) (h : ¬ (x = a ∧ y = b)) : setG g a b v x y = g x y := if_neg h
def Ge (g g' : GF) : Prop := ∀ a b v, g a b = some v → ∃ v', g' a b = some v' ∧ v ≤ v'
theorem Ge.refl (g : GF) : Ge g g := fun a b v h => ⟨v, h, Int.le_refl _⟩
theorem Ge.trans {g g1 g2 : GF} (h : Ge g g1) (h1 : Ge g1 g2) : Ge g g2 := fun a b v e => by
  obtain ⟨v1, e1, l1⟩ := h a b v e
  obtain ⟨v2, e2, l2⟩ := h1 a b v1 e1
  exact ⟨v2, e2, Int.le_trans l1 l2⟩
theorem Ge.set {g : GF} {a b : Str} {v : Int} (h : ∀ w, g a b = some w → w ≤ v) : Ge g (setG g a b v) := fun x y w e => by
  by_cases z : x = a ∧ y = b
  · rw [z.1, z.2] at e ⊢
    exact ⟨v, setG_eq _ _ _ _, h w e⟩
  · exact ⟨w, by rw [setG_ne _ _ z]; exact e, Int.le_refl _⟩
/-- no sum climbs above heights -/
def Und (p : Str → Int) (g : GF) : Prop := ∀ a b v, g a b = some v → v ≤ p b - p a
theorem Und.set {p : Str → Int} {g : GF} {a b : Str} {v : Int} (h : Und p g) (hv : v ≤ p b - p a) : Und p (setG g a b v) := fun x y w e => by
  by_cases z : x = a ∧ y = b
  · rw [z.1, z.2, setG_eq] at e
    cases e
    rw [z.1, z.2]
    exact hv
  · rw [setG_ne _ _ z] at e
    exact h x y w e
/-- all ways whose books between are among some -/
def Ways (zs ws : List Str) (qs : List (Str × Str)) (ms : List Str) (g : GF) : Prop := ∀ (a b : Str) (xs : List Str), Ch qs (a :: xs ++ [b]) → xs.Nodup → (∀ x ∈ xs, x ∈ ms) → ∃ v, g a b = some v ∧ ((C ws (a :: xs ++ [b]) : Nat) : Int) - ((C zs (a :: xs ++ [b]) : Nat) : Int) ≤ v
theorem Ways.none_ {zs ws : List Str} {qs : List (Str × Str)} {g : GF} (h : ∀ q ∈ qs, ∃ v, g q.1 q.2 = some v ∧ gn zs ws q ≤ v) : Ways zs ws qs [] g := fun a b xs hc nd hx => by
  cases xs with
  | cons x r => exact absurd (hx x List.mem_cons_self) (by simp)
  | nil =>
    obtain ⟨v, e, l⟩ := h (a, b) hc.1
    refine ⟨v, e, ?_⟩
    rw [gn_uu] at l
    show ((uu ws a b + 0 : Nat) : Int) - ((uu zs a b + 0 : Nat) : Int) ≤ v
    omega
theorem Ways.step {zs ws : List Str} {qs : List (Str × Str)} {g0 g : GF} {ms : List Str} {m : Str} (h : Ways zs ws qs ms g0) (cl : ∀ q ∈ qs, q.2 ∈ zs ∧ q.1 ≠ q.2 ∧ q.1 ∈ zs) (ge : Ge g0 g) (hm : ∀ a b v w, a ∈ zs → b ∈ zs → g0 a m = some v → g0 m b = some w → ∃ u, g a b = some u ∧ v + w ≤ u) : Ways zs ws qs (ms ++ [m]) g := fun a b xs hc nd hx => by
  by_cases hin : m ∈ xs
  · obtain ⟨u, w, rfl, _⟩ := split_at hin
    have nd2 := List.nodup_append.mp nd
    have nd3 := List.nodup_cons.mp nd2.2.1
    have hu : ∀ x ∈ u, x ∈ ms := fun x hxu => by
      have h1 := hx x (List.mem_append.mpr (.inl hxu))
      rcases List.mem_append.mp h1 with z | z
      · exact z
      · rw [List.mem_singleton.mp z] at hxu
        exact absurd rfl (nd2.2.2 m hxu m List.mem_cons_self)
    have hw : ∀ x ∈ w, x ∈ ms := fun x hxw => by
      have h1 := hx x (List.mem_append.mpr (.inr (List.mem_cons_of_mem _ hxw)))
      rcases List.mem_append.mp h1 with z | z
      · exact z
      · rw [List.mem_singleton.mp z] at hxw
        exact absurd hxw nd3.1
    have e : a :: (u ++ m :: w) ++ [b] = (a :: u) ++ m :: (w ++ [b]) := by simp
    rw [e] at hc
    obtain ⟨c1, c2⟩ := Ch.split hc
    obtain ⟨v1, e1, l1⟩ := h a m u (by simpa using c1) nd2.1 hu
    obtain ⟨v2, e2, l2⟩ := h m b w c2 nd3.2 hw
    have haz : a ∈ zs := by
      cases u with
      | nil => exact (cl _ c1.1).2.2
      | cons y t => exact (cl _ c1.1).2.2
    have hbz : b ∈ zs := by
      have go : ∀ (l : List Str) (y : Str), Ch qs (y :: l ++ [b]) → b ∈ zs := fun l => by
        induction l with
        | nil => exact fun y hy => (cl _ hy.1).1
        | cons z t ih => exact fun y hy => ih z hy.2
      exact go w m c2
    obtain ⟨v3, e3, l3⟩ := hm a b v1 v2 haz hbz e1 e2
    refine ⟨v3, e3, ?_⟩
    rw [e, C_split ws m (w ++ [b]) (a :: u), C_split zs m (w ++ [b]) (a :: u)]
    have l1' : ((C ws ((a :: u) ++ [m]) : Nat) : Int) - ((C zs ((a :: u) ++ [m]) : Nat) : Int) ≤ v1 := l1
    have l2' : ((C ws (m :: (w ++ [b])) : Nat) : Int) - ((C zs (m :: (w ++ [b])) : Nat) : Int) ≤ v2 := l2
    omega
  · obtain ⟨v, e, l⟩ := h a b xs hc nd fun x hxx => by
      rcases List.mem_append.mp (hx x hxx) with z | z
      · exact z
      · rw [List.mem_singleton.mp z] at hxx
        exact absurd hxx hin
    obtain ⟨v', e', l'⟩ := ge a b v e
    exact ⟨v', e', Int.le_trans l l'⟩
theorem Ways.ring {zs ws : List Str} {qs : List (Str × Str)} {g : GF} {ls : List Str} (h : Ways zs ws qs zs g) (r : Rng qs zs ls) (ht : T zs ls < T ws ls) : ∃ m ∈ zs, ∃ v, g m m = some v ∧ 0 < v := by
  cases ls with
  | nil => exact absurd ht (Nat.lt_irrefl _)
  | cons a l =>
    obtain ⟨v, e, lv⟩ := h a a l r.ch (List.nodup_cons.mp r.nd).2 (fun x hx => r.sub x (List.mem_cons_of_mem _ hx))
    refine ⟨a, r.sub a List.mem_cons_self, v, e, ?_⟩
    have ht2 : C zs (a :: l ++ [a]) < C ws (a :: l ++ [a]) := ht
    omega
/-! ### a dict by pairs -/
abbrev kk (a b : Str) : List Key := [Sum.inr a, Sum.inr b]
def DG (H : Hp) (D : Addr) (g : GF) (n : Nat) : Prop := ∃ kvs : List (List Key × V), H D = some (.dT kvs) ∧ kvs.length ≤ n ∧ ∀ a b, valV kvs (kk a b) = (g a b).map V.int
theorem DG.same {H H' : Hp} {D : Addr} {g : GF} {n : Nat} (d : DG H D g n) (s : Same H H') : DG H' D g n := by
  obtain ⟨kvs, e, r⟩ := d
  exact ⟨kvs, s _ _ e, r⟩
theorem DG.le {H : Hp} {D : Addr} {g : GF} {n m : Nat} (d : DG H D g n) (h : n ≤ m) : DG H D g m := by
  obtain ⟨kvs, e, l, v⟩ := d
  exact ⟨kvs, e, Nat.le_trans l h, v⟩
theorem DG.get {H : Hp} {D t : Addr} {g : GF} {n : Nat} {a b : Str} (d : DG H D g n) (ht : H t = some (.tup [.str a, .str b])) : DGet H D (.ref t) ((g a b).map V.int) := by
  obtain ⟨kvs, e, l, v⟩ := d
  have := DGet.t (k := kk a b) e ht
  rw [v] at this
  exact this
theorem kk_inj {a b x y : Str} : kk a b = kk x y ↔ a = x ∧ b = y := by
  constructor
  · intro h
    injection h with h1 h2
    injection h2 with h2 _
    exact ⟨Sum.inr.inj h1, Sum.inr.inj h2⟩
  · rintro ⟨rfl, rfl⟩
    rfl
theorem DG.put {H : Hp} {D t : Addr} {g : GF} {n : Nat} {a b : Str} {v : Int} (d : DG H D g n) (ht : H t = some (.tup [.str a, .str b])) (few : n ≤ 2000000) : ∃ kvs, DPut H D (.ref t) (.int v) (upd H D (.dT kvs)) ∧ DG (upd H D (.dT kvs)) D (setG g a b v) (n + 1) := by
  obtain ⟨kvs, e, l, hv⟩ := d
  refine ⟨putK kvs (kk a b) (.int v), .inr ⟨kvs, kk a b, t, e, rfl, ht, by rw [sizeLine_eq]; omega, rfl⟩, _, upd_same, Nat.le_trans (length_putK _ _ _) (Nat.succ_le_succ l), fun x y => ?_⟩
  rw [valV_put]
  unfold setG
  by_cases z : x = a ∧ y = b
  · rw [if_pos z, if_pos (kk_inj.mpr z)]
    rfl
  · rw [if_neg z, if_neg (fun q => z (kk_inj.mp q)), hv]
/-- whether some ring's number is greater -/
def spClimbs (K : PySem.W.Frag) : Sp := fun vs H Q _ => ∃ (h o r : Addr) (zs ws : List Str) (qs : List (Str × Str)), vs = [.ref h, .ref o, .ref r] ∧ Two K H h o r zs ws qs ∧
  ∀ (H' : Hp) (b : Bool), Same H H' → (∀ p, Pot zs ws qs p → b = false) → (∀ ls, Rng qs zs ls → T zs ls < T ws ls → b = true) → Q (.bl b) H'
theorem Kp.dT {K : PySem.W.Frag} {b D : Addr} {H Hx : Hp} {kvs : List (List Key × V)} (ox : OthA (· = D) H Hx) (e : H D = some (.dT kvs)) : Kp K b H Hx := ⟨fun xs z => by
  rcases z with (z | ⟨ob, z⟩) | z
  · exact .inl (.inl (ox _ _ z fun q => by rw [q, e] at z; exact nomatch z))
  · exact .inl (.inr ⟨ob, ox _ _ z fun q => by rw [q, e] at z; exact nomatch z⟩)
  · exact .inr z, fun xs z => by
  rcases z with (z | ⟨ob, z⟩) | z
  · exact .inl (.inl (ox _ _ z fun q => by rw [q, e] at z; exact nomatch z))
  · exact .inl (.inr ⟨ob, ox _ _ z fun q => by rw [q, e] at z; exact nomatch z⟩)
  · exact .inr z⟩
theorem for_lc {K : PySem.W.Frag} {wi : TI} {g g2 : TG} {tt : TT} {te : TE} {vs : List Nat} {tb : TS} {D : Ends} {σ : L2.St} {H : Hp} (h : tLc wi g tt te vs σ H (fun x H1 => ∃ a, x = .ref a ∧ (∃ xs, SqL K H1 a xs) ∧ tFor (fun _ H R => R (Itl K a) H) g2 tb D σ H1)) : tFor (iList K (tLc wi g tt te vs)) g2 tb D σ H := h
theorem max_two (x y : Int) : (if y > x then y else x) = max x y := by
  split <;> omega
theorem any_pos {zs : List Str} {g : GF} : ((zs.map fun m => decide (0 < ((g m m).getD 0))).any id) = true ↔ ∃ m ∈ zs, ∃ v, g m m = some v ∧ 0 < v := by
  rw [List.any_map, List.any_eq_true]
  constructor
  · rintro ⟨m, hm, e⟩
    have e2 : 0 < (g m m).getD 0 := of_decide_eq_true e
    cases hg : g m m with
    | none =>
      rw [hg] at e2
      exact absurd e2 (by decide)
    | some v =>
      rw [hg] at e2
      exact ⟨m, hm, v, hg, e2⟩
  · rintro ⟨m, hm, v, hg, hv⟩
    refine ⟨m, hm, ?_⟩
    show decide (0 < (g m m).getD 0) = true
    rw [hg]
    exact decide_eq_true hv
/-- the books whose pair is told -/
theorem lc_told {K : PySem.W.Frag} {k0 k8 : Nat} {a D0 : Addr} {zs : List Str} {g : GF} {n : Nat} {σ : L2.St} {H : Hp} {Q : VK} {tt : TT} (pr : Str → Str × Str) (hv : σ[k0]? = some (some (.ref a))) (hq : Sq K H a (zs.map V.str)) (few : zs.length ≤ 100) (hD : DG H D0 g n)
    (hw : ∀ x : V, wipe ((wipe σ [k8]).set k8 (some x)) [k8] = wipe σ [k8]) (hx : ∀ x : V, ((wipe σ [k8]).set k8 (some x))[k8]? = some (some x))
    (ht : ∀ (x : Str) (H2 : Hp) (R : Bool → Hp → Prop), DG H2 D0 g n → (∀ t, H2 t = none → R ((g (pr x).1 (pr x).2).map V.int).isSome (upd H2 t (.tup [.str (pr x).1, .str (pr x).2]))) → tt ((wipe σ [k8]).set k8 (some (.str x))) H2 R)
    (hd : ∀ D H', H D = none → Same H H' → H' D = some (.lst ((zs.filter fun x => (g (pr x).1 (pr x).2).isSome).map V.str)) → Q (.ref D) H') : tLc (iSeq K (tVar k0)) (gName k8) tt (tVar k8) [k8] σ H Q := by
  refine ⟨.ref a, hv, a, rfl, iseq hq fun J wkk D nD => lc_it wkk (fun i H4 => Same H H4 ∧ H4 D = some (.lst (((zs.take i).filter fun x => (g (pr x).1 (pr x).2).isSome).map V.str))) ⟨same_upd nD, upd_same⟩ (fun i H4 _ h => Kp.of h.1) ?_ ?_⟩
  · rintro i x H4 H5 hi ⟨s4, hE⟩ ⟨rfl, hx4⟩
    rw [List.getElem?_map] at hx4
    obtain ⟨x, hxi, rfl⟩ := Option.map_eq_some_iff.mp hx4
    have etk : (zs.take (i + 1)) = zs.take i ++ [x] := by
      rw [List.take_add_one, hxi]
      rfl
    refine ⟨hw _, ht x H5 _ (hD.same s4) fun t nt => ?_⟩
    have s6 := same_upd (o := .tup [.str (pr x).1, .str (pr x).2]) nt
    generalize (upd H5 t (.tup [.str (pr x).1, .str (pr x).2])) = H6 at *
    have eis : ((g (pr x).1 (pr x).2).map V.int).isSome = (g (pr x).1 (pr x).2).isSome := by cases g (pr x).1 (pr x).2 <;> rfl
    rw [eis]
    by_cases hin : (g (pr x).1 (pr x).2).isSome = true
    · rw [hin]
      refine iteT ⟨.str x, hx _, _, s6 _ _ hE, ?_, same_put (s4.trans s6) nD, ?_⟩
      · have := List.length_filter_le (fun x => (g (pr x).1 (pr x).2).isSome) (zs.take i)
        rw [List.length_take] at this
        rw [List.length_map, sizeLine_eq]
        omega
      · rw [upd_same, etk, List.filter_append, List.map_append, List.filter_cons_of_pos (p := fun x => (g (pr x).1 (pr x).2).isSome) (a := x) hin]
        rfl
    · rw [Bool.eq_false_iff.mpr hin]
      refine iteF ⟨s4.trans s6, ?_⟩
      rw [etk, List.filter_append, List.filter_cons_of_neg (p := fun x => (g (pr x).1 (pr x).2).isSome) (a := x) hin, List.filter_nil, List.append_nil]
      exact s6 _ _ hE
  · rintro H4 ⟨s4, hE⟩
    rw [List.length_map, List.take_length] at hE
    exact hd D H4 nD s4 hE
end HF
/-! either heights stand, or some ring grows -/
namespace HF
open PySem PySem.Spec PyProof.Rows L2
theorem mid_all {qs : List (Str × Str)} {g : Str × Str → Int} {t : Nat} (ne : ∀ q ∈ qs, q.1 ≠ q.2) {S : Str → Prop} (hS : ∀ q ∈ qs, S q.2) : ∀ (rest done : List (Str × Str)) (h : Str → Int) (c : Str → Option Str) (r : Str → Nat) (last : Option Str), done ++ rest = qs → Mid qs g t h c r done last → (∀ f, last = some f → S f) →
    ∃ (h' : Str → Int) (c' : Str → Option Str) (r' : Str → Nat) (last' : Option Str), Mid qs g t h' c' r' qs last' ∧ ∀ f, last' = some f → S f
  | [], done, h, c, r, last, e, m, hl => by
    rw [List.append_nil] at e
    subst e
    exact ⟨h, c, r, last, m, hl⟩
  | (u, v) :: rest, done, h, c, r, last, e, m, hl => by
    have hq : (u, v) ∈ qs := by
      rw [← e]
      simp
    have e2 : (done ++ [(u, v)]) ++ rest = qs := by
      rw [← e]
      simp
    by_cases hs : h v < h u + g (u, v)
    · exact mid_all ne hS rest _ _ _ _ _ e2 (m.raise (fun q hq2 => by rw [← e]; exact List.mem_append_left _ hq2) hq (ne _ hq) hs) (fun f hf => by cases hf; exact hS _ hq)
    · exact mid_all ne hS rest _ _ _ _ _ e2 (m.keep (q := (u, v)) hs) hl
theorem bf_go {zs ws : List Str} {qs : List (Str × Str)} (cl : ∀ q ∈ qs, q.2 ∈ zs ∧ q.1 ≠ q.2 ∧ q.1 ∈ zs) : ∀ t : Nat, (∃ p, Pot zs ws qs p) ∨ ∃ (h : Str → Int) (c : Str → Option Str) (r : Str → Nat), Bf qs (gn zs ws) t h c r [] ∧ (t = 0 ∨ ∃ f ∈ zs, r f = t)
  | 0 => .inr ⟨_, _, _, Bf.start _ _, .inl rfl⟩
  | t + 1 => by
    rcases bf_go (ws := ws) cl t with hp | ⟨h, c, r, b, _⟩
    · exact .inl hp
    · obtain ⟨h', c', r', last, m, hl⟩ := mid_all (fun q hq => (cl q hq).2.1) (S := fun f => f ∈ zs) (fun q hq => (cl q hq).1) qs [] h c r none rfl b.mid (fun f hf => nomatch hf)
      cases last with
      | none => exact .inl ⟨h', m.pot fun q hq => ⟨(cl q hq).2.2, (cl q hq).1⟩⟩
      | some f => exact .inr ⟨h', c', r', m.toBf.turn, .inr ⟨f, hl f rfl, m.some_ f rfl⟩⟩
theorem dich {zs ws : List Str} {qs : List (Str × Str)} (nd : zs.Nodup) (cl : ∀ q ∈ qs, q.2 ∈ zs ∧ q.1 ≠ q.2 ∧ q.1 ∈ zs) : (∃ p, Pot zs ws qs p) ∨ ∃ ls, Rng qs zs ls ∧ T zs ls < T ws ls := by
  rcases bf_go (ws := ws) cl zs.length with hp | ⟨h, c, r, b, e⟩
  · exact .inl hp
  · rcases e with e | ⟨f, hf, e⟩
    · have ez := List.length_eq_zero_iff.mp e
      subst ez
      exact .inl ⟨fun _ => 0, fun _ => Int.le_refl _, fun v hv => (by cases hv), fun q hq => (by have := (cl q hq).1; cases this)⟩
    · obtain ⟨s, hs, _⟩ := wk_has b (v := f) (k := zs.length) (by omega)
      obtain ⟨q, m, hm, h0, hqm, hq, hl⟩ := wk_round nd hf (fun x y hxy => (cl _ (b.e x y hxy).1).2.2) hs
      exact .inr ⟨_, b.ring cl hm h0 hqm hq hl⟩
/-- the heap leads there -/
noncomputable def ld (zs ws : List Str) (qs : List (Str × Str)) : Bool := @decide (∃ p, Pot zs ws qs p) (Classical.propDecidable _)
theorem ld_pot {zs ws : List Str} {qs : List (Str × Str)} {p : Str → Int} (h : Pot zs ws qs p) : ld zs ws qs = true := @decide_eq_true _ (Classical.propDecidable _) ⟨p, h⟩
theorem ld_ring {zs ws ls : List Str} {qs : List (Str × Str)} (h : Rng qs zs ls) (l : T zs ls < T ws ls) : ld zs ws qs = false := @decide_eq_false _ (Classical.propDecidable _) fun ⟨p, hp⟩ => absurd l (Nat.not_lt.mpr (hp.rings h))
theorem ld_fewer {zs ws : List Str} {qs rs : List (Str × Str)} (sub : ∀ q ∈ qs, q ∈ rs) (h : ld zs ws rs = true) : ld zs ws qs = true := by
  obtain ⟨p, hp⟩ := @of_decide_eq_true _ (Classical.propDecidable _) h
  exact @decide_eq_true _ (Classical.propDecidable _) ⟨p, hp.nn, hp.few, fun q hq => hp.ok q (sub q hq)⟩
end HF
/-! lists of pairs of texts -/
namespace HF
open PySem PySem.Spec PyProof.Rows L2
theorem walk_gen {J : It} {n : Nat} {G : Hp → Prop} {Y : Nat → Hp → V → Hp → Prop} (w : Walk J n G Y) {S : V → Hp → (Hp → Prop) → Prop} {H0 : Hp} {Qd : Hp → Prop} (Pv : Nat → Hp → Prop) (h0 : Pv 0 H0) (hG : ∀ i H, i ≤ n → Pv i H → G H)
    (hs : ∀ i x H H', i < n → Pv i H → Y i H x H' → S x H' (Pv (i + 1))) (hd : ∀ H, Pv n H → Qd H) :
    ∃ W : Nat → Nat → Hp → Prop, (∃ m, W 0 m H0) ∧ ∀ i m H, W i m H → (J.stop i H ∧ Qd H) ∨ (J.go i H ∧ ∃ Nx : Hp → Prop, (∀ H', Nx H' → ∃ m', m' < m ∧ W (i + 1) m' H') ∧ ∀ x H', J.yld i H x H' → S x H' Nx) := by
  refine ⟨fun i m H => m = n - i ∧ i ≤ n ∧ Pv i H, ⟨n, by simp, Nat.zero_le _, h0⟩, ?_⟩
  rintro i m H ⟨rfl, hi, p⟩
  have q := hG i H hi p
  by_cases hlt : i < n
  · exact .inr ⟨w.goes i H hlt q, Pv (i + 1), fun H' p' => ⟨n - (i + 1), by omega, rfl, hlt, p'⟩, fun x H' y => hs i x H H' hlt p (w.yields i H x H' hlt q y)⟩
  · have e : i = n := by omega
    subst e
    exact .inl ⟨w.stops H q, hd H p⟩
abbrev TPr := Addr × (Str × Str)
def AtT (H : Hp) (p : TPr) : Prop := H p.1 = some (.tup [.str p.2.1, .str p.2.2])
def rfs (ps : List TPr) : List V := ps.map fun p => V.ref p.1
def LPs (H : Hp) (l : Addr) (ps : List TPr) : Prop := H l = some (.lst (rfs ps)) ∧ ∀ p ∈ ps, AtT H p
theorem LPs.same {H H' : Hp} {l : Addr} {ps : List TPr} (h : LPs H l ps) (s : Same H H') : LPs H' l ps := ⟨s _ _ h.1, fun p hp => s _ _ (h.2 p hp)⟩
theorem LPs.push {H : Hp} {l t : Addr} {ps : List TPr} {a b : Str} (h : LPs H l ps) (ht : H t = some (.tup [.str a, .str b])) : LPs (upd H l (.lst (rfs ps ++ [.ref t]))) l (ps ++ [(t, (a, b))]) := by
  have ne : ∀ {x : Addr} {u v : V}, H x = some (.tup [u, v]) → x ≠ l := fun e z => by
    rw [z, h.1] at e
    exact nomatch e
  refine ⟨by rw [upd_same]; unfold rfs; rw [List.map_append]; rfl, fun p hp => ?_⟩
  rcases List.mem_append.mp hp with hp | hp
  · have := h.2 p hp
    show upd _ _ _ p.1 = _
    rw [upd_ne (ne this)]
    exact this
  · rw [List.mem_singleton.mp hp]
    show upd _ _ _ t = _
    rw [upd_ne (ne ht)]
    exact ht
theorem rfs_at {ps : List TPr} {i : Nat} {x : V} (h : (rfs ps)[i]? = some x) : ∃ p, ps[i]? = some p ∧ x = .ref p.1 := by
  unfold rfs at h
  rw [List.getElem?_map] at h
  obtain ⟨p, h1, rfl⟩ := Option.map_eq_some_iff.mp h
  exact ⟨p, h1, rfl⟩
theorem rfs_len (ps : List TPr) : (rfs ps).length = ps.length := List.length_map _
theorem LPs.pz {K : PySem.W.Frag} {H : Hp} {l : Addr} {ps : List TPr} (h : LPs H l ps) : Pz K H l (ps.map (·.2)) := by
  refine ⟨ps.map (·.1), ?_, by rw [List.length_map, List.length_map], fun i a q e f => ?_⟩
  · rw [List.map_map]
    exact .inl (.inl (.inl h.1))
  · rw [List.getElem?_map] at e f
    obtain ⟨p, e1, rfl⟩ := Option.map_eq_some_iff.mp e
    rw [e1] at f
    cases f
    exact .inr (.inl (.inl (h.2 p (List.mem_of_getElem? e1))))
def dPr (q : Str × Str) : PyData := .tuple [.str q.1, .str q.2]
theorem AtT.dp {K : PySem.W.Frag} {H : Hp} {p : TPr} (h : AtT H p) : Dp K H (.ref p.1) (dPr p.2) := .tup (.inl (.inl h)) (.cons (.str _) (.cons (.str _) .nil))
theorem dpAll_prs {K : PySem.W.Frag} {H : Hp} : ∀ {ps : List TPr}, (∀ p ∈ ps, AtT H p) → DpAll K H (rfs ps) (ps.map fun p => dPr p.2)
  | [], _ => .nil
  | p :: r, h => .cons (h p List.mem_cons_self).dp (dpAll_prs fun q hq => h q (List.mem_cons_of_mem _ hq))
theorem LPs.dp {K : PySem.W.Frag} {H : Hp} {l : Addr} {ps : List TPr} (h : LPs H l ps) : Dp K H (.ref l) (.list (ps.map fun p => dPr p.2)) := .lst (.inl (.inl h.1)) (dpAll_prs h.2)
theorem LPs.dpq {K : PySem.W.Frag} {H : Hp} {l : Addr} {ps : List TPr} {qs : List (Str × Str)} (h : LPs H l ps) (e : ps.map (·.2) = qs) : Dp K H (.ref l) (.list (qs.map dPr)) := by
  subst e
  rw [List.map_map]
  exact h.dp
theorem eqv_pr (a b : Str × Str) : PyData.eqv (dPr a) (dPr b) = decide (a = b) := by
  obtain ⟨a1, a2⟩ := a
  obtain ⟨b1, b2⟩ := b
  show ((a1 == b1) && ((a2 == b2) && true)) = _
  rw [Bool.and_true, Bool.eq_iff_iff, Bool.and_eq_true_iff, beq_iff_eq, beq_iff_eq, decide_eq_true_iff, Prod.mk.injEq]
theorem eqv_prs (q : Str × Str) : ∀ qs : List (Str × Str), ((qs.map dPr).any fun z => PyData.eqv z (dPr q)) = decide (q ∈ qs)
  | [] => by simp
  | p :: r => by
    rw [List.map_cons, List.any_cons, eqv_prs q r, eqv_pr]
    by_cases h : p = q
    · subst h
      simp
    · have : q ≠ p := fun z => h z.symm
      simp [h, this]
theorem canLay_prs : ∀ {qs : List (Str × Str)}, (∀ q ∈ qs, Nm q.1 ∧ Nm q.2) → PyData.canLayAll0 (qs.map dPr) = true
  | [], _ => rfl
  | q :: r, h => by
    have h1 := h q List.mem_cons_self
    show ((PyData.strOk q.1 && (PyData.strOk q.2 && true)) && PyData.canLayAll0 (r.map dPr)) = true
    rw [canLay_prs fun p hp => h p (List.mem_cons_of_mem _ hp), show PyData.strOk q.1 = true from h1.1.ok, show PyData.strOk q.2 = true from h1.2.ok]
    rfl
theorem depth_prs : ∀ {qs : List (Str × Str)}, PyData.depthAll (qs.map dPr) ≤ 1
  | [] => Nat.zero_le _
  | q :: r => by
    show max (max 0 (max 0 0) + 1) (PyData.depthAll (r.map dPr)) ≤ 1
    have := depth_prs (qs := r)
    omega
theorem wide_prs : ∀ {qs : List (Str × Str)}, wideAll (qs.map dPr) ≤ 2
  | [] => Nat.zero_le _
  | q :: r => by
    show max (max 2 (max 0 (max 0 0))) (wideAll (r.map dPr)) ≤ 2
    have := wide_prs (qs := r)
    omega
theorem shp_pr {q : Str × Str} (h : Nm q.1 ∧ Nm q.2) : SeqAt.shaped (dPr q) = true := by
  unfold SeqAt.shaped
  rw [show (dPr q).canLay0 = true from by
    show (PyData.strOk q.1 && (PyData.strOk q.2 && true)) = true
    rw [show PyData.strOk q.1 = true from h.1.ok, show PyData.strOk q.2 = true from h.2.ok]
    rfl]
  rfl
theorem shp_prsL {qs : List (Str × Str)} (h : ∀ q ∈ qs, Nm q.1 ∧ Nm q.2) : SeqAt.shaped (.list (qs.map dPr)) = true := by
  unfold SeqAt.shaped
  rw [show (PyData.list (qs.map dPr)).canLay0 = true from canLay_prs h]
  have := depth_prs (qs := qs)
  exact decide_eq_true (show PyData.depthAll (qs.map dPr) + 1 ≤ 64 by omega)
theorem shp_prsT {qs : List (Str × Str)} (h : ∀ q ∈ qs, Nm q.1 ∧ Nm q.2) : SeqAt.shaped (.tuple (qs.map dPr)) = true := by
  unfold SeqAt.shaped
  rw [show (PyData.tuple (qs.map dPr)).canLay0 = true from canLay_prs h]
  have := depth_prs (qs := qs)
  exact decide_eq_true (show PyData.depthAll (qs.map dPr) + 1 ≤ 64 by omega)
section
variable {X : Cx}
def rNotInL (K : PySem.W.Frag) : R2 := fun x y H Q => ∃ d ds, Dp K H x d ∧ Dp K H y (.list ds) ∧ SeqAt.shaped d = true ∧ SeqAt.shaped (.list ds) = true ∧ Q (.bl (!ds.any fun z => PyData.eqv z d)) H
theorem op_notInL (hu : X.A.units + 65 < cLine) : OpR X (compareOp .NotIn) (rNotInL X.K) := by
  intro pins s σ H x y v u Q I rx ry hyp
  obtain ⟨d, ds, hd, he, sd, se, q⟩ := hyp
  obtain ⟨as, r1⟩ := Dp.reads I d x v hd rx
  obtain ⟨bs, r2⟩ := Dp.reads I (.list ds) y u he ry
  have deep : d.depth ≤ 64 := of_decide_eq_true (Bool.and_eq_true_iff.mp sd).2
  exact SeqAt.notIn_list_reads r2 r1 (SeqAt.canLay_of_shaped se) (SeqAt.canLay_of_shaped sd) (by have := Nat.min_le_right (PyData.depthAll ds) d.depth; omega) ⟨.bl _, H, I, rfl, q⟩
end
theorem leads_ld {K : PySem.W.Frag} {H : Hp} {h o r : Addr} {zs ws : List Str} {qs : List (Str × Str)} {Q : VK} {E : XK} (tw : Two K H h o r zs ws qs) (k : ∀ H' : Hp, Same H H' → Q (.bl (ld zs ws qs)) H') : spLeads K [.ref h, .ref o, .ref r] H Q E :=
  ⟨h, o, r, zs, ws, qs, rfl, tw, fun H' p s hp => by
    have := k H' s
    rwa [ld_pot hp] at this, fun H' ls s h1 h2 => by
    have := k H' s
    rwa [ld_ring h1 h2] at this⟩
theorem climbs_ld {K : PySem.W.Frag} {H : Hp} {h o r : Addr} {zs ws : List Str} {qs : List (Str × Str)} {Q : VK} {E : XK} (tw : Two K H h o r zs ws qs) (k : ∀ H' : Hp, Same H H' → Q (.bl (!ld zs ws qs)) H') : spClimbs K [.ref h, .ref o, .ref r] H Q E :=
  ⟨h, o, r, zs, ws, qs, rfl, tw, fun H' b s h1 h2 => by
    have := k H' s
    rcases dich (ws := ws) tw.nd tw.cl with ⟨p, hp⟩ | ⟨ls, g1, g2⟩
    · rw [h1 p hp]
      rwa [ld_pot hp] at this
    · rw [h2 ls g1 g2]
      rwa [ld_ring g1 g2] at this⟩
/-- all pairs of unlike books, rising -/
def allP (bs : List Str) : List (Str × Str) := bs.flatMap fun b => (bs.filter fun f => decide (b ≠ f)).map fun f => (b, f)
theorem allP_mem {bs : List Str} {q : Str × Str} : q ∈ allP bs ↔ q.1 ∈ bs ∧ q.2 ∈ bs ∧ q.1 ≠ q.2 := by
  obtain ⟨a, b⟩ := q
  unfold allP
  simp only [List.mem_flatMap, List.mem_map, List.mem_filter, decide_eq_true_iff, Prod.mk.injEq]
  constructor
  · rintro ⟨x, hx, y, ⟨hy, hn⟩, rfl, rfl⟩
    exact ⟨hx, hy, hn⟩
  · rintro ⟨h1, h2, h3⟩
    exact ⟨a, h1, b, ⟨h2, h3⟩, rfl, rfl⟩
theorem allP_len (bs : List Str) : (allP bs).length ≤ bs.length * bs.length := by
  unfold allP
  suffices h : ∀ xs : List Str, (xs.flatMap fun b => (bs.filter fun f => decide (b ≠ f)).map fun f => (b, f)).length ≤ xs.length * bs.length from h bs
  intro xs
  induction xs with
  | nil => simp
  | cons x r ih =>
    rw [List.flatMap_cons, List.length_append, List.length_map, List.length_cons, Nat.succ_mul]
    have := List.length_filter_le (fun f => decide (x ≠ f)) bs
    omega
end HF
namespace HF
open PySem PySem.Spec PyProof.Rows L2
/-! ### what shows a row, what shows a bar -/
theorem eqv_all_strs : ∀ a b : List Str, PyData.eqvAll (a.map PyData.str) (b.map PyData.str) = decide (a = b)
  | [], [] => by simp [PyData.eqvAll]
  | [], y :: s => by simp [PyData.eqvAll]
  | x :: r, [] => by simp [PyData.eqvAll]
  | x :: r, y :: s => by
    show (PyData.eqv (.str x) (.str y) && PyData.eqvAll (r.map PyData.str) (s.map PyData.str)) = decide (x :: r = y :: s)
    rw [eqv_all_strs r s]
    have e : PyData.eqv (.str x) (.str y) = decide (x = y) := by
      show (x == y) = decide (x = y)
      by_cases h : x = y
      · rw [h]
        simp
      · rw [decide_eq_false h]
        simpa using h
    rw [e]
    by_cases h : x = y <;> simp [h]
theorem eqv_tups (a b : List Str) : PyData.eqv (.tuple (a.map PyData.str)) (.tuple (b.map PyData.str)) = decide (a = b) := by
  rw [← eqv_all_strs]
  rfl
def inD (zs : List Str) : PyData → Bool
  | .str b => decide (b ∈ zs)
  | _ => false
theorem inD_eq (zs : List Str) (d : PyData) : ((zs.map PyData.str).any fun z => PyData.eqv z d) = inD zs d := by
  by_cases h : ∃ b, d = .str b
  · obtain ⟨b, rfl⟩ := h
    exact eqv_strs b zs
  · rw [eqv_other (fun b hb => h ⟨b, hb⟩)]
    cases d with
    | str b => exact absurd ⟨b, rfl⟩ h
    | _ => rfl
def bksD : PyData → List Str
  | .list ds => ds.map strD
  | _ => []
def isRwD (zs : List Str) : PyData → Bool
  | .list ds => ds.all (inD zs)
  | _ => false
theorem rwD_not {zs : List Str} {d : PyData} (h : isLst d = false) : isRwD zs d = false := by
  cases d with
  | list ds => exact nomatch h
  | _ => rfl
theorem Gd.shp {m w : Nat} {d : PyData} (h : Gd m w d) (hm : m ≤ 64) : SeqAt.shaped d = true := by
  unfold SeqAt.shaped
  rw [h.lay]
  exact decide_eq_true (Nat.le_trans h.dep hm)
def isRowB (zs ws : List Str) (qs : List (Str × Str)) : PyData → Bool
  | .list ds => ds.all (inD zs) && (decide (refAt qs zs (ds.map strD) = none) && decide (lefts zs (ds.map strD) = ws))
  | _ => false
def isBarB (zs ws : List Str) (qs : List (Str × Str)) (d : PyData) : Bool := isRingB qs d && decide (T zs (bksD d) < T ws (bksD d))
theorem row_not {zs ws : List Str} {qs : List (Str × Str)} {d : PyData} (h : isLst d = false) : isRowB zs ws qs d = false := by
  cases d with
  | list ds => exact nomatch h
  | _ => rfl
theorem in_strs {A : Addr → Prop} {H : Hp} {bs : List Str} : ∀ {zs : List (V × PyData)}, (∀ z ∈ zs, Dq A H z.1 z.2) → (zs.map Prod.snd).all (inD bs) = true → zs.map Prod.fst = ((zs.map Prod.snd).map strD).map V.str ∧ ∀ x ∈ (zs.map Prod.snd).map strD, x ∈ bs
  | [], _, _ => ⟨rfl, fun x hx => nomatch hx⟩
  | z :: r, h, e => by
    rw [List.map_cons, List.all_cons, Bool.and_eq_true] at e
    obtain ⟨i1, i2⟩ := in_strs (fun y hy => h y (List.mem_cons_of_mem _ hy)) e.2
    have hz := h z List.mem_cons_self
    obtain ⟨v, d⟩ := z
    cases d with
    | str b =>
      cases hz
      refine ⟨by rw [List.map_cons, List.map_cons, List.map_cons, List.map_cons, i1]; rfl, fun x hx => ?_⟩
      rcases List.mem_cons.mp hx with q | q
      · rw [q]
        exact of_decide_eq_true e.1
      · exact i2 x q
    | _ => exact nomatch e.1
theorem ring_bks {zs : List Str} {qs : List (Str × Str)} {ds : List PyData} (cl : ∀ q ∈ qs, q.2 ∈ zs ∧ q.1 ≠ q.2 ∧ q.1 ∈ zs) (h : isRingB qs (.list ds) = true) : ds.all isStr = true ∧ 2 ≤ ds.length ∧ (ds.map strD).Nodup ∧ ∀ x ∈ ds.map strD, x ∈ zs := by
  have hB : isRingB qs (.list ds) = (decide (2 ≤ ds.length) && (ds.all isStr && (decide ((ds.map strD).Nodup) && (cyc (ds.map strD)).all fun p => decide (p ∈ qs)))) := rfl
  rw [hB, Bool.and_eq_true, Bool.and_eq_true, Bool.and_eq_true] at h
  obtain ⟨h1, h2, h3, h4⟩ := h
  have l2 : 2 ≤ ds.length := of_decide_eq_true h1
  refine ⟨h2, l2, of_decide_eq_true h3, fun x hx => ?_⟩
  generalize hls : ds.map strD = ls at *
  have hll : 1 ≤ ls.length := by
    rw [← hls, List.length_map]
    omega
  obtain ⟨c1, c2⟩ := cyc_len hll
  obtain ⟨i, hi⟩ := List.mem_iff_getElem?.mp hx
  have hil := (List.getElem?_eq_some_iff.mp hi).1
  have hp : (cyc ls)[i]? = some (cyc ls)[i] := List.getElem?_eq_getElem (by omega)
  have hz := hp
  unfold cyc at hz
  rw [List.getElem?_zip_eq_some] at hz
  rw [hi] at hz
  have hm := of_decide_eq_true (List.all_eq_true.mp h4 _ (List.mem_of_getElem? hp))
  have := (cl _ hm).2.2
  have e := Option.some.inj hz.1
  unfold cyc at this
  rw [e]
  exact this
structure Cmp (K : PySem.W.Frag) (H : Hp) (h o r : Addr) (zs ws : List Str) (qs : List (Str × Str)) : Prop where
  hz : Hq K H h zs
  hw : Hq K H o ws
  ti : PqA K H r qs
  pm : ws.Perm zs
  nd : zs.Nodup
  ne : zs ≠ []
  few : zs.length ≤ 100
  qf : qs.length ≤ 400
  cl : ∀ q ∈ qs, q.2 ∈ zs ∧ q.1 ≠ q.2 ∧ q.1 ∈ zs
  nm : ∀ z ∈ zs, Nm z
theorem Cmp.same {K : PySem.W.Frag} {H H' : Hp} {h o r : Addr} {zs ws : List Str} {qs : List (Str × Str)} (t : Cmp K H h o r zs ws qs) (s : Same H H') : Cmp K H' h o r zs ws qs := { t with hz := t.hz.same s, hw := t.hw.same s, ti := t.ti.same s }
theorem Cmp.two {K : PySem.W.Frag} {H : Hp} {h o r : Addr} {zs ws : List Str} {qs : List (Str × Str)} (t : Cmp K H h o r zs ws qs) : Two K H h o r zs ws qs := ⟨t.hz, t.hw, t.ti.pz, t.pm, t.nd, t.ne, t.few, t.qf, t.cl, t.nm⟩
def spBar (K : PySem.W.Frag) : Sp := fun vs H Q _ => ∃ (h o r : Addr) (x : V) (zs ws : List Str) (qs : List (Str × Str)) (A : Addr → Prop) (d : PyData), vs = [.ref h, .ref o, .ref r, x] ∧ Cmp K H h o r zs ws qs ∧ Dq A H x d ∧ Gd 6 1000 d ∧ ∀ H' : Hp, Same H H' → Q (.bl (isBarB zs ws qs d)) H'
def spRowB (K : PySem.W.Frag) : Sp := fun vs H Q _ => ∃ (h o r : Addr) (x : V) (zs ws : List Str) (qs : List (Str × Str)) (A : Addr → Prop) (d : PyData), vs = [.ref h, .ref o, .ref r, x] ∧ Cmp K H h o r zs ws qs ∧ Dq A H x d ∧ Gd 6 1000 d ∧ ∀ H' : Hp, Same H H' → Q (.bl (isRowB zs ws qs d)) H'
def spIsRow (K : PySem.W.Frag) : Sp := fun vs H Q _ => ∃ (h : Addr) (x : V) (zs : List Str) (A : Addr → Prop) (d : PyData), vs = [.ref h, x] ∧ Hq K H h zs ∧ (∀ z ∈ zs, Nm z) ∧ Dq A H x d ∧ Gd 6 1000 d ∧ ∀ H' : Hp, Same H H' → Q (.bl (isRwD zs d)) H'
end HF
namespace HF
open PySem PySem.Spec PyProof.Rows L2
/-! ### one heap leads to another -/
def Led (qs : List (Str × Str)) (a b : List Str) : Prop := ∃ row, (∀ x ∈ row, x ∈ a) ∧ refAt qs a row = none ∧ lefts a row = b
theorem Led.refl (qs : List (Str × Str)) (a : List Str) : Led qs a a := ⟨[], (fun x hx => nomatch hx), rfl, rfl⟩
theorem Led.perm {qs : List (Str × Str)} {a b : List Str} (h : Led qs a b) (nd : a.Nodup) : b.Perm a := by
  obtain ⟨row, h1, h2, rfl⟩ := h
  exact lefts_perm nd h1
theorem Led.trans {qs : List (Str × Str)} {a b c : List Str} (nd : a.Nodup) (h : Led qs a b) (g : Led qs b c) : Led qs a c := by
  have pm := h.perm nd
  obtain ⟨r1, h1, h2, rfl⟩ := h
  obtain ⟨r2, g1, g2, rfl⟩ := g
  refine ⟨r1 ++ r2, fun x hx => ?_, ?_, lefts_app _ _ _⟩
  · rcases List.mem_append.mp hx with z | z
    · exact h1 x z
    · exact pm.mem_iff.mp (g1 x z)
  · rw [refAt_app, h2]
    show (refAt qs (lefts a r1) r2).map _ = none
    rw [g2]
    rfl
theorem Led.falls {qs : List (Str × Str)} {a b ls : List Str} (nd : a.Nodup) (h : Led qs a b) (r : Rng qs a ls) : T b ls ≤ T a ls := by
  obtain ⟨row, h1, h2, rfl⟩ := h
  exact T_row r nd h1 h2
/-- heaps seen one behind the other -/
structure SeenAt (qs : List (Str × Str)) (zs : List Str) (H : Hp) (S : Addr) (as : List Addr) (hs : List (List Str)) : Prop where
  top : H S = some (.lst (as.map V.ref))
  len : as.length = hs.length
  at' : ∀ (i : Nat) (a : Addr) (z : List Str), as[i]? = some a → hs[i]? = some z → Tp H a (z.map V.str)
  led : ∀ (i j : Nat) (x y : List Str), i ≤ j → hs[i]? = some x → hs[j]? = some y → Led qs x y
  pm : ∀ z ∈ hs, z.Perm zs
theorem SeenAt.same {qs : List (Str × Str)} {zs : List Str} {H H' : Hp} {S : Addr} {as : List Addr} {hs : List (List Str)} (h : SeenAt qs zs H S as hs) (s : Same H H') : SeenAt qs zs H' S as hs := { h with top := s _ _ h.top, at' := fun i a z e f => (h.at' i a z e f).same s }
theorem SeenAt.oth {qs : List (Str × Str)} {zs : List Str} {H H' : Hp} {S p : Addr} {c : Int} {as : List Addr} {hs : List (List Str)} (h : SeenAt qs zs H S as hs) (o : Oth p H H') (hb : Bx H p c) : SeenAt qs zs H' S as hs := { h with top := o _ _ h.top (bx_refs hb h.top), at' := fun i a z e f => (h.at' i a z e f).oth o ((h.at' i a z e f).ne hb) }
theorem SeenAt.get {qs : List (Str × Str)} {zs : List Str} {H : Hp} {S : Addr} {as : List Addr} {hs : List (List Str)} (h : SeenAt qs zs H S as hs) {i : Nat} {a : Addr} (e : as[i]? = some a) : ∃ z, hs[i]? = some z ∧ Tp H a (z.map V.str) ∧ z.Perm zs := by
  have hi := (List.getElem?_eq_some_iff.mp e).1
  rw [h.len] at hi
  have hz : hs[i]? = some hs[i] := List.getElem?_eq_getElem hi
  exact ⟨_, hz, h.at' i a _ e hz, h.pm _ (List.mem_of_getElem? hz)⟩
theorem SeenAt.more {qs : List (Str × Str)} {zs : List Str} {H : Hp} {S s : Addr} {as : List Addr} {hs : List (List Str)} {y z : List Str} (h : SeenAt qs zs H S as hs) (nd : zs.Nodup) (hl : hs.getLast? = some y) (hy : Led qs y z) (ht : Tp H s (z.map V.str)) : SeenAt qs zs (upd H S (.lst (as.map V.ref ++ [.ref s]))) S (as ++ [s]) (hs ++ [z]) := by
  have hne : ∀ {a : Addr} {xs : List V}, Tp H a xs → a ≠ S := fun t e => by
    obtain ⟨ob, e2, _⟩ := t
    rw [e, h.top] at e2
    exact nomatch e2
  have keep : ∀ {a : Addr} {xs : List V}, Tp H a xs → Tp (upd H S (.lst (as.map V.ref ++ [.ref s]))) a xs := fun t => by
    have n := hne t
    obtain ⟨ob, e2, r⟩ := t
    exact ⟨ob, by rw [upd_ne n]; exact e2, r⟩
  have hlast : hs[hs.length - 1]? = some y := by
    rw [← List.getLast?_eq_getElem?]
    exact hl
  have hpos : 0 < hs.length := by
    cases hs with
    | nil => exact nomatch hl
    | cons _ _ => exact Nat.succ_pos _
  have ypm := h.pm y (List.mem_of_getElem? hlast)
  refine ⟨by rw [upd_same, List.map_append]; rfl, by rw [List.length_append, List.length_append, h.len]; rfl, fun i a w e f => ?_, fun i j u w hij e f => ?_, fun w hw => ?_⟩
  · rw [List.getElem?_append] at e f
    rw [h.len] at e
    split at e
    · rename_i hi
      rw [if_pos hi] at f
      exact keep (h.at' i a w e f)
    · rename_i hi
      rw [if_neg hi] at f
      have h0 : i - hs.length = 0 := by
        have := (List.getElem?_eq_some_iff.mp e).1
        simp at this
        omega
      rw [h0] at e f
      cases (show some s = some a from e)
      cases (show some z = some w from f)
      exact keep ht
  · rw [List.getElem?_append] at e f
    split at f
    · rename_i hj
      rw [if_pos (by omega)] at e
      exact h.led i j u w hij e f
    · rename_i hj
      have h0 : j - hs.length = 0 := by
        have := (List.getElem?_eq_some_iff.mp f).1
        simp at this
        omega
      rw [h0] at f
      cases (show some z = some w from f)
      split at e
      · rename_i hi
        have und : u.Nodup := (h.pm u (List.mem_of_getElem? e)).nodup_iff.mpr nd
        exact Led.trans und (h.led i (hs.length - 1) u y (by omega) e hlast) hy
      · rename_i hi
        have h1 : i - hs.length = 0 := by omega
        rw [h1] at e
        cases (show some z = some u from e)
        exact Led.refl _ _
  · rcases List.mem_append.mp hw with q | q
    · exact h.pm w q
    · rw [List.mem_singleton.mp q]
      exact (hy.perm (ypm.nodup_iff.mpr nd)).trans ypm
end HF
namespace HF
open PySem PySem.Spec PyProof.Rows L2
/-! ### two dicts of numbers by the same books: == -/
section
variable {X : Cx}
def rEqDH : R2 := fun x y H Q => ∃ (a b : Addr) (zs : List Str) (f g : Str → Int), x = .ref a ∧ y = .ref b ∧ DH H a zs f ∧ DH H b zs g ∧ Q (.bl (decide (∀ z ∈ zs, f z = g z))) H
theorem kv_at {zs : List Str} {f : Str → Int} {vs : List (Key × Value)} (r : KV (dkv zs f) vs) {k : Key} {v : Value} (h : (k, v) ∈ vs) : ∃ z ∈ zs, k = Sum.inr z ∧ ∃ t, v = Value.int (f z) t := by
  obtain ⟨i, hi⟩ := List.mem_iff_getElem?.mp h
  obtain ⟨x, h1, h2⟩ := KV.at' r hi
  rw [List.getElem?_map] at h1
  obtain ⟨z, hz, e⟩ := Option.map_eq_some_iff.mp h1
  have e1 : k = Sum.inr z := (congrArg Prod.fst e).symm
  have e2 : x = V.int (f z) := (congrArg Prod.snd e).symm
  subst e2
  exact ⟨z, List.mem_of_getElem? hz, e1, h2⟩
theorem op_eqDH (hu : X.A.units + 64 < cLine) : OpR X (compareOp .Eq) rEqDH := by
  intro pn st σ H x y v u Q I rx ry hyp
  obtain ⟨a, b, zs, f, g, rfl, rfl, ha, hb, q⟩ := hyp
  cases rx
  cases ry
  obtain ⟨_, ya, va, ra, da⟩ := (show ObjOk X.prog X.w H st.heap a (.dK (dkv zs f)) from I.hok a _ ha)
  obtain ⟨_, yb, vb, rb, db⟩ := (show ObjOk X.prog X.w H st.heap b (.dK (dkv zs g)) from I.hok b _ hb)
  have val : ∀ z ∈ zs, ∃ t, valueAt vb (Sum.inr z) = some (Value.int (g z) t) := fun z hz => by
    have h1 := rb.val (Sum.inr z : Key)
    rw [keys_at (g := fun x => V.int (g x)) hz] at h1
    obtain ⟨w', hw, t, ht⟩ := RelO.some_of h1
    exact ⟨t, by rw [hw, ht]⟩
  refine PySem.W.eq_dictsT (knd := mixKind X.prog X.w) (n := 0) (e := fun k => match k with | Sum.inr z => decide (f z = g z) | _ => true) ya yb da db (fun k w1 w2 hm hv => ?_) (by omega) (fin_bl I q ?_)
  · obtain ⟨z, hz, rfl, t, rfl⟩ := kv_at ra hm
    obtain ⟨t2, h2⟩ := val z hz
    rw [h2] at hv
    cases hv
    refine .leaf fun A _ => ?_
    have := SeqAt.EqAt.int_int (A := A) (s := st) (f z) t (g z) t2
    rw [show (f z == g z) = decide (f z = g z) by by_cases e : f z = g z <;> simp [e]] at this
    exact this
  · have hl : va.length = vb.length := by rw [← ra.length, ← rb.length, dkv_len, dkv_len]
    rw [hl, beq_self_eq_true, Bool.true_and, Bool.eq_iff_iff, List.all_eq_true, decide_eq_true_eq]
    constructor
    · rintro hall ⟨k, v⟩ hm
      obtain ⟨z, hz, rfl, t, rfl⟩ := kv_at ra hm
      obtain ⟨t2, h2⟩ := val z hz
      rw [h2]
      exact decide_eq_true (hall z hz)
    · intro hall z hz
      have h1 := ra.val (Sum.inr z : Key)
      rw [keys_at (g := fun x => V.int (f x)) hz] at h1
      obtain ⟨w', hw, _⟩ := RelO.some_of h1
      have hm : (Sum.inr z, w') ∈ va := by
        unfold valueAt at hw
        obtain ⟨pr, hp1, hp2⟩ := Option.map_eq_some_iff.mp hw
        have hp3 := List.mem_of_find?_eq_some hp1
        have hp4 := List.find?_some hp1
        have : pr = (Sum.inr z, w') := Prod.ext (by simpa using hp4) hp2
        rw [← this]
        exact hp3
      have h2 := hall _ hm
      rw [Bool.and_eq_true] at h2
      exact of_decide_eq_true h2.2
end
/-! ### dict([(x, 0) for x in xs]) -/
theorem merge_zero {zs : List Str} (nd : zs.Nodup) : mergeK [] (zs.map fun x => ((Sum.inr x : Key), V.int 0)) = dkv zs (fun _ => 0) := by
  have go : ∀ (r a : List Str), (a ++ r).Nodup → (r.map fun x => ((Sum.inr x : Key), V.int 0)).foldl (fun acc kv => putK acc kv.1 kv.2) (dkv a (fun _ => 0)) = dkv (a ++ r) (fun _ => 0) := fun r => by
    induction r with
    | nil =>
      intro a _
      rw [List.append_nil]
      rfl
    | cons x r ih =>
      intro a hn
      have hx : x ∉ a := fun z => (List.nodup_append.mp hn).2.2 x z x List.mem_cons_self rfl
      show (r.map _).foldl _ (putK (dkv a (fun _ => 0)) (Sum.inr x) (V.int 0)) = _
      rw [putK_new _ (keys_out (g := fun _ => V.int 0) hx)]
      have e : dkv a (fun _ => 0) ++ [((Sum.inr x : Key), V.int 0)] = dkv (a ++ [x]) (fun _ => 0) := by
        rw [show dkv (a ++ [x]) (fun _ => 0) = dkv a (fun _ => 0) ++ [((Sum.inr x : Key), V.int 0)] from List.map_append]
      rw [e, ih (a ++ [x]) (by rw [List.append_assoc]; exact hn), List.append_assoc]
      rfl
  exact go zs [] nd
/-- how often each book goes, as the law reckons it: where no ring climbs -/
def spCounts (K : PySem.W.Frag) : Sp := fun vs H Q _ => ∃ (h o r : Addr) (zs ws : List Str) (qs : List (Str × Str)) (p : Str → Int), vs = [.ref h, .ref o, .ref r] ∧ Tp H h (zs.map V.str) ∧ Tp H o (ws.map V.str) ∧ PqT K H r qs ∧ ws.Perm zs ∧ zs.Nodup ∧ zs ≠ [] ∧ zs.length ≤ 12 ∧ qs.length ≤ 400 ∧ (∀ q ∈ qs, q.2 ∈ zs ∧ q.1 ≠ q.2 ∧ q.1 ∈ zs) ∧ Pot zs ws qs p ∧
  ∀ (H' : Hp) (D : Addr) (g : Str → Int), Same H H' → H D = none → DH H' D zs g → Lst zs ws qs g → Q (.ref D) H'
/-! ### raised from nought, turn by turn -/
/-- one step: never above what all solutions have -/
structure Cn (zs ws : List Str) (qs : List (Str × Str)) (g : Str → Int) : Prop where
  nn : ∀ x, 0 ≤ g x
  below : ∀ g', Sol zs ws qs g' → ∀ x, g x ≤ g' x
  first : ∀ i x y, ws[i]? = some x → ws[i + 1]? = some y → pos y zs < pos x zs → 1 ≤ g x
theorem Cn.set {zs ws : List Str} {qs : List (Str × Str)} {g : Str → Int} {v : Str} {n : Int} (c : Cn zs ws qs g) (h1 : g v ≤ n) (h2 : ∀ g', Sol zs ws qs g' → n ≤ g' v) : Cn zs ws qs (setF g v n) :=
  ⟨fun x => Int.le_trans (c.nn x) (setF_up h1 x), fun g' s => setF_below (c.below g' s) (h2 g' s), fun i x y hx hy hp => Int.le_trans (c.first i x y hx hy hp) (setF_up h1 x)⟩
/-- what a whole turn without a change shows -/
structure Still (zs ws : List Str) (qs : List (Str × Str)) (g : Str → Int) (n : Nat) : Prop where
  up : ∀ i x, i < n → ws[i]? = some x → 0 < g x → ∀ j y, j < i → ws[j]? = some y → 1 ≤ g y
  ed : ∀ i x, i < n → ws[i]? = some x → 0 < g x → ∀ q ∈ qs, q.1 = x → g x + gn zs ws q ≤ g q.2
theorem Still.sol {zs ws : List Str} {qs : List (Str × Str)} {g : Str → Int} (s : Still zs ws qs g ws.length) (c : Cn zs ws qs g) (pm : ws.Perm zs) (cl : ∀ q ∈ qs, q.1 ∈ zs) : Sol zs ws qs g := by
  refine ⟨c.nn, fun i x hx hf j y hj hy => ?_, fun q hq hp => ?_⟩
  · have hi := (List.getElem?_eq_some_iff.mp hx).1
    have hgx : 0 < g x := by
      rcases hf with z | ⟨y2, hy2, z⟩
      · exact z
      · have := c.first i x y2 hx hy2 z
        omega
    by_cases e : j = i
    · subst e
      rw [hx] at hy
      cases hy
      omega
    · exact s.up i x hi hx hgx j y (by omega) hy
  · have hw := pm.mem_iff.mpr (cl q hq)
    obtain ⟨i, hi⟩ := List.mem_iff_getElem?.mp hw
    exact s.ed i q.1 (List.getElem?_eq_some_iff.mp hi).1 hi hp q hq rfl
theorem Kp.dK {K : PySem.W.Frag} {b D : Addr} {H Hx : Hp} {kvs : List (Key × V)} (ox : OthA (· = D) H Hx) (e : H D = some (.dK kvs)) : Kp K b H Hx := ⟨fun xs z => by
  rcases z with (z | ⟨ob, z⟩) | z
  · exact .inl (.inl (ox _ _ z fun q => by rw [q, e] at z; exact nomatch z))
  · exact .inl (.inr ⟨ob, ox _ _ z fun q => by rw [q, e] at z; exact nomatch z⟩)
  · exact .inr z, fun xs z => by
  rcases z with (z | ⟨ob, z⟩) | z
  · exact .inl (.inl (ox _ _ z fun q => by rw [q, e] at z; exact nomatch z))
  · exact .inl (.inr ⟨ob, ox _ _ z fun q => by rw [q, e] at z; exact nomatch z⟩)
  · exact .inr z⟩
theorem paired_of {α β : Type} {R : α → β → Prop} : ∀ {xs : List α} {ys : List β}, xs.length = ys.length → (∀ (i : Nat) (x : α) (y : β), xs[i]? = some x → ys[i]? = some y → R x y) → Paired R xs ys
  | [], [], _, _ => .nil
  | x :: r, y :: s, h, f => .cons (f 0 x y rfl rfl) (paired_of (by simpa using h) fun i a b ha hb => f (i + 1) a b ha hb)
  | [], _ :: _, h, _ => by simp at h
  | _ :: _, [], h, _ => by simp at h
structure StillR (zs ws : List Str) (qs : List (Str × Str)) (g0 g : Str → Int) (n : Nat) : Prop where
  up : ∀ i x, i < n → ws[i]? = some x → 0 < g0 x → ∀ j y, j < i → ws[j]? = some y → 1 ≤ g y
  ed : ∀ i x, i < n → ws[i]? = some x → 0 < g0 x → ∀ q ∈ qs, q.1 = x → g0 x + gn zs ws q ≤ g q.2
theorem StillR.mono {zs ws : List Str} {qs : List (Str × Str)} {g0 g g' : Str → Int} {n : Nat} (s : StillR zs ws qs g0 g n) (le : ∀ x, g x ≤ g' x) : StillR zs ws qs g0 g' n :=
  ⟨fun i x hi hx hp j y hj hy => Int.le_trans (s.up i x hi hx hp j y hj hy) (le y), fun i x hi hx hp q hq e => Int.le_trans (s.ed i x hi hx hp q hq e) (le _)⟩
theorem StillR.still {zs ws : List Str} {qs : List (Str × Str)} {g0 g : Str → Int} {n : Nat} (s : StillR zs ws qs g0 g n) (pm : ws.Perm zs) (e : ∀ z ∈ zs, g z = g0 z) : Still zs ws qs g n :=
  ⟨fun i x hi hx hp j y hj hy => s.up i x hi hx (by rw [← e x (pm.mem_iff.mp (List.mem_of_getElem? hx))]; exact hp) j y hj hy,
   fun i x hi hx hp q hq eq => by
    have ex := e x (pm.mem_iff.mp (List.mem_of_getElem? hx))
    have := s.ed i x hi hx (by rw [← ex]; exact hp) q hq eq
    rw [ex]
    exact this⟩
theorem StillR.next {zs ws : List Str} {qs : List (Str × Str)} {g0 g : Str → Int} {n : Nat} {x : Str} (s : StillR zs ws qs g0 g n) (hx : ws[n]? = some x) (h : 0 < g0 x → (∀ j y, j < n → ws[j]? = some y → 1 ≤ g y) ∧ ∀ q ∈ qs, q.1 = x → g0 x + gn zs ws q ≤ g q.2) : StillR zs ws qs g0 g (n + 1) := by
  refine ⟨fun i y hi hy hp j z hj hz => ?_, fun i y hi hy hp q hq e => ?_⟩
  · by_cases ei : i = n
    · subst ei
      rw [hx] at hy
      cases hy
      exact (h hp).1 j z hj hz
    · exact s.up i y (by omega) hy hp j z hj hz
  · by_cases ei : i = n
    · subst ei
      rw [hx] at hy
      cases hy
      exact (h hp).2 q hq e
    · exact s.ed i y (by omega) hy hp q hq e
theorem room_few {U g : Str → Int} {m : Nat} (nn : ∀ x, 0 ≤ g x) : ∀ {zs : List Str}, (∀ x ∈ zs, U x ≤ m) → room zs U g ≤ zs.length * m
  | [], _ => Nat.zero_le _
  | z :: r, h => by
    have h1 := room_few nn (zs := r) (U := U) (m := m) fun x hx => h x (List.mem_cons_of_mem _ hx)
    have h2 := h z List.mem_cons_self
    have h3 := nn z
    show (U z - g z).toNat + room r U g ≤ (r.length + 1) * m
    rw [Nat.add_mul]
    omega
theorem max_l (x : Int) : (if x > (1 : Int) then x else 1) = max 1 x := by
  split <;> omega
end HF
namespace HF
open PySem PySem.Spec PyProof.Rows L2
/-! ### how often a book stands in the row, how long it is -/
theorem cnt_layer {ws : List Str} {g : Str → Int} {k : Nat} {x : Str} (nd : ws.Nodup) (hx : x ∈ ws) : (layer ws g k).count x = if (k : Int) ≤ g x then 1 else 0 := by
  have lnd : (layer ws g k).Nodup := List.Pairwise.filter _ (List.pairwise_reverse.mpr (nd.imp fun h e => h e.symm))
  by_cases h : (k : Int) ≤ g x
  · rw [if_pos h]
    have hm : x ∈ layer ws g k := mem_layer.mpr ⟨hx, h⟩
    have h1 := count_all (ls := layer ws g k)
    rw [decide_eq_true lnd] at h1
    have h2 := of_decide_eq_true (List.all_eq_true.mp h1 x hm)
    injection h2 with h2
    omega
  · rw [if_neg h]
    exact List.count_eq_zero.mpr fun hm => h (mem_layer.mp hm).2
theorem cnt_row {ws : List Str} {g : Str → Int} {x : Str} (nd : ws.Nodup) (hx : x ∈ ws) : ∀ {n : Nat}, 0 ≤ g x → (((rowOf ws g n).count x : Nat) : Int) = min (g x) n
  | 0, h => by
    show ((0 : Nat) : Int) = min (g x) 0
    omega
  | n + 1, h => by
    have ih := cnt_row (g := g) nd hx (n := n) h
    show (((layer ws g (n + 1) ++ rowOf ws g n).count x : Nat) : Int) = _
    rw [List.count_append, cnt_layer nd hx]
    split <;> omega
theorem cnt_full {zs ws : List Str} {qs : List (Str × Str)} {g : Str → Int} {m : Nat} {x : Str} (hs : Sol zs ws qs g) (pm : ws.Perm zs) (nd : zs.Nodup) (hx : x ∈ zs) (top : ∀ x ∈ zs, g x ≤ (m : Int)) : (((rowOf ws g m).count x : Nat) : Int) = g x := by
  rw [cnt_row (pm.nodup_iff.mpr nd) (pm.mem_iff.mpr hx) (hs.nn x)]
  have := top x hx
  omega
/-- all together -/
def tot (zs : List Str) (g : Str → Int) : Int := (zs.map g).sum
theorem len_counts {row : List Str} : ∀ {zs : List Str}, zs.Nodup → (∀ b ∈ row, b ∈ zs) → ((row.length : Nat) : Int) = tot zs (fun z => ((row.count z : Nat) : Int)) := by
  induction row with
  | nil =>
    intro zs _ _
    have : ∀ l : List Str, tot l (fun z => (((([] : List Str)).count z : Nat) : Int)) = 0 := fun l => by
      induction l with
      | nil => rfl
      | cons a r ih =>
        show ((([] : List Str).count a : Nat) : Int) + tot r _ = 0
        rw [ih]
        simp
    rw [this]
    rfl
  | cons b r ih =>
    intro zs nd hin
    have h1 := ih nd fun x hx => hin x (List.mem_cons_of_mem _ hx)
    have h2 : ∀ l : List Str, l.Nodup → tot l (fun z => (((b :: r).count z : Nat) : Int)) = tot l (fun z => ((r.count z : Nat) : Int)) + (if b ∈ l then 1 else 0) := fun l => by
      induction l with
      | nil =>
        intro _
        rfl
      | cons a t iht =>
        intro hn
        obtain ⟨n1, n2⟩ := List.nodup_cons.mp hn
        show (((b :: r).count a : Nat) : Int) + tot t _ = ((r.count a : Nat) : Int) + tot t _ + _
        rw [iht n2, List.count_cons]
        by_cases e : b = a
        · subst e
          rw [if_neg n1, if_pos List.mem_cons_self, if_pos (by simp)]
          push_cast
          omega
        · rw [if_neg (by simpa using e)]
          have : (b ∈ a :: t) ↔ b ∈ t := ⟨fun h => (List.mem_cons.mp h).resolve_left e, List.mem_cons_of_mem _⟩
          simp only [this]
          omega
    rw [h2 zs nd, if_pos (hin b List.mem_cons_self), ← h1]
    show ((r.length + 1 : Nat) : Int) = _
    omega
theorem tot_congr {f g : Str → Int} : ∀ {zs : List Str}, (∀ z ∈ zs, f z = g z) → tot zs f = tot zs g
  | [], _ => rfl
  | a :: r, h => by
    show f a + tot r f = g a + tot r g
    rw [h a List.mem_cons_self, tot_congr fun z hz => h z (List.mem_cons_of_mem _ hz)]
theorem len_row {zs ws : List Str} {qs : List (Str × Str)} {g : Str → Int} {m : Nat} (hs : Sol zs ws qs g) (pm : ws.Perm zs) (nd : zs.Nodup) (top : ∀ x ∈ zs, g x ≤ (m : Int)) : (((rowOf ws g m).length : Nat) : Int) = tot zs g := by
  rw [len_counts nd fun b hb => pm.mem_iff.mp (rowOf_sub b hb)]
  exact tot_congr fun z hz => cnt_full hs pm nd hz top
/-! ### the sum of a dict's values -/
section
variable {X : Cx}
def tSumVals (td : TE) : TE := fun σ H Q => td σ H fun x H1 => ∃ (D : Addr) (zs : List Str) (h : Str → Int), x = .ref D ∧ DH H1 D zs h ∧ (∀ z ∈ zs, 0 ≤ h z ∧ h z ≤ 1000) ∧ zs.length ≤ 1000 ∧ Q (.int (tot zs h)) H1
theorem pre_tot {h : Str → Int} : ∀ (zs : List Str) (n : Nat), n ≤ zs.length → preSum (fun i => h (zs.getD i "")) n = tot (zs.take n) h
  | zs, 0, _ => rfl
  | zs, n + 1, hn => by
    have ih := pre_tot (h := h) zs n (by omega)
    have e : zs[n]? = some zs[n] := List.getElem?_eq_getElem (by omega)
    show preSum (fun i => h (zs.getD i "")) n + h (zs.getD n "") = _
    rw [ih, List.take_add_one, e, List.getD_eq_getElem?_getD, e]
    unfold tot
    rw [List.map_append, List.sum_append]
    simp
theorem tot_in {h : Str → Int} : ∀ {zs : List Str}, (∀ z ∈ zs, 0 ≤ h z ∧ h z ≤ 1000) → 0 ≤ tot zs h ∧ tot zs h ≤ 1000 * zs.length
  | [], _ => ⟨Int.le_refl _, Int.le_refl _⟩
  | a :: r, hb => by
    have h1 := hb a List.mem_cons_self
    have h2 := tot_in fun z hz => hb z (List.mem_cons_of_mem _ hz)
    show 0 ≤ h a + tot r h ∧ h a + tot r h ≤ 1000 * ((r.length + 1 : Nat) : Int)
    omega
theorem pe_sumVals {o : Expr} {p pos apos mpos : Pos} {td : TE} (calm : X.calm = true) (gl : Gl X "sum") (mm : X.mg "sum" = none) (ho : PE X o td) (plainO : attributeBase o "values" X.env (eval o X.env) = eval o X.env := by rfl) (row1 : (apos.endLine == mpos.line) = true := by rfl)
    (one : starEach [Expr.Call (.Attribute o "values" apos) [] [] mpos] X.env = [(false, eval (Expr.Call (.Attribute o "values" apos) [] [] mpos) X.env)] := by rfl) :
    PE X (.Call (.Name "sum" p) [.Call (.Attribute o "values" apos) [] [] mpos] [] pos) (tSumVals td) := by
  refine ⟨fun pn st σ H Q I0 want => wpAny_Call_Name_kw (ld_blt I0 gl mm (u := .builtin "sum") (by first | rfl | decide +kernel) ?_ (by first | decide +kernel | decide) (by first | decide +kernel | decide))⟩
  rw [one]
  refine PySem.callWith_builtin1 (wpAny_Call_method0_late plainO row1 (thn (ho.run pn st σ H _ I0 want) ?_))
  rintro val t1 ⟨y, G, I1, rel1, D, zs, h, rfl, hD, hin, hzl, q⟩
  cases rel1
  obtain ⟨_, nsys, vs, rel, dof⟩ := dk_of I1.hok hD
  obtain ⟨ep, dat⟩ := dof.dictAt
  obtain ⟨ob, es, hob, exact_, _, _, _, _⟩ := id dat
  refine ⟨"dict", "dict.values", F.plainAttrs_dict, F.slot_dict_values, F.type_dict_values, ⟨ob, hob, exact_.1⟩, fun b e => by cases e; exact ⟨ob, hob, exact_.2.1⟩, Calls.callWith_builtin rfl (PySem.evalArgs_none ?_)⟩
  refine call_meetsIn F.slot_dict_values ⟨ob, hob, exact_.1⟩ F.entry_dict_values (F.args_dict_values_1 _) (meets_dict_values (mixKind X.prog X.w) D nsys) ⟨⟨vs, dof⟩, ?_⟩
  let view : Obj := { cls := .type "dict_values", data := .fields #[.ref D] }
  have up1 : ∀ b u, t1.heap.get? b = some u → (t1.heap.push view).get? b = some u := fun b u e => Heap.get?_push_of_some _ e
  have datV : (t1.heap.push view).DictAt (mixKind X.prog X.w) D vs ep := dat.keep up1
  have many : vs.length = zs.length := (KV.length rel).symm.trans (dkv_len zs h)
  have each : ∀ (i : Nat) (v : Value), (∃ k, vs[i]? = some (k, v)) → ∃ t, v = Value.int (h (zs.getD i "")) t := by
    rintro i v ⟨k, hk⟩
    obtain ⟨x, g1, g2⟩ := KV.at' rel hk
    rw [List.getElem?_map] at g1
    obtain ⟨z, hz, e⟩ := Option.map_eq_some_iff.mp g1
    have ex : x = V.int (h z) := (congrArg Prod.snd e).symm
    subst ex
    obtain ⟨t, et⟩ := g2
    exact ⟨t, by rw [et, List.getD_eq_getElem?_getD, hz]; rfl⟩
  have older : D < t1.heap.objs.size := Heap.lt_size hob
  have size1 : (t1.heap.push view).objs.size = t1.heap.objs.size + 1 := Heap.size_push _ _
  refine call_sum_walk (wpAny_pyIter_values (v := t1.heap.objs.size) (d := D) ⟨_, Heap.get?_push_size _ rfl, rfl, rfl⟩ datV ?_)
  refine ⟨_, _, _, _, _, _, (fun i => h (zs.getD i "")), rfl, Walks.dictValues (knd := mixKind X.prog X.w) (A := X.A.in1) (I0.ok.hd calm) (t1.heap.push view).objs.size D (by rw [size1]; exact Nat.ne_of_lt (Nat.lt_succ_of_lt older)) vs ep, ⟨⟨_, Heap.get?_push_size _ rfl, rfl, rfl⟩, datV.keep fun b u e => Heap.get?_push_of_some _ e⟩, ?_, each, ?_, ?_⟩
  · intro b hb
    show b < ((t1.heap.push view).push _).objs.size
    rw [Heap.size_push, size1]
    rcases List.mem_cons.mp hb with e | hb
    · rw [e, size1]
      exact Nat.lt_succ_self _
    · rw [List.mem_singleton.mp hb]
      exact Nat.lt_succ_of_lt (Nat.lt_succ_of_lt older)
  · intro j hj
    rw [many] at hj
    have hjz : zs.getD j "" ∈ zs := by
      rw [List.getD_eq_getElem?_getD, List.getElem?_eq_getElem hj]
      exact List.getElem_mem hj
    have b1 := hin _ hjz
    have b2 := tot_in (zs := zs.take (j + 1)) fun z hz => hin z (List.mem_of_mem_take hz)
    rw [pre_tot zs (j + 1) (by omega)]
    have b3 : (zs.take (j + 1)).length ≤ 1000 := by
      rw [List.length_take]
      omega
    refine ⟨?_, ?_⟩
    · show -(2 ^ 63) ≤ h (zs.getD j "") ∧ h (zs.getD j "") < 2 ^ 63
      omega
    · unfold InLong
      omega
  · intro h' tk t' keeps
    rw [many, pre_tot zs zs.length (Nat.le_refl _), List.take_length]
    refine ⟨.int _, G, I1.kept (t' := tk) fun b u e => keeps b u (fun hm => ?_) (Heap.get?_push_of_some _ (up1 b u e)), ⟨t', rfl⟩, q⟩
    have e1 : b = (t1.heap.push view).objs.size := List.mem_singleton.mp hm
    have e2 := Heap.lt_size e
    rw [e1, size1] at e2
    exact absurd e2 (Nat.not_lt.mpr (Nat.le_succ _))
end
end HF
namespace HF
open PySem PySem.Spec PyProof.Rows L2
/-- what between tells: the word, the list -/
def Tol (zs ws : List Str) (qs : List (Str × Str)) (wd : Str) (ls : List Str) : Prop := ls.length ≤ 144 ∧ (∀ x ∈ ls, x ∈ zs) ∧
  ((wd = "row" ∧ ∃ p g m, Pot zs ws qs p ∧ Lst zs ws qs g ∧ Gr zs g m ∧ ls = rowOf ws g m) ∨ (wd = "ring" ∧ Rng qs zs ls ∧ T zs ls < T ws ls ∧ RingIs zs ws qs ls))
def Told (H : Hp) (t : Addr) (zs ws : List Str) (qs : List (Str × Str)) (wd : Str) (l : Addr) (ls : List Str) : Prop := H t = some (.tup [.str wd, .ref l]) ∧ H l = some (.lst (ls.map V.str)) ∧ Tol zs ws qs wd ls
theorem Told.same {H H' : Hp} {t : Addr} {zs ws : List Str} {qs : List (Str × Str)} {wd : Str} {l : Addr} {ls : List Str} (h : Told H t zs ws qs wd l ls) (s : Same H H') : Told H' t zs ws qs wd l ls := ⟨s _ _ h.1, s _ _ h.2.1, h.2.2⟩
theorem Gr.one {zs : List Str} {g : Str → Int} {m n : Nat} (a : Gr zs g m) (b : Gr zs g n) : m = n := by
  obtain ⟨⟨z, hz, e⟩, t⟩ := a
  obtain ⟨⟨y, hy, f⟩, u⟩ := b
  have h1 := t y hy
  have h2 := u z hz
  omega
theorem Tol.one {zs ws : List Str} {qs : List (Str × Str)} {wd wd' : Str} {ls ls' : List Str} (a : Tol zs ws qs wd ls) (b : Tol zs ws qs wd' ls') : wd = wd' ∧ ls = ls' := by
  obtain ⟨_, _, a⟩ := a
  obtain ⟨_, _, b⟩ := b
  rcases a with ⟨rfl, p, g, m, a1, a2, a3, rfl⟩ | ⟨rfl, a1, a2, a3⟩
  · rcases b with ⟨rfl, p', g', m', b1, b2, b3, rfl⟩ | ⟨rfl, b1, b2, b3⟩
    · have e := a2.one b2
      subst e
      rw [a3.one b3]
      exact ⟨rfl, rfl⟩
    · exact absurd b2 (Nat.not_lt.mpr (a1.rings b1))
  · rcases b with ⟨rfl, p', g', m', b1, b2, b3, rfl⟩ | ⟨rfl, b1, b2, b3⟩
    · exact absurd a2 (Nat.not_lt.mpr (b1.rings a1))
    · exact ⟨rfl, a3.one b3⟩
theorem betw_told {K : PySem.W.Frag} {H : Hp} {h o r : Addr} {zs ws : List Str} {qs : List (Str × Str)} {Q : VK} {E : XK} (tw : Two K H h o r zs ws qs) (hz : zs.length ≤ 12) (k : ∀ (H' : Hp) (t l : Addr) (wd : Str) (ls : List Str), Same H H' → H t = none → H l = none → Told H' t zs ws qs wd l ls → Q (.ref t) H') : spBetw K [.ref h, .ref o, .ref r] H Q E := by
  refine ⟨h, o, r, zs, ws, qs, rfl, tw, fun H' t l p g m s nt nl ht hl hp hL hm => k H' t l "row" _ s nt nl ⟨ht, hl, ?_, fun x hx => tw.pm.mem_iff.mp (rowOf_sub x hx), .inl ⟨rfl, p, g, m, hp, hL, hm, rfl⟩⟩, fun H' t l ls s nt nl ht hl hr1 hr2 hr3 => k H' t l "ring" _ s nt nl ⟨ht, hl, ?_, hr1.sub, .inr ⟨rfl, hr1, hr2, hr3⟩⟩⟩
  · have h1 := rowOf_len ws g m
    obtain ⟨z0, hz0, e0⟩ := hm.1
    have h2 := hL.few hp z0 hz0
    have h3 : m ≤ 12 := by omega
    have h4 : ws.length ≤ 12 := by
      rw [tw.pm.length_eq]
      exact hz
    exact Nat.le_trans h1 (Nat.le_trans (Nat.mul_le_mul h3 h4) (by decide))
  · have := len_sub hr1.nd (fun z hz2 => hr1.sub z hz2)
    omega
theorem row_ring : (("row" : Str) = "ring") = False := by
  have : ¬ (("row" : Str) = "ring") := by decide +kernel
  simp [this]
theorem leads_told {K : PySem.W.Frag} {H : Hp} {h o r : Addr} {zs ws : List Str} {qs : List (Str × Str)} {Q : VK} {E : XK} {wd : Str} {ls : List Str} (tw : Two K H h o r zs ws qs) (a : Tol zs ws qs wd ls) (k : ∀ H' : Hp, Same H H' → Q (.bl (decide (wd = "row"))) H') : spLeads K [.ref h, .ref o, .ref r] H Q E := by
  refine ⟨h, o, r, zs, ws, qs, rfl, tw, fun H' p s hp => ?_, fun H' l2 s hr1 hr2 => ?_⟩
  · obtain ⟨_, _, a⟩ := a
    rcases a with ⟨rfl, _⟩ | ⟨rfl, a1, a2, _⟩
    · have := k H' s
      rw [decide_eq_true rfl] at this
      exact this
    · exact absurd a2 (Nat.not_lt.mpr (hp.rings a1))
  · obtain ⟨_, _, a⟩ := a
    rcases a with ⟨rfl, p, _, _, hp, _⟩ | ⟨rfl, _⟩
    · exact absurd hr2 (Nat.not_lt.mpr (hp.rings hr1))
    · have := k H' s
      rw [decide_eq_false (by decide +kernel)] at this
      exact this
theorem wd_ok {zs ws : List Str} {qs : List (Str × Str)} {wd : Str} {ls : List Str} (a : Tol zs ws qs wd ls) : PyData.strOk wd = true := by
  obtain ⟨_, _, a⟩ := a
  rcases a with ⟨rfl, _⟩ | ⟨rfl, _⟩ <;> decide +kernel
end HF
namespace HF
open PySem PySem.Spec PyProof.Rows L2
theorem tg_lstW {A : Addr → Prop} {H : Hp} {a : Addr} {zs : List Str} (h : H a = some (.lst (zs.map V.str))) (n : ¬ A a) (hn : ∀ z ∈ zs, Sg z ∧ z.cps.size ≤ 6) (hl : zs.length ≤ 800) : Tg A H (.ref a, .list (zs.map PyData.str)) := by
  refine ⟨Dq.lstS n h, (Gd.list (m := 0) (w := 800) (fun d hd => ?_) (by rw [List.length_map]; exact hl)).mono (by decide) (by decide), ?_⟩
  · obtain ⟨z, hz, rfl⟩ := List.mem_map.mp hd
    exact gd_str (hn z hz).1
  · have := weight_strs2 (n := 6) fun z hz => (hn z hz).2
    show PyData.weightAll (zs.map PyData.str) ≤ 100000
    omega
theorem tg_tupW {A : Addr → Prop} {H : Hp} {a : Addr} {zs : List Str} (h : TsA H a (zs.map V.str)) (n : ¬ A a) (hn : ∀ z ∈ zs, Sg z ∧ z.cps.size ≤ 6) (hl : zs.length ≤ 800) : Tg A H (.ref a, .tuple (zs.map PyData.str)) := by
  refine ⟨Dq.tupS n h, (Gd.tuple (m := 0) (w := 800) (fun d hd => ?_) (by rw [List.length_map]; exact hl)).mono (by decide) (by decide), ?_⟩
  · obtain ⟨z, hz, rfl⟩ := List.mem_map.mp hd
    exact gd_str (hn z hz).1
  · have := weight_strs2 (n := 6) fun z hz => (hn z hz).2
    show PyData.weightAll (zs.map PyData.str) ≤ 100000
    omega
/-- a list of one such list -/
theorem tg_one {A : Addr → Prop} {H : Hp} {a b : Addr} {zs : List Str} (h : H a = some (.lst [.ref b])) (n : ¬ A a) (t : Tg A H (.ref b, .list (zs.map PyData.str))) (hn : ∀ z ∈ zs, Sg z ∧ z.cps.size ≤ 6) (hl : zs.length ≤ 800) : Tg A H (.ref a, .list [.list (zs.map PyData.str)]) := by
  have g1 : Gd 1 800 (.list (zs.map PyData.str)) := Gd.list (m := 0) (w := 800) (fun d hd => by
    obtain ⟨z, hz, rfl⟩ := List.mem_map.mp hd
    exact gd_str (hn z hz).1) (by rw [List.length_map]; exact hl)
  have w1 : PyData.weightAll (zs.map PyData.str) ≤ 7 * zs.length := weight_strs2 (n := 6) fun z hz => (hn z hz).2
  refine ⟨.lst (zs := [(.ref b, .list (zs.map PyData.str))]) n h (fun z hz => by rw [List.mem_singleton.mp hz]; exact t.dq), (Gd.list (m := 1) (w := 800) (ds := [.list (zs.map PyData.str)]) (fun d hd => by rw [List.mem_singleton.mp hd]; exact g1) (show 1 ≤ 800 by decide)).mono (by decide) (by decide), ?_⟩
  show PyData.weightAll (zs.map PyData.str) + 1 + 0 ≤ 100000
  omega
structure Thg (p S : Addr) (H : Hp) (ws : List (V × PyData)) : Prop where
  lst : H S = some (.lst (ws.map Prod.fst))
  ne : S ≠ p
  all : ∀ z ∈ ws, Tg (fun b => b = p) H z
theorem Thg.same {p S : Addr} {H H' : Hp} {ws : List (V × PyData)} (h : Thg p S H ws) (s : Same H H') : Thg p S H' ws := ⟨s _ _ h.lst, h.ne, fun z hz => (h.all z hz).same s⟩
theorem Thg.oth {p S : Addr} {H H' : Hp} {ws : List (V × PyData)} (h : Thg p S H ws) (o : Oth p H H') : Thg p S H' ws := ⟨o _ _ h.lst h.ne, h.ne, fun z hz => (h.all z hz).oth (OthA.box o rfl)⟩
end HF
/-! what can be gone back -/
namespace HF
open PySem PySem.Spec PyProof.Rows L2
theorem ld_iff {zs ws : List Str} {qs : List (Str × Str)} (nd : zs.Nodup) (cl : ∀ q ∈ qs, q.2 ∈ zs ∧ q.1 ≠ q.2 ∧ q.1 ∈ zs) : ld zs ws qs = true ↔ ∀ ls, Rng qs zs ls → T ws ls ≤ T zs ls := by
  rcases dich (ws := ws) nd cl with ⟨p, hp⟩ | ⟨ls, h1, h2⟩
  · exact ⟨fun _ ls h => hp.rings h, fun _ => ld_pot hp⟩
  · refine ⟨fun h => ?_, fun h => absurd h2 (Nat.not_lt.mpr (h ls h1))⟩
    rw [ld_ring h1 h2] at h
    exact nomatch h
theorem ld_not {zs ws : List Str} {qs : List (Str × Str)} (nd : zs.Nodup) (cl : ∀ q ∈ qs, q.2 ∈ zs ∧ q.1 ≠ q.2 ∧ q.1 ∈ zs) : ld zs ws qs = false ↔ ∃ ls, Rng qs zs ls ∧ T zs ls < T ws ls := by
  rcases dich (ws := ws) nd cl with ⟨p, hp⟩ | ⟨ls, h1, h2⟩
  · refine ⟨fun h => ?_, fun ⟨ls, h1, h2⟩ => ld_ring h1 h2⟩
    rw [ld_pot hp] at h
    exact nomatch h
  · exact ⟨fun _ => ⟨ls, h1, h2⟩, fun _ => ld_ring h1 h2⟩
theorem cl_perm {zs ws : List Str} {qs : List (Str × Str)} (pm : ws.Perm zs) (cl : ∀ q ∈ qs, q.2 ∈ zs ∧ q.1 ≠ q.2 ∧ q.1 ∈ zs) : ∀ q ∈ qs, q.2 ∈ ws ∧ q.1 ≠ q.2 ∧ q.1 ∈ ws := fun q hq => ⟨pm.mem_iff.mpr (cl q hq).1, (cl q hq).2.1, pm.mem_iff.mpr (cl q hq).2.2⟩
/-- heaps of the same books -/
structure Hps (K : PySem.W.Frag) (H : Hp) (h r : Addr) (zs : List Str) (qs : List (Str × Str)) : Prop where
  hz : Hq K H h zs
  ti : PqA K H r qs
  nd : zs.Nodup
  ne : zs ≠ []
  few : zs.length ≤ 100
  qf : qs.length ≤ 400
  cl : ∀ q ∈ qs, q.2 ∈ zs ∧ q.1 ≠ q.2 ∧ q.1 ∈ zs
  nm : ∀ z ∈ zs, Nm z
theorem Hps.same {K : PySem.W.Frag} {H H' : Hp} {h r : Addr} {zs : List Str} {qs : List (Str × Str)} (t : Hps K H h r zs qs) (s : Same H H') : Hps K H' h r zs qs := { t with hz := t.hz.same s, ti := t.ti.same s }
/-- the same books, in another order -/
theorem Hps.perm {K : PySem.W.Frag} {H : Hp} {h o r : Addr} {zs ws : List Str} {qs : List (Str × Str)} (t : Hps K H h r zs qs) (hw : Hq K H o ws) (pm : ws.Perm zs) : Hps K H o r ws qs :=
  ⟨hw, t.ti, pm.nodup_iff.mpr t.nd, fun e => t.ne (List.nil_perm.mp (e ▸ pm)), by rw [pm.length_eq]; exact t.few, t.qf, cl_perm pm t.cl, fun z hz => t.nm z (pm.mem_iff.mp hz)⟩
theorem Hps.two {K : PySem.W.Frag} {H : Hp} {h o r : Addr} {zs ws : List Str} {qs : List (Str × Str)} (t : Hps K H h r zs qs) (hw : Hq K H o ws) (pm : ws.Perm zs) : Two K H h o r zs ws qs := ⟨t.hz, hw, t.ti.pz, pm, t.nd, t.ne, t.few, t.qf, t.cl, t.nm⟩
def spCgb (K : PySem.W.Frag) : Sp := fun vs H Q _ => ∃ (h r : Addr) (b : Str) (zs : List Str) (qs : List (Str × Str)), vs = [.ref h, .ref r, .str b] ∧ Hps K H h r zs qs ∧ b ∈ zs ∧ lets qs zs b = true ∧ ∀ H' : Hp, Same H H' → Q (.bl (ld (onTop b zs) zs qs)) H'
def spFl (K : PySem.W.Frag) : Sp := fun vs H Q _ => ∃ (h r a : Addr) (zs row : List Str) (qs : List (Str × Str)), vs = [.ref h, .ref r, .ref a] ∧ Tp H h (zs.map V.str) ∧ Hps K H h r zs qs ∧ SqL K H a (row.map V.str) ∧ (∀ b ∈ row, b ∈ zs) ∧ refAt qs zs row = none ∧
  ∀ (H' : Hp) (v : V), Same H H' → ((v = .non ∧ ld (lefts zs row) zs qs = true) ∨ (∃ i : Nat, v = .int (i : Nat)) ∧ ld (lefts zs row) zs qs = false) → Q v H'
/-- a step of a row that's let lowers no ring -/
theorem T_take {qs : List (Str × Str)} {ls row zs : List Str} {i : Nat} {b : Str} (h : Rng qs zs ls) (nd : zs.Nodup) (hin : ∀ b ∈ row, b ∈ zs) (hr : refAt qs zs row = none) (hb : row[i]? = some b) : T (lefts zs (row.take (i + 1))) ls ≤ T (lefts zs (row.take i)) ls := by
  have pm := lefts_perm (row := row.take i) nd fun z hz => hin z (List.mem_of_mem_take hz)
  rw [lefts_snoc hb]
  exact T_step (h.perm pm) (pm.nodup_iff.mpr nd) (pm.mem_iff.mpr (hin b (List.mem_of_getElem? hb))) (refAt_at hb hr)
theorem T_end {qs : List (Str × Str)} {ls row zs : List Str} (h : Rng qs zs ls) (nd : zs.Nodup) (hin : ∀ b ∈ row, b ∈ zs) (hr : refAt qs zs row = none) (i : Nat) : T (lefts zs row) ls ≤ T (lefts zs (row.take i)) ls := by
  have go : ∀ k, T (lefts zs (row.take (i + k))) ls ≤ T (lefts zs (row.take i)) ls := fun k => by
    induction k with
    | zero => exact Nat.le_refl _
    | succ k ih =>
      by_cases hk : i + k < row.length
      · exact Nat.le_trans (T_take (i := i + k) h nd hin hr (List.getElem?_eq_getElem hk)) ih
      · rw [List.take_of_length_le (by omega)] at ih ⊢
        exact ih
  have := go row.length
  rw [List.take_of_length_le (by omega)] at this
  exact this
theorem refAt_take {qs : List (Str × Str)} {zs row : List Str} {i : Nat} (h : refAt qs zs row = none) : refAt qs zs (row.take i) = none := by
  have e := refAt_app qs (row.take i) zs (row.drop i)
  rw [List.take_append_drop, h] at e
  cases hx : refAt qs zs (row.take i) with
  | none => rfl
  | some k =>
    rw [hx] at e
    exact nomatch e
/-- a row that is let and leads there -/
structure RowTo (qs : List (Str × Str)) (zs ws row : List Str) : Prop where
  sub : ∀ b ∈ row, b ∈ zs
  lt : refAt qs zs row = none
  left : lefts zs row = ws
theorem RowTo.app {qs : List (Str × Str)} {zs ys ws a b : List Str} (h1 : RowTo qs zs ys a) (h2 : RowTo qs ys ws b) (nd : zs.Nodup) : RowTo qs zs ws (a ++ b) := by
  have pm := lefts_perm nd h1.sub
  rw [h1.left] at pm
  refine ⟨fun z hz => ?_, ?_, ?_⟩
  · rcases List.mem_append.mp hz with hz | hz
    · exact h1.sub z hz
    · exact pm.mem_iff.mp (h2.sub z hz)
  · rw [refAt_app, h1.lt, h1.left, h2.lt]
    rfl
  · rw [← h2.left, ← h1.left]
    exact List.foldl_append ..
theorem RowTo.perm {qs : List (Str × Str)} {zs ws row : List Str} (h : RowTo qs zs ws row) (nd : zs.Nodup) : ws.Perm zs := h.left ▸ lefts_perm nd h.sub
theorem RowTo.ld {qs : List (Str × Str)} {zs ws row : List Str} (h : RowTo qs zs ws row) (nd : zs.Nodup) (cl : ∀ q ∈ qs, q.2 ∈ zs ∧ q.1 ≠ q.2 ∧ q.1 ∈ zs) : ld zs ws qs = true :=
  (ld_iff nd cl).mpr fun ls hR => by
    rw [← h.left]
    exact T_row hR nd h.sub h.lt
theorem betw_to {K : PySem.W.Frag} {H : Hp} {h o r : Addr} {zs ws : List Str} {qs : List (Str × Str)} {Q : VK} {E : XK} (tw : Two K H h o r zs ws qs) (hz12 : zs.length ≤ 12)
    (k1 : ∀ (H' : Hp) (t l : Addr) (row : List Str), Same H H' → H t = none → H l = none → H' t = some (.tup [.str "row", .ref l]) → H' l = some (.lst (row.map V.str)) → RowTo qs zs ws row → row.length ≤ 144 → Q (.ref t) H')
    (k2 : ∀ (H' : Hp) (t l : Addr) (ls : List Str), Same H H' → H t = none → H l = none → H' t = some (.tup [.str "ring", .ref l]) → H' l = some (.lst (ls.map V.str)) → Rng qs zs ls → T zs ls < T ws ls → Q (.ref t) H') : spBetw K [.ref h, .ref o, .ref r] H Q E := by
  refine ⟨h, o, r, zs, ws, qs, rfl, tw, fun H' t l p g m s nt nl ht hl hp hL hm => ?_, fun H' t l ls s nt nl ht hl h1 h2 _ => k2 H' t l ls s nt nl ht hl h1 h2⟩
  refine k1 H' t l _ s nt nl ht hl ⟨fun z hz => tw.pm.mem_iff.mp (rowOf_sub z hz), rowOf_let hL.sol tw.pm tw.nd tw.cl hm.2, rowOf_left hL.sol tw.pm tw.nd hm.2⟩ ?_
  have h1 := rowOf_len ws g m
  obtain ⟨z0, hz0, e0⟩ := hm.1
  have h2 := hL.few hp z0 hz0
  have h3 : m ≤ 12 := by omega
  have h4 : ws.length ≤ 12 := by
    rw [tw.pm.length_eq]
    exact hz12
  exact Nat.le_trans h1 (Nat.le_trans (Nat.mul_le_mul h3 h4) (by decide))
theorem dq_strs {H : Hp} {l : Addr} {ls : List Str} (h : H l = some (.lst (ls.map V.str))) : Dq (fun _ => False) H (.ref l) (.list (ls.map PyData.str)) := by
  have e1 : ls.map PyData.str = (ls.map fun z => (V.str z, PyData.str z)).map Prod.snd := by
    rw [List.map_map]
    rfl
  have e2 : ls.map V.str = (ls.map fun z => (V.str z, PyData.str z)).map Prod.fst := by
    rw [List.map_map]
    rfl
  rw [e1]
  refine .lst (fun z => z) (by rw [h, e2]) fun z hz => ?_
  obtain ⟨w0, _, rfl⟩ := List.mem_map.mp hz
  exact .str _
theorem RowTo.is {qs : List (Str × Str)} {zs ws row : List Str} (h : RowTo qs zs ws row) : isRowB zs ws qs (.list (row.map PyData.str)) = true := by
  have hstr : (row.map PyData.str).map strD = row := by
    rw [List.map_map]
    exact List.map_id _
  show ((row.map PyData.str).all (inD zs) && (decide (refAt qs zs ((row.map PyData.str).map strD) = none) && decide (lefts zs ((row.map PyData.str).map strD) = ws))) = true
  rw [hstr, h.lt, h.left, decide_eq_true rfl, decide_eq_true rfl, List.all_map, show row.all (inD zs ∘ PyData.str) = true from List.all_eq_true.mpr fun z hz => decide_eq_true (h.sub z hz)]
  rfl
theorem Hps.cmp {K : PySem.W.Frag} {H : Hp} {h o r : Addr} {zs ws : List Str} {qs : List (Str × Str)} (t : Hps K H h r zs qs) (hw : Hq K H o ws) (pm : ws.Perm zs) : Cmp K H h o r zs ws qs := ⟨t.hz, hw, t.ti, pm, t.nd, t.ne, t.few, t.qf, t.cl, t.nm⟩
/-- rows in a list -/
structure RwAt (qs : List (Str × Str)) (zs ws : List Str) (H : Hp) (F : Addr) (as : List Addr) (rs : List (List Str)) : Prop where
  top : H F = some (.lst (as.map V.ref))
  len : as.length = rs.length
  at' : ∀ (i : Nat) (a : Addr) (ls : List Str), as[i]? = some a → rs[i]? = some ls → H a = some (.lst (ls.map V.str))
  rw : ∀ ls ∈ rs, RowTo qs zs ws ls ∧ ls.length ≤ 400
theorem RwAt.same {qs : List (Str × Str)} {zs ws : List Str} {H H' : Hp} {F : Addr} {as : List Addr} {rs : List (List Str)} (h : RwAt qs zs ws H F as rs) (sm : Same H H') : RwAt qs zs ws H' F as rs :=
  ⟨sm _ _ h.top, h.len, fun i a ls h1 h2 => sm _ _ (h.at' i a ls h1 h2), h.rw⟩
theorem RwAt.get {qs : List (Str × Str)} {zs ws : List Str} {H : Hp} {F : Addr} {as : List Addr} {rs : List (List Str)} (h : RwAt qs zs ws H F as rs) {i : Nat} {a : Addr} (ha : as[i]? = some a) : ∃ ls, H a = some (.lst (ls.map V.str)) ∧ RowTo qs zs ws ls ∧ ls.length ≤ 400 := by
  have hi : i < rs.length := by
    rw [← h.len]
    exact (List.getElem?_eq_some_iff.mp ha).1
  have hr : rs[i]? = some rs[i] := List.getElem?_eq_getElem hi
  exact ⟨_, h.at' i a _ ha hr, h.rw _ (List.mem_of_getElem? hr)⟩
theorem betw_any {K : PySem.W.Frag} {H : Hp} {h o r : Addr} {zs ws : List Str} {qs : List (Str × Str)} {Q : VK} {E : XK} (tw : Two K H h o r zs ws qs) (hz12 : zs.length ≤ 12)
    (k : ∀ (H' : Hp) (t l : Addr) (wd : Str) (ls : List Str), Same H H' → H t = none → H l = none → H' t = some (.tup [.str wd, .ref l]) → H' l = some (.lst (ls.map V.str)) → ls.length ≤ 144 → ((wd = "row" ∧ RowTo qs zs ws ls) ∨ (wd = "ring" ∧ Rng qs zs ls ∧ T zs ls < T ws ls)) → Q (.ref t) H') : spBetw K [.ref h, .ref o, .ref r] H Q E :=
  betw_to tw hz12 (fun H' t l row s nt nl ht hl hr hrl => k H' t l _ row s nt nl ht hl hrl (.inl ⟨rfl, hr⟩)) (fun H' t l ls s nt nl ht hl h1 h2 => k H' t l _ ls s nt nl ht hl (by
    have := len_sub h1.nd (fun z hz => h1.sub z hz)
    omega) (.inr ⟨rfl, h1, h2⟩))
theorem word_eqB {x y : Str} : decide (V.str x = V.str y) = decide (x = y) := by
  by_cases h : x = y
  · rw [h, decide_eq_true rfl, decide_eq_true rfl]
  · rw [decide_eq_false h, decide_eq_false (fun e => h (by injection e))]
theorem int_neF {x y : Int} (h : x = y) : (!decide (V.int x = V.int y)) = false := by
  rw [h, decide_eq_true rfl]
  rfl
end HF
/-! sorted(d.items()), sorted lists of pairs of a text and a number -/
namespace HF
open PySem PySem.Spec PyProof.Rows L2
abbrev IL := List (Addr × (Str × Int))
abbrev encI (p : Addr × (Str × Int)) : PyData := .tuple [.str p.2.1, .int p.2.2]
theorem alike_I (L : IL) : PySem.W.AllAlike (L.map encI) := fun x hx y hy => by
  obtain ⟨a, _, rfl⟩ := List.mem_map.mp hx
  obtain ⟨b, _, rfl⟩ := List.mem_map.mp hy
  rfl
theorem sortable_I (L : IL) : PySem.W.Sortable (L.map encI) := .inl fun x hx => by
  obtain ⟨a, _, rfl⟩ := List.mem_map.mp hx
  exact ⟨_, _, rfl⟩
theorem le_I {p q : Addr × (Str × Int)} (h : PySem.W.dataLe false encI p q = true) : p.2.1.cps.toList ≤ q.2.1.cps.toList := by
  have h1 : (!PySem.W.dataLt (encI q) (encI p)) = true := h
  have key : (!PySem.W.dataLt (.str q.2.1) (.str p.2.1)) = true → p.2.1.cps.toList ≤ q.2.1.cps.toList := fun z => by
    rw [PySem.W.dataLt_str, PySem.W.not_lt_str] at z
    exact of_decide_eq_true z
  refine key ?_
  rw [PySem.W.dataLt_pair (by rfl) (by rfl)] at h1
  by_cases e : PyData.eqv (.str q.2.1) (.str p.2.1) = true
  · have e2 : q.2.1 = p.2.1 := by
      have : (q.2.1 == p.2.1) = true := e
      exact eq_of_beq this
    rw [e2, PySem.W.dataLt_str]
    simp [List.lt_irrefl]
  · rw [if_neg e] at h1
    exact h1
theorem each_I : ∀ (L : IL), PySem.W.EachIs (fun v (p : Addr × (Str × Int)) => v = Value.ref p.1) (L.map fun p => Value.ref p.1) L
  | [] => .nil
  | p :: r => .cons rfl (each_I r)
theorem eachI_out : ∀ {out : List Value} {L : IL}, PySem.W.EachIs (fun v (p : Addr × (Str × Int)) => v = Value.ref p.1) out L → out = L.map fun p => Value.ref p.1
  | _, _, .nil => rfl
  | _, _, .cons h t => by rw [h, eachI_out t]; rfl
def rfI (L : IL) : List V := L.map fun p => V.ref p.1
theorem valsI : ∀ (L : IL), Vals (rfI L) (L.map fun p => Value.ref p.1)
  | [] => .nil
  | p :: ks => .cons rfl (valsI ks)
theorem refsI : ∀ {L : IL} {us : List Value}, Vals (rfI L) us → us = L.map fun p => Value.ref p.1
  | [], _, .nil => rfl
  | p :: ks, _, .cons r t => by
    cases r
    rw [refsI t]
    rfl
def AtI (H : Hp) (L : IL) : Prop := ∀ p ∈ L, H p.1 = some (.tup [.str p.2.1, .int p.2.2])
theorem AtI.same {H H' : Hp} {L : IL} (h : AtI H L) (s : Same H H') : AtI H' L := fun p hp => s _ _ (h p hp)
section
variable {X : Cx}
theorem eachI_reads {pins : List (Addr × Obj)} {σ : L2.St} {H : Hp} {s : Shared} (I : Inv X pins σ H s) : ∀ {L : IL}, AtI H L → PySem.W.EachIs (fun v p => ∃ as, Reads s.heap v (encI p) as) (L.map fun p => Value.ref p.1) L
  | [], _ => .nil
  | p :: r, h => .cons (Dp.reads I (encI p) (.ref p.1) (.ref p.1) (.tup (.inl (.inl (h p List.mem_cons_self))) (.cons (.str _) (.cons (.int _) .nil))) rfl) (eachI_reads I fun q hq => h q (List.mem_cons_of_mem _ hq))
/-- sorted(l), l a list of pairs of a text and a number -/
def rSortI2 (K : PySem.W.Frag) : List V → Hp → VK → Prop := fun us H Q => ∃ (l : Addr) (L : IL), us = [V.ref l] ∧ SqL K H l (rfI L) ∧ AtI H L ∧ L.length ≤ 1000 ∧
  ∀ (L' : IL) (p : Addr), L'.Perm L → (L'.map (·.2.1)).Pairwise (fun x y => x.cps.toList ≤ y.cps.toList) → H p = none → Q (.ref p) (upd H p (.lst (rfI L')))
theorem cr_sortI2 (hu : X.A.units + 64 < cLine) : CallR X (.builtin "sorted") (rSortI2 X.K) := by
  intro pins st σ H us ws Q I rel hyp
  obtain ⟨l, L, rfl, hl, hat, few, q⟩ := hyp
  rw [Vals.ref1 rel]
  obtain ⟨its, rv, pl, hz⟩ := I.list hl
  have e := refsI rv
  subst e
  refine PySem.W.sorted_data (enc := encI) (bs := L) pl.isList (each_I L) (eachI_reads I hat) (alike_I L) (sortable_I L) (by rw [sizeLine_eq]; omega) (fun b _ => by show X.A.units + 2 + 1 < cLine; omega) fun out hout eo => ?_
  obtain ⟨ep, he⟩ := PyProof.Rows.sortedAll_at st.heap (L.map fun p => Value.ref p.1) (List.toArray out)
  have pm := List.mergeSort_perm L (PySem.W.dataLe false encI)
  have hz2 : (rfI (L.mergeSort (PySem.W.dataLe false encI))).length ≤ sizeLine := by
    unfold rfI
    rw [List.length_map, pm.length_eq, sizeLine_eq]
    omega
  have hv : Vals (rfI (L.mergeSort (PySem.W.dataLe false encI))) out := by
    rw [eachI_out eo]
    exact valsI _
  refine ⟨.ref _, _, I.laid (t' := st.toks) (o := .lst (rfI (L.mergeSort (PySem.W.dataLe false encI)))) (fun _ _ => PyProof.Rows.sortedAll_old) (Nat.le_succ _) ⟨hz2, out, ep, hv, he⟩, rfl, q _ _ pm ?_ (I.hok.fresh (Nat.le_succ _))⟩
  exact List.pairwise_map.mpr ((PySem.W.sort_pairwise (PySem.W.sortLe_total (PyProof.Rows.listOrd PyProof.Rows.itemOrd) false fun b : Addr × (Str × Int) => PySem.W.keyToks (encI b)) L).imp fun h => le_I h)
theorem readsAll_nil {h : Heap} {a : Str} {b : Int} : ∀ {vs : List Value} {as : List Addr}, ReadsAll h vs [.str a, .int b] as → as = []
  | _, _, .cons r1 (.cons r3 .nil) => by
    cases r1
    cases r3
    rfl
theorem reads_nil {h : Heap} {v : Value} {a : Str} {b : Int} {as : List Addr} (r : Reads h v (.tuple [.str a, .int b]) as) : as = [] := by
  cases r with
  | tuple _ _ _ ra => exact readsAll_nil ra
/-- the tuples of a dict's items, laid -/
theorem items_laidT {pins : List (Addr × Obj)} {σ : L2.St} {H : Hp} {s : Shared} {h' : Heap} {tk : Nat} {kvs : List (Key × V)} {vs : List (Key × Value)} {as : List Addr} (I : Inv X pins σ H s) (kv : KV kvs vs)
    (hk : ∀ b o, s.heap.get? b = some o → h'.get? b = some o) (hl : as.length = vs.length) (hG : PySem.W.KdxG (mixKind X.prog X.w) vs s.heap.objs.size h' as) :
    ∃ H' : Hp, Same H H' ∧ (∀ t ∈ as, H t = none) ∧ Paired (fun (t : Addr) (q : Key × V) => H' t = some (.tup [kV q.1, q.2])) as kvs ∧ Inv X pins σ H' { s with heap := h', toks := tk } := by
  have lk : kvs.length = vs.length := Paired.length kv
  have nd : as.Nodup := List.Pairwise.imp (fun {a b} (h : a < b) => Nat.ne_of_lt h) hG.rise
  have new : ∀ t ∈ as, H t = none := fun t ht => I.hok.fresh (Nat.le_of_lt (hG.above t ht))
  have atP := LiI.putT_at as kvs H (by omega) nd
  have off : ∀ b, b ∉ as → LiI.putT H as kvs b = H b := fun b h1 => LiI.putT_off as kvs _ h1
  have low : ∀ b o, s.heap.get? b = some o → b ∉ as := fun b o e z => absurd (Heap.lt_size e) (Nat.not_lt.mpr (Nat.le_of_lt (hG.above b z)))
  have kp : ∀ b u, H b = some u → (LiI.putT H as kvs) b = some u := fun b u e => by
    rw [off b (fun z => by rw [new b z] at e; cases e)]
    exact e
  refine ⟨LiI.putT H as kvs, kp, new, atP, ?_⟩
  refine I.call' (ch := []) rfl ⟨fun b o q _ _ _ => hk b o q, fun b o q _ _ _ => ⟨o.slots, hk b o q⟩, fun b o q n _ => ?_, fun b o q _ => ⟨o, hk b o q⟩, fun b xs q => kp b _ q, fun b o u q => kp b _ q, fun b ps q => ⟨#[], by rw [kp b _ q]; simp⟩⟩ (fun b u q => ?_) I.bare fun b z => by simp at z
  · rw [off b (low b o q)]
    exact n
  · by_cases hb : b ∈ as
    · obtain ⟨j, pk, e1, e2, e3⟩ := LiI.paired_ix atP hb
      rw [e3] at q
      cases q
      obtain ⟨key, k, x, f1, f2, f3⟩ := hG.pairs j b e1
      obtain ⟨qv, g1, g2, g3⟩ := LiI.paired_get kv e2
      rw [f1] at g1
      cases g1
      have rk : RelV (kV pk.1) key := by
        rw [g2]
        exact relV_key (show keyIs k key = true from f2)
      exact ⟨by show 2 ≤ sizeLine; decide, [key, x], .cons rk (.cons g3 .nil), ⟨_, f3, rfl, _, rfl⟩⟩
    · rw [off b hb] at q
      exact (I.hok b u q).stay (fun d v _ y => hk d v y) (fun d y => kp d _ y) fun d xs y => kp d _ y
theorem paired_IL {H : Hp} {g : Str → Int} : ∀ {as : List Addr} {zs : List Str}, Paired (fun (t : Addr) (q : Key × V) => H t = some (.tup [kV q.1, q.2])) as (dkv zs g) → ∃ L : IL, as = L.map (·.1) ∧ L.map (·.2) = zs.map (fun x => (x, g x)) ∧ AtI H L
  | [], [], _ => ⟨[], rfl, rfl, fun p hp => nomatch hp⟩
  | a :: as, z :: zs, .cons h t => by
    obtain ⟨L, e1, e2, e3⟩ := paired_IL (as := as) (zs := zs) t
    refine ⟨(a, (z, g z)) :: L, by rw [e1]; rfl, by rw [List.map_cons, e2]; rfl, fun p hp => ?_⟩
    rcases List.mem_cons.mp hp with hp | hp
    · rw [hp]
      exact h
    · exact e3 p hp
theorem sorted_pairs {L L' : IL} {zs : List Str} {g : Str → Int} (e : L.map (·.2) = zs.map fun x => (x, g x)) (pm : L'.Perm L) (pw : (L'.map (·.2.1)).Pairwise fun x y => x.cps.toList ≤ y.cps.toList) : L'.map (·.2) = (srt zs).map fun x => (x, g x) := by
  have e1 : L.map (·.2.1) = zs := by
    have := congrArg (List.map Prod.fst) e
    rw [List.map_map, List.map_map] at this
    rw [show L.map (·.2.1) = L.map (Prod.fst ∘ fun x => x.2) from rfl, this]
    exact List.map_id _
  have e2 : L'.map (·.2.1) = srt zs := by
    refine rise_one ?_ pw (srt_rise _)
    exact ((pm.map (·.2.1)).trans (e1 ▸ List.Perm.refl _)).trans (srt_perm zs).symm
  have e3 : ∀ p ∈ L', p.2 = (p.2.1, g p.2.1) := fun p hp => by
    have : p.2 ∈ L.map (·.2) := List.mem_map_of_mem (pm.mem_iff.mp hp)
    rw [e] at this
    obtain ⟨x, _, h⟩ := List.mem_map.mp this
    rw [← h]
  rw [← e2, List.map_map]
  exact List.map_congr_left e3
def rSI : V → Hp → VK → Prop := fun x H Q => ∃ (d : Addr) (zs : List Str) (g : Str → Int), x = .ref d ∧ DH H d zs g ∧ zs.length ≤ 1000 ∧
  ∀ (H' : Hp) (p : Addr) (L : IL), Same H H' → H p = none → H' p = some (.lst (rfI L)) → AtI H' L → L.map (·.2) = (srt zs).map (fun x => (x, g x)) → Q (.ref p) H'
def tSI (te : TE) : TE := fun σ H Q => te σ H fun x H1 => rSI x H1 Q
/-- sorted(e.items()) -/
theorem pe_sortedItems {e : Expr} {te : TE} {p apos cpos pos : Pos} (hc : X.calm = true) (hu : X.A.units + 64 < cLine) (he : PE X e te) (hg : Gl X "sorted") (hm : X.mg "sorted" = none) (hbase : attributeBase e "items" X.env (eval e X.env) = eval e X.env := by rfl) (hline : (apos.endLine == cpos.line) = true := by rfl)
    (hs : starEach [.Call (.Attribute e "items" apos) [] [] cpos] X.env = (false, eval (.Call (.Attribute e "items" apos) [] [] cpos) X.env) :: starEach [] X.env := by rfl) :
    PE X (.Call (.Name "sorted" p) [.Call (.Attribute e "items" apos) [] [] cpos] [] pos) (tSI te) := by
  refine ⟨fun pins s σ H Q I hq => ?_⟩
  refine wpAny_Call_Name_kw (ld_blt I hg hm (show bootBuiltins "sorted" = some (.builtin "sorted") by decide +kernel) ?_)
  refine PyProof.Rows.callWith_builtin1 ?_ hs rfl
  rw [hs]
  show wpAny _ _ (spliced ((false, eval (.Call (.Attribute e "items" apos) [] [] cpos) X.env) :: backTo pos (starEach [] X.env))) _ _ s
  refine Calls.spliced_cons ?_
  refine wpAny_Call_method (T := "dict") (id := "dict.items") hbase rfl hline F.plainAttrs_dict F.slot_dict_items F.type_dict_items (thn (he.run pins s σ H _ I hq) fun u s1 ⟨x, H1, I1, rx, d, zs, g, ex, hd, few, q⟩ => ?_)
  subst ex
  obtain rfl : u = Value.ref d := rx
  obtain ⟨hz, hs0, vs, kv, hdo⟩ := I1.hok d _ hd
  obtain ⟨ep, hat⟩ := hdo.dictAt
  have lk : (dkv zs g).length = vs.length := Paired.length kv
  have lz : (dkv zs g).length = zs.length := List.length_map _
  have I2 : Inv X pins σ H1 { s1 with heap := s1.heap.push { cls := .type "dict_items", data := .fields #[.ref d] } } := I1.kept (t' := s1.toks) fun b ob q => Heap.get?_push_of_some _ q
  refine ⟨hdo.typeIs, hdo.mapOf.noDict, ?_⟩
  show wpAny _ _ (callWith cpos (.builtin "dict.items") [.ref d] [] []) _ X.xe s1
  refine method_meetsIn F.slot_dict_items F.entry_dict_items rfl (PySem.evalArgs_none ⟨rfl, hdo.typeIs, F.args_dict_items_1 _, _, meets_dict_items (mixKind X.prog X.w) d hs0, ⟨vs, hdo⟩, ?_⟩)
  refine Calls.spliced_nil ?_
  refine Calls.call_function_entry kind_sorted plain_sorted entry_sorted (args_sorted1 _) ?_
  unfold Builtin.«sorted»
  refine wpAny_bind (m := checkCount "sorted" 1 1 _) (wpAny_pure ?_)
  refine wpAny_bind (PySem.W.kdx_collect (A := X.A.in1) (knd := mixKind X.prog X.w) (kvs := vs) (ep := ep) (I1.ok.hd hc) ⟨_, Heap.get?_push_size _ rfl, rfl, rfl⟩ (hat.push _) (by omega) fun h' tk as hk hl hG => ?_)
  obtain ⟨H2, k1, k2, k3, J⟩ := items_laidT (tk := tk) I2 kv hk hl hG
  obtain ⟨L, rfl, eL, hL⟩ := paired_IL k3
  have lL : L.length = zs.length := by
    have := congrArg List.length eL
    rwa [List.length_map, List.length_map] at this
  have evs : (L.map (·.1)).map Value.ref = L.map fun p => Value.ref p.1 := by rw [List.map_map]; rfl
  rw [evs]
  refine wpAny_bind (wpAny_newList ?_ (by rw [List.length_map, sizeLine_eq]; omega))
  have hoL : (h'.push (seqObj "list" (L.map fun q => Value.ref q.1).toArray 0)).get? h'.objs.size = some (seqObj "list" (L.map fun q => Value.ref q.1).toArray 0) := Heap.get?_push_size _ rfl
  have er : PySem.W.EachIs (fun v p => ∃ as, Reads (h'.push (seqObj "list" (L.map fun q => Value.ref q.1).toArray 0)) v (encI p) as ∧ h'.objs.size ∉ as) (L.map fun p => Value.ref p.1) L := (eachI_reads J hL).mono fun v p ⟨as, r⟩ => ⟨as, PyProof.Rows.Reads.keeps (fun b o e => Heap.get?_push_of_some _ e) r, by rw [reads_nil r]; simp⟩
  refine wpAny_bind (wpAny_holding (PySem.W.list_sort_data (s := { s1 with heap := h'.push (seqObj "list" (L.map fun q => Value.ref q.1).toArray 0), toks := tk }) (enc := encI) hoL (each_I L) er (alike_I L) (sortable_I L) (by rw [sizeLine_eq]; omega)
    (fun b _ => by show X.A.units + 1 + 1 + 1 < cLine; omega) fun out hout eo => ?_))
  obtain ⟨c, hc2⟩ := sortedHeap_at (vs := L.map fun q => Value.ref q.1) (out := List.toArray out) hoL
  have pm := List.mergeSort_perm L (PySem.W.dataLe false encI)
  have hz2 : (rfI (L.mergeSort (PySem.W.dataLe false encI))).length ≤ sizeLine := by
    unfold rfI
    rw [List.length_map, pm.length_eq, sizeLine_eq]
    omega
  have hv : Vals (rfI (L.mergeSort (PySem.W.dataLe false encI))) out := by
    rw [eachI_out eo]
    exact valsI _
  have pw : ((L.mergeSort (PySem.W.dataLe false encI)).map (·.2.1)).Pairwise fun x y => x.cps.toList ≤ y.cps.toList := List.pairwise_map.mpr ((PySem.W.sort_pairwise (PySem.W.sortLe_total (PyProof.Rows.listOrd PyProof.Rows.itemOrd) false fun b : Addr × (Str × Int) => PySem.W.keyToks (encI b)) L).imp fun h => le_I h)
  have fr : H2 h'.objs.size = none := J.hok.fresh (Nat.le_refl _)
  refine wpAny_pure ⟨_, rfl, .ref h'.objs.size, _, J.laid (t' := tk) (o := .lst (rfI (L.mergeSort (PySem.W.dataLe false encI)))) (fun b u e => ?_) (Nat.le_refl _) ⟨hz2, out, c, hv, hc2⟩, rfl, q _ _ _ (k1.trans (same_upd fr)) (k1.free fr) upd_same (fun p hp => ?_) (sorted_pairs eL pm pw)⟩
  · have lt := Heap.lt_size e
    show (sortedHeap (h'.push (seqObj "list" (L.map fun q => Value.ref q.1).toArray 0)) h'.objs.size _ _).get? b = some u
    rw [sortedHeap_old (Nat.ne_of_lt lt) (by rw [size_push']; exact Nat.lt_succ_of_lt lt)]
    exact Heap.get?_push_of_some _ e
  · have := hL p (pm.mem_iff.mp hp)
    exact same_upd fr _ _ this
end
end HF
/-! round a ring: how much oftener friends go -/
namespace HF
open PySem PySem.Spec PyProof.Rows L2
def ovr (zs ws : List Str) (g : Str → Int) (p : Str × Str) : Int := g p.2 - g p.1 - gn zs ws p
theorem sum_ovr0 (zs ws : List Str) (g : Str → Int) : ∀ P : List (Str × Str), (P.map (ovr zs ws g)).sum = (P.map fun p => g p.2).sum - (P.map fun p => g p.1).sum - ((num ws P : Int) - (num zs P : Int))
  | [] => rfl
  | p :: P => by
    rw [List.map_cons, List.map_cons, List.map_cons, List.sum_cons, List.sum_cons, List.sum_cons, sum_ovr0 zs ws g P, num_cons, num_cons]
    unfold ovr
    rw [show gn zs ws p = (uu ws p.1 p.2 : Int) - (uu zs p.1 p.2 : Int) from gn_uu zs ws p.1 p.2]
    omega
abbrev cyp (ls : List Str) : List (Str × Str) := ls.zip (ls.drop 1 ++ ls.take 1)
theorem cyp_len {ls : List Str} : (ls.drop 1 ++ ls.take 1).length = ls.length := by
  rw [List.length_append, List.length_drop, List.length_take]
  omega
theorem sum_ovr (zs ws : List Str) (g : Str → Int) {ls : List Str} (h : 1 ≤ ls.length) : ((cyp ls).map (ovr zs ws g)).sum = (T zs ls : Int) - (T ws ls : Int) := by
  rw [sum_ovr0, law_T h, law_T h]
  have e1 : (cyp ls).map (fun p => g p.2) = (ls.drop 1 ++ ls.take 1).map g := by
    rw [show (cyp ls).map (fun p => g p.2) = ((cyp ls).map Prod.snd).map g from by rw [List.map_map]; rfl, List.map_snd_zip (by rw [cyp_len]; omega)]
  have e2 : (cyp ls).map (fun p => g p.1) = ls.map g := by
    rw [show (cyp ls).map (fun p => g p.1) = ((cyp ls).map Prod.fst).map g from by rw [List.map_map]; rfl, List.map_fst_zip (by rw [cyp_len]; omega)]
  have e3 : ((ls.drop 1 ++ ls.take 1).map g).sum = (ls.map g).sum := by
    have : (ls.map g).sum = ((ls.take 1 ++ ls.drop 1).map g).sum := by rw [List.take_append_drop]
    rw [this, List.map_append, List.map_append, List.sum_append, List.sum_append]
    omega
  rw [e1, e2, e3]
  omega
theorem sum_zero : ∀ {ns : List Int}, (∀ n ∈ ns, 0 ≤ n) → ns.sum = 0 → ∀ n ∈ ns, n = 0
  | [], _, _, n, hn => nomatch hn
  | a :: r, h, e, n, hn => by
    have h1 := h a List.mem_cons_self
    have h2 : ∀ m ∈ r, 0 ≤ m := fun m hm => h m (List.mem_cons_of_mem _ hm)
    have h3 : 0 ≤ r.sum := by
      clear e hn h h1
      induction r with
      | nil => exact Int.le_refl _
      | cons b r ih =>
        rw [List.sum_cons]
        have := h2 b List.mem_cons_self
        have := ih fun m hm => h2 m (List.mem_cons_of_mem _ hm)
        omega
    rw [List.sum_cons] at e
    rcases List.mem_cons.mp hn with hn | hn
    · omega
    · exact sum_zero h2 (by omega) n hn
theorem cyp_mem {qs : List (Str × Str)} {zs ls : List Str} (hR : Rng qs zs ls) {p : Str × Str} (hp : p ∈ cyp ls) : p ∈ qs ∧ p.1 ∈ ls ∧ p.2 ∈ ls := by
  have hm := List.of_mem_zip hp
  refine ⟨?_, hm.1, ?_⟩
  · obtain ⟨ms, y, rfl⟩ := snoc_of (ls := ls) (by have := hR.two; omega)
    have hp2 : p ∈ cyc (ms ++ [y]) := by
      unfold cyc
      rw [← List.drop_one]
      exact hp
    obtain ⟨i0, hi0⟩ := List.mem_iff_getElem?.mp (cyc_snoc.mpr hp2)
    exact hR.pairs hi0
  · rcases List.mem_append.mp hm.2 with e | e
    · exact List.mem_of_mem_drop e
    · exact List.mem_of_mem_take e
/-- dict(list of pairs) -/
theorem merge_any {zs : List Str} (g : Str → Int) (nd : zs.Nodup) : mergeK [] (dkv zs g) = dkv zs g := by
  have go : ∀ (r a : List Str), (a ++ r).Nodup → (dkv r g).foldl (fun acc kv => putK acc kv.1 kv.2) (dkv a g) = dkv (a ++ r) g := fun r => by
    induction r with
    | nil =>
      intro a _
      rw [List.append_nil]
      rfl
    | cons x r ih =>
      intro a hn
      have hx : x ∉ a := fun z => (List.nodup_append.mp hn).2.2 x z x List.mem_cons_self rfl
      show (dkv r g).foldl _ (putK (dkv a g) (Sum.inr x) (V.int (g x))) = _
      rw [putK_new _ (keys_out (g := fun x => V.int (g x)) hx)]
      have e : dkv a g ++ [((Sum.inr x : Key), V.int (g x))] = dkv (a ++ [x]) g := by
        rw [show dkv (a ++ [x]) g = dkv a g ++ [((Sum.inr x : Key), V.int (g x))] from List.map_append]
      rw [e, ih (a ++ [x]) (by rw [List.append_assoc]; exact hn), List.append_assoc]
      rfl
  exact go zs [] nd
section
variable {X : Cx}
def rInTq (K : PySem.W.Frag) : R2 := fun x y H Q => ∃ d ds, Dp K H x d ∧ Dp K H y (.tuple ds) ∧ SeqAt.shaped d = true ∧ SeqAt.shaped (.tuple ds) = true ∧ Q (.bl (ds.any fun z => PyData.eqv z d)) H
theorem op_inTq (hu : X.A.units + 65 < cLine) : OpR X (compareOp .In) (rInTq X.K) := by
  intro pins s σ H x y v u Q I rx ry hyp
  obtain ⟨d, ds, hd, he, sd, se, q⟩ := hyp
  obtain ⟨as, r1⟩ := Dp.reads I d x v hd rx
  obtain ⟨bs, r2⟩ := Dp.reads I (.tuple ds) y u he ry
  have deep : d.depth ≤ 64 := of_decide_eq_true (Bool.and_eq_true_iff.mp sd).2
  exact SeqAt.in_tuple_reads r2 r1 (SeqAt.canLay_of_shaped se) (SeqAt.canLay_of_shaped sd) (by have := Nat.min_le_right (PyData.depthAll ds) d.depth; omega) ⟨.bl _, H, I, rfl, q⟩
end
theorem dTies_prs' {zs : List Str} : ∀ {L : SL}, (∀ p ∈ L, OkP zs p) → L.map dRow = (L.map prOf).map dPr
  | [], _ => rfl
  | p :: r, h => by
    obtain ⟨x, y, e, _⟩ := h p List.mem_cons_self
    rw [List.map_cons, List.map_cons, List.map_cons, dTies_prs' fun q hq => h q (List.mem_cons_of_mem _ hq)]
    congr 1
    show PyData.tuple (p.2.map PyData.str) = dPr (prOf p)
    unfold prOf
    rw [e]
    rfl
theorem strs_refs {ls : List Str} {as : List Addr} (h2 : 2 ≤ ls.length) (e : ls.map V.str = as.map V.ref) : False := by
  cases ls with
  | nil => exact absurd h2 (by decide)
  | cons x r =>
    cases as with
    | nil => exact nomatch e
    | cons a r2 =>
      injection e with e1 _
      exact nomatch e1
theorem LpAt.push {qs : List (Str × Str)} {zs ls : List Str} {H : Hp} {D t : Addr} {bs : List Addr} {rs : List (List Str)} (h : LpAt qs zs H D bs rs) (ht : H t = some (.lst (ls.map V.str))) (hR : Rng qs zs ls) : LpAt qs zs (upd H D (.lst (bs.map V.ref ++ [.ref t]))) D (bs ++ [t]) (rs ++ [ls]) := by
  have ne : ∀ {a : Addr} {l2 : List Str}, H a = some (.lst (l2.map V.str)) → Rng qs zs l2 → a ≠ D := fun {a l2} e r z => by
    rw [z, h.top] at e
    exact strs_refs r.two (by injection (Option.some.inj e) with e2; exact e2.symm)
  refine ⟨by rw [upd_same, List.map_append]; rfl, by rw [List.length_append, List.length_append, h.len]; rfl, fun i a l2 h1 h2 => ?_, fun l2 hl2 => ?_⟩
  · by_cases hi : i < bs.length
    · rw [List.getElem?_append_left hi] at h1
      rw [List.getElem?_append_left (by rw [← h.len]; exact hi)] at h2
      have := h.at' i a l2 h1 h2
      rw [upd_ne (ne this (h.rng l2 (List.mem_of_getElem? h2)))]
      exact this
    · have hi2 : i = bs.length := by
        have := (List.getElem?_eq_some_iff.mp h1).1
        rw [List.length_append] at this
        have e : [t].length = 1 := rfl
        omega
      subst hi2
      rw [List.getElem?_append_right (Nat.le_refl _)] at h1
      rw [h.len, List.getElem?_append_right (Nat.le_refl _)] at h2
      simp at h1 h2
      subst h1 h2
      rw [upd_ne (ne ht hR)]
      exact ht
  · rcases List.mem_append.mp hl2 with hl2 | hl2
    · exact h.rng l2 hl2
    · rw [List.mem_singleton.mp hl2]
      exact hR
theorem LpAt.app {qs : List (Str × Str)} {zs : List Str} {H : Hp} {F D E : Addr} {as bs : List Addr} {rs rs2 : List (List Str)} (h : LpAt qs zs H F as rs) (h2 : LpAt qs zs H D bs rs2) (hE : H E = some (.lst (as.map V.ref ++ bs.map V.ref))) : LpAt qs zs H E (as ++ bs) (rs ++ rs2) := by
  refine ⟨by rw [hE, List.map_append], by rw [List.length_append, List.length_append, h.len, h2.len], fun i a l2 e1 e2 => ?_, fun l2 hl2 => ?_⟩
  · by_cases hi : i < as.length
    · rw [List.getElem?_append_left hi] at e1
      rw [List.getElem?_append_left (by rw [← h.len]; exact hi)] at e2
      exact h.at' i a l2 e1 e2
    · rw [List.getElem?_append_right (by omega)] at e1
      rw [List.getElem?_append_right (by rw [← h.len]; omega), ← h.len] at e2
      exact h2.at' _ a l2 e1 e2
  · rcases List.mem_append.mp hl2 with hl2 | hl2
    · exact h.rng l2 hl2
    · exact h2.rng l2 hl2
theorem two_ring {qs : List (Str × Str)} {zs : List Str} {a b : Str} (h1 : (a, b) ∈ qs) (h2 : (b, a) ∈ qs) (cl : ∀ q ∈ qs, q.2 ∈ zs ∧ q.1 ≠ q.2 ∧ q.1 ∈ zs) : Rng qs zs [a, b] := by
  refine ⟨?_, Nat.le_refl _, fun x hx => ?_, ⟨h1, h2, trivial⟩⟩
  · have := (cl _ h1).2.1
    simp [this]
  · rcases List.mem_cons.mp hx with hx | hx
    · rw [hx]
      exact (cl _ h1).2.2
    · rw [List.mem_singleton.mp hx]
      exact (cl _ h1).1
def dIt (q : Str × Int) : PyData := .tuple [.str q.1, .int q.2]
theorem dpAll_I {K : PySem.W.Frag} {H : Hp} : ∀ {L : IL}, AtI H L → DpAll K H (rfI L) ((L.map (·.2)).map dIt)
  | [], _ => .nil
  | p :: r, h => .cons (.tup (.inl (.inl (h p List.mem_cons_self))) (.cons (.str _) (.cons (.int _) .nil))) (dpAll_I fun q hq => h q (List.mem_cons_of_mem _ hq))
theorem canLay_I : ∀ {qs : List (Str × Int)}, (∀ q ∈ qs, Nm q.1) → PyData.canLayAll0 (qs.map dIt) = true
  | [], _ => rfl
  | q :: r, h => by
    show ((PyData.strOk q.1 && (PyData.canLay0 (.int q.2) && true)) && PyData.canLayAll0 (r.map dIt)) = true
    rw [canLay_I fun p hp => h p (List.mem_cons_of_mem _ hp), show PyData.strOk q.1 = true from (h q List.mem_cons_self).ok]
    rfl
theorem depth_I : ∀ {qs : List (Str × Int)}, PyData.depthAll (qs.map dIt) ≤ 1
  | [] => Nat.zero_le _
  | q :: r => by
    show max (max 0 (max 0 0) + 1) (PyData.depthAll (r.map dIt)) ≤ 1
    have := depth_I (qs := r)
    omega
theorem wide_I : ∀ {qs : List (Str × Int)}, wideAll (qs.map dIt) ≤ 2
  | [] => Nat.zero_le _
  | q :: r => by
    show max (max 2 (max 0 (max 0 0))) (wideAll (r.map dIt)) ≤ 2
    have := wide_I (qs := r)
    omega
theorem paired_I {K : PySem.W.Frag} {H : Hp} {g : Str → Int} : ∀ {L : IL} {zs : List Str}, AtI H L → L.map (·.2) = zs.map (fun x => (x, g x)) → Paired (fun p (kv : Key × V) => SqT K H p [kV kv.1, kv.2]) (L.map (·.1)) (dkv zs g)
  | [], [], _, _ => .nil
  | [], _ :: _, _, e => nomatch e
  | _ :: _, [], _, e => nomatch e
  | p :: L, z :: zs, h, e => by
    rw [List.map_cons, List.map_cons] at e
    injection e with e1 e2
    refine .cons (.inl (.inl ?_)) (paired_I (fun q hq => h q (List.mem_cons_of_mem _ hq)) e2)
    have := h p List.mem_cons_self
    rw [e1] at this
    exact this
theorem lst_zero {zs : List Str} {qs : List (Str × Str)} {g : Str → Int} (nd : zs.Nodup) (h : Lst zs zs qs g) : ∀ x, g x = 0 := fun x => by
  have hs : Sol zs zs qs (fun _ => 0) := by
    refine ⟨fun _ => Int.le_refl _, fun i x hx hf => ?_, fun q _ h0 => absurd h0 (Int.lt_irrefl 0)⟩
    rcases hf with h0 | ⟨y, hy, hlt⟩
    · exact absurd h0 (Int.lt_irrefl 0)
    · rw [pos_at nd hy, pos_at nd hx] at hlt
      omega
  have h1 := h.least _ hs x
  have h2 := h.sol.nn x
  omega
/-- a list of pairs of a text and a number, one more -/
theorem AtI.push {H : Hp} {D t : Addr} {L : IL} {x : Str} {n : Int} (hD : H D = some (.lst (rfI L))) (h : AtI H L) (ht : H t = some (.tup [.str x, .int n])) : (upd H D (.lst (rfI L ++ [.ref t]))) D = some (.lst (rfI (L ++ [(t, (x, n))]))) ∧ AtI (upd H D (.lst (rfI L ++ [.ref t]))) (L ++ [(t, (x, n))]) := by
  have ne : ∀ {a : Addr} {u v : V}, H a = some (.tup [u, v]) → a ≠ D := fun e z => by
    rw [z, hD] at e
    exact nomatch e
  refine ⟨by rw [upd_same]; unfold rfI; rw [List.map_append]; rfl, fun p hp => ?_⟩
  rcases List.mem_append.mp hp with hp | hp
  · rw [upd_ne (ne (h p hp))]
    exact h p hp
  · rw [List.mem_singleton.mp hp]
    rw [upd_ne (ne ht)]
    exact ht
theorem rfI_len (L : IL) : (rfI L).length = L.length := List.length_map _
end HF
/-! how often books go in a row that's let -/
namespace HF
open PySem PySem.Spec PyProof.Rows L2
theorem uu_top {u : Str} {zs : List Str} (f : Str) : uu (onTop u zs) u f = 0 := by
  unfold uu up
  rw [if_neg]
  rw [decide_eq_true_iff]
  show ¬ ((pos f (onTop u zs) : Nat) : Int) < ((pos u (onTop u zs) : Nat) : Int)
  rw [pos_top]
  omega
theorem uu_under {u f : Str} {zs : List Str} (h : u ≠ f) : uu (onTop f zs) u f = 1 := by
  unfold uu up
  rw [if_pos]
  rw [decide_eq_true_iff]
  show ((pos f (onTop f zs) : Nat) : Int) < ((pos u (onTop f zs) : Nat) : Int)
  rw [pos_top, pos_rest h]
  omega
theorem uu_lets {qs : List (Str × Str)} {zs : List Str} {u f : Str} (hl : lets qs zs u = true) (hq : (u, f) ∈ qs) : uu zs u f = 1 := by
  have up1 : (pos f zs : Int) < (pos u zs : Int) := by
    unfold lets at hl
    refine of_decide_eq_true (List.all_eq_true.mp hl f ?_)
    unfold sndOf
    exact List.mem_map.mpr ⟨(u, f), List.mem_filter.mpr ⟨hq, decide_eq_true rfl⟩, rfl⟩
  unfold uu up
  rw [if_pos (decide_eq_true up1)]
theorem uu_le (zs : List Str) (u f : Str) : (uu zs u f : Int) ≤ 1 ∧ 0 ≤ (uu zs u f : Int) := by
  unfold uu
  split <;> decide
theorem row_ed {qs : List (Str × Str)} {u f : Str} (hq : (u, f) ∈ qs) (ne : u ≠ f) : ∀ (row zs : List Str), refAt qs zs row = none → ((row.count u : Nat) : Int) + (uu (lefts zs row) u f : Int) - (uu zs u f : Int) ≤ ((row.count f : Nat) : Int)
  | [], zs, _ => by
    show (0 : Int) + (uu zs u f : Int) - (uu zs u f : Int) ≤ 0
    omega
  | b :: r, zs, h => by
    obtain ⟨h1, h2⟩ := refAt_none h
    have ih := row_ed hq ne r (onTop b zs) h2
    have e : lefts zs (b :: r) = lefts (onTop b zs) r := rfl
    rw [e]
    by_cases hb : b = u
    · subst hb
      rw [List.count_cons_self, List.count_cons_of_ne ne, uu_lets h1 hq]
      rw [uu_top] at ih
      omega
    · by_cases hf : b = f
      · subst hf
        rw [List.count_cons_self, List.count_cons_of_ne hb]
        rw [uu_under ne] at ih
        have := (uu_le zs u b).2
        omega
      · rw [List.count_cons_of_ne hb, List.count_cons_of_ne hf]
        rw [uu_rest (fun e => hb e.symm) (fun e => hf e.symm)] at ih
        exact ih
theorem row_sol {qs : List (Str × Str)} {zs ws row : List Str} (h : RowTo qs zs ws row) (nd : zs.Nodup) (cl : ∀ q ∈ qs, q.2 ∈ zs ∧ q.1 ≠ q.2 ∧ q.1 ∈ zs) : Sol zs ws qs (fun x => ((row.count x : Nat) : Int)) := by
  have wnd : ws.Nodup := (h.perm nd).nodup_iff.mpr nd
  have hws : ws = ded row.reverse ++ zs.filter fun z => decide (z ∉ ded row.reverse) := by
    rw [← h.left, lefts_last]
    rfl
  have hA : ∀ x, x ∈ ded row.reverse ↔ x ∈ row := fun x => by
    rw [ded_mem, List.mem_reverse]
  refine ⟨fun x => Int.natCast_nonneg _, fun i x hx hf => ?_, fun q hq _ => ?_⟩
  · have key : x ∈ row → ∀ (j : Nat) (y : Str), j ≤ i → ws[j]? = some y → (1 : Int) ≤ ((row.count y : Nat) : Int) := fun hxr j y hj hy => by
      have hxa := (hA x).mpr hxr
      obtain ⟨k, hk⟩ := List.getElem?_of_mem hxa
      have hkl := (List.getElem?_eq_some_iff.mp hk).1
      have hk2 : ws[k]? = some x := by
        rw [hws, List.getElem?_append_left hkl]
        exact hk
      have eik : i = k := by
        rw [← pos_at wnd hx, ← pos_at wnd hk2]
      have hy2 : y ∈ ded row.reverse := by
        rw [hws, List.getElem?_append_left (by omega)] at hy
        exact List.mem_of_getElem? hy
      have := List.count_pos_iff.mpr ((hA y).mp hy2)
      omega
    rcases hf with h0 | ⟨y, hy, hlt⟩
    · have hxr : x ∈ row := List.count_pos_iff.mp (by
        have : (0 : Int) < ((row.count x : Nat) : Int) := h0
        omega)
      exact key hxr
    · by_cases hxr : x ∈ row
      · exact key hxr
      · exfalso
        have hil : (ded row.reverse).length ≤ i := by
          refine Nat.le_of_not_lt fun hlt2 => hxr ?_
          rw [hws, List.getElem?_append_left hlt2] at hx
          exact (hA x).mp (List.mem_of_getElem? hx)
        rw [hws, List.getElem?_append_right hil] at hx
        rw [hws, List.getElem?_append_right (by omega)] at hy
        have bnd : (zs.filter fun z => decide (z ∉ ded row.reverse)).Nodup := nd.filter _
        have p1 := pos_at bnd hx
        have p2 := pos_at bnd hy
        have hx2 := (List.mem_filter.mp (List.mem_of_getElem? hx)).2
        have hy2 := (List.mem_filter.mp (List.mem_of_getElem? hy)).2
        have := (pos_filter (p := fun z => decide (z ∉ ded row.reverse)) (x := x) (y := y) hx2 hy2 zs)
        omega
  · have := row_ed hq (cl q hq).2.1 row zs h.lt
    rw [h.left] at this
    rw [show gn zs ws q = (uu ws q.1 q.2 : Int) - (uu zs q.1 q.2 : Int) from gn_uu zs ws q.1 q.2]
    show ((row.count q.1 : Nat) : Int) + _ ≤ ((row.count q.2 : Nat) : Int)
    omega
theorem row_least {qs : List (Str × Str)} {zs ws row : List Str} {g : Str → Int} (h : RowTo qs zs ws row) (nd : zs.Nodup) (cl : ∀ q ∈ qs, q.2 ∈ zs ∧ q.1 ≠ q.2 ∧ q.1 ∈ zs) (hL : Lst zs ws qs g) : ∀ x, g x ≤ ((row.count x : Nat) : Int) := hL.least _ (row_sol h nd cl)
theorem sum_perm {xs ys : List Str} (h : xs.Perm ys) (f : Str → Int) : (xs.map f).sum = (ys.map f).sum := by
  induction h with
  | nil => rfl
  | cons x _ ih => rw [List.map_cons, List.map_cons, List.sum_cons, List.sum_cons, ih]
  | swap x y l =>
    rw [List.map_cons, List.map_cons, List.map_cons, List.map_cons, List.sum_cons, List.sum_cons, List.sum_cons, List.sum_cons]
    omega
  | trans _ _ h1 h2 => exact h1.trans h2
theorem betw_cnt {K : PySem.W.Frag} {H : Hp} {h o r : Addr} {zs ws : List Str} {qs : List (Str × Str)} {Q : VK} {E : XK} (tw : Two K H h o r zs ws qs) (hz12 : zs.length ≤ 12) (hld : ld zs ws qs = true)
    (k : ∀ (H' : Hp) (t l : Addr) (row : List Str) (g : Str → Int), Same H H' → H t = none → H l = none → H' t = some (.tup [.str "row", .ref l]) → H' l = some (.lst (row.map V.str)) → (∀ b ∈ row, b ∈ zs) → row.length ≤ 144 → Lst zs ws qs g → (∀ z ∈ zs, ((row.count z : Nat) : Int) = g z) → Q (.ref t) H') : spBetw K [.ref h, .ref o, .ref r] H Q E := by
  refine ⟨h, o, r, zs, ws, qs, rfl, tw, fun H' t l p g m s nt nl ht hl hp hL hm => ?_, fun H' t l ls s nt nl ht hl h1 h2 _ => ?_⟩
  · refine k H' t l _ g s nt nl ht hl (fun z hz => tw.pm.mem_iff.mp (rowOf_sub z hz)) ?_ hL fun z hz => cnt_full hL.sol tw.pm tw.nd hz hm.2
    have h1 := rowOf_len ws g m
    obtain ⟨z0, hz0, e0⟩ := hm.1
    have h2 := hL.few hp z0 hz0
    have h3 : m ≤ 12 := by omega
    have h4 : ws.length ≤ 12 := by
      rw [tw.pm.length_eq]
      exact hz12
    exact Nat.le_trans h1 (Nat.le_trans (Nat.mul_le_mul h3 h4) (by decide))
  · rw [ld_ring h1 h2] at hld
    exact nomatch hld
/-! [heap, heap, ties, row] -/
abbrev dH4 (xs ys : List Str) (L : SL) (row : List Str) : PyData := .list [.tuple (xs.map PyData.str), .tuple (ys.map PyData.str), dTies L, .list (row.map PyData.str)]
theorem h4_show (xs ys : List Str) (L : SL) (row : List Str) : (dH4 xs ys L row).showable = true := by
  show (PyData.showableAll (xs.map PyData.str) && (PyData.showableAll (ys.map PyData.str) && (PyData.showableAll (L.map dRow) && (PyData.showableAll (row.map PyData.str) && true)))) = true
  rw [show_strs, show_strs, show_rows, show_strs]
  rfl
theorem h4_nodict (xs ys : List Str) (L : SL) (row : List Str) : (dH4 xs ys L row).hasDict = false := by
  show (PyData.hasDictAll (xs.map PyData.str) || (PyData.hasDictAll (ys.map PyData.str) || (PyData.hasDictAll (L.map dRow) || (PyData.hasDictAll (row.map PyData.str) || false)))) = false
  rw [nodict_strs, nodict_strs, nodict_rows, nodict_strs]
  rfl
theorem h4_depth (xs ys : List Str) (L : SL) (row : List Str) : (dH4 xs ys L row).depth < 60 := by
  show max (PyData.depthAll (xs.map PyData.str) + 1) (max (PyData.depthAll (ys.map PyData.str) + 1) (max (PyData.depthAll (L.map dRow) + 1) (max (PyData.depthAll (row.map PyData.str) + 1) 0))) + 1 < 60
  rw [depth_strs, depth_strs, depth_strs]
  have := depth_rows L
  omega
theorem h4_fits {xs ys zs row : List Str} {L : SL} (hx : ∀ z ∈ xs, Nm z) (hy : ∀ z ∈ ys, Nm z) (hn : ∀ z ∈ zs, Nm z) (hr : ∀ z ∈ row, Nm z) (hL : ∀ p ∈ L, OkP zs p) (lx : xs.length ≤ 1000) (ly : ys.length ≤ 1000) (ll : L.length ≤ 1000) (lr : row.length ≤ 1000) : (dH4 xs ys L row).shown.length ≤ sizeLine := by
  refine PyData.shown_fits (B := 13) (by decide) (by decide) (PyData.leavesShort_of_canLay0 13 _ ?_ ?_) ?_
  · show (PyData.canLayAll0 (xs.map PyData.str) && (PyData.canLayAll0 (ys.map PyData.str) && (PyData.canLayAll0 (L.map dRow) && (PyData.canLayAll0 (row.map PyData.str) && true)))) = true
    rw [canLay_strs hx, canLay_strs hy, lay_rows hn hL, canLay_strs hr]
    rfl
  · show (PyData.intsShortAll 13 (xs.map PyData.str) && (PyData.intsShortAll 13 (ys.map PyData.str) && (PyData.intsShortAll 13 (L.map dRow) && (PyData.intsShortAll 13 (row.map PyData.str) && true)))) = true
    rw [ints_strs, ints_strs, ints_rows, ints_strs]
    rfl
  · show PyData.weightAll (xs.map PyData.str) + 1 + (PyData.weightAll (ys.map PyData.str) + 1 + (PyData.weightAll (L.map dRow) + 1 + (PyData.weightAll (row.map PyData.str) + 1 + 0))) ≤ 2 ^ 20
    have h1 := weight_strs hx
    have h1b := weight_strs hy
    have h1c := weight_strs hr
    have h2 := weight_rows hn hL
    omega
end HF
/-! heaps that were seen, one behind the other -/
namespace HF
open PySem PySem.Spec PyProof.Rows L2
structure SnAt (K : PySem.W.Frag) (H : Hp) (l : Addr) (bs : List Addr) (ks : List (List Str)) : Prop where
  sq : Sq K H l (bs.map V.ref)
  len : bs.length = ks.length
  each : ∀ (i : Nat) (b : Addr) (k : List Str), bs[i]? = some b → ks[i]? = some k → Hq K H b k
theorem SnAt.same {K : PySem.W.Frag} {H H' : Hp} {l : Addr} {bs : List Addr} {ks : List (List Str)} (h : SnAt K H l bs ks) (s : Same H H') : SnAt K H' l bs ks :=
  ⟨sameQ s h.sq, h.len, fun i b k e f => (h.each i b k e f).same s⟩
/-- a told row: let, it leads there, as seldom as can be -/
structure Part (qs : List (Str × Str)) (zs ws row : List Str) : Prop where
  to : RowTo qs zs ws row
  few : row.length ≤ 144
  least : ∃ g, Lst zs ws qs g ∧ ∀ z ∈ zs, ((row.count z : Nat) : Int) = g z
theorem betw_both {K : PySem.W.Frag} {H : Hp} {h o r : Addr} {zs ws : List Str} {qs : List (Str × Str)} {Q : VK} {E : XK} (tw : Two K H h o r zs ws qs) (hz12 : zs.length ≤ 12)
    (k1 : ∀ (H' : Hp) (t l : Addr) (row : List Str), ld zs ws qs = true → Same H H' → H t = none → H l = none → H' t = some (.tup [.str "row", .ref l]) → H' l = some (.lst (row.map V.str)) → Part qs zs ws row → Q (.ref t) H')
    (k2 : ∀ (H' : Hp) (t l : Addr) (ls : List Str), ld zs ws qs = false → Same H H' → H t = none → H l = none → H' t = some (.tup [.str "ring", .ref l]) → H' l = some (.lst (ls.map V.str)) → Rng qs zs ls → T zs ls < T ws ls → Q (.ref t) H') : spBetw K [.ref h, .ref o, .ref r] H Q E := by
  refine ⟨h, o, r, zs, ws, qs, rfl, tw, fun H' t l p g m s nt nl ht hl hp hL hm => ?_, fun H' t l ls s nt nl ht hl h1 h2 _ => k2 H' t l ls (ld_ring h1 h2) s nt nl ht hl h1 h2⟩
  have hin : ∀ z ∈ rowOf ws g m, z ∈ zs := fun z hz => tw.pm.mem_iff.mp (rowOf_sub z hz)
  refine k1 H' t l _ (ld_pot hp) s nt nl ht hl ⟨⟨hin, rowOf_let hL.sol tw.pm tw.nd tw.cl hm.2, rowOf_left hL.sol tw.pm tw.nd hm.2⟩, ?_, g, hL, fun z hz => cnt_full hL.sol tw.pm tw.nd hz hm.2⟩
  have h1 := rowOf_len ws g m
  obtain ⟨z0, hz0, e0⟩ := hm.1
  have h2 := hL.few hp z0 hz0
  have h3 : m ≤ 12 := by omega
  have h4 : ws.length ≤ 12 := by
    rw [tw.pm.length_eq]
    exact hz12
  exact Nat.le_trans h1 (Nat.le_trans (Nat.mul_le_mul h3 h4) (by decide))
theorem iteTy {b : Bool} {p q : Prop} (e : b = true) (h : p) : if b = true then p else q := by rw [e]; exact iteT h
theorem iteFy {b : Bool} {p q : Prop} (e : b = false) (h : q) : if b = true then p else q := by rw [e]; exact iteF h
/-- the heap ahead of the one at i -/
abbrev stN (zs : List Str) (ks : List (List Str)) (i : Nat) : List Str := (zs :: ks).getD i []
noncomputable abbrev ldN (qs : List (Str × Str)) (zs : List Str) (ks : List (List Str)) (i : Nat) : Bool := ld (stN zs ks i) (ks.getD i []) qs
/-- the rows to the first i of them -/
structure Rws (qs : List (Str × Str)) (zs : List Str) (ks rs : List (List Str)) (i : Nat) : Prop where
  len : rs.length = i
  each : ∀ j, j < i → Part qs (stN zs ks j) (ks.getD j []) (rs.getD j [])
theorem Rws.push {qs : List (Str × Str)} {zs row : List Str} {ks rs : List (List Str)} {i : Nat} (h : Rws qs zs ks rs i) (p : Part qs (stN zs ks i) (ks.getD i []) row) : Rws qs zs ks (rs ++ [row]) (i + 1) := by
  refine ⟨by rw [List.length_append, h.len]; rfl, fun j hj => ?_⟩
  by_cases e : j = i
  · subst e
    rw [List.getD_eq_getElem?_getD (l := rs ++ [row]), List.getElem?_append_right (by rw [h.len]; exact Nat.le_refl _), h.len, Nat.sub_self]
    exact p
  · rw [List.getD_eq_getElem?_getD (l := rs ++ [row]), List.getElem?_append_left (by rw [h.len]; omega), ← List.getD_eq_getElem?_getD]
    exact h.each j (by omega)
theorem Rws.few {qs : List (Str × Str)} {zs : List Str} {ks rs : List (List Str)} {i : Nat} (h : Rws qs zs ks rs i) : rs.flatten.length ≤ 144 * i := by
  have go : ∀ (l : List (List Str)) (k : Nat), l.length = k → (∀ x ∈ l, x.length ≤ 144) → l.flatten.length ≤ 144 * k := fun l => by
    induction l with
    | nil =>
      intro k _ _
      exact Nat.zero_le _
    | cons a r ih =>
      intro k hk hx
      rw [List.flatten_cons, List.length_append]
      have h1 := ih r.length rfl fun x hx2 => hx x (List.mem_cons_of_mem _ hx2)
      have h2 := hx a List.mem_cons_self
      rw [List.length_cons] at hk
      omega
  refine go rs i h.len fun x hx => ?_
  obtain ⟨j, hj⟩ := List.mem_iff_getElem?.mp hx
  have hjl : j < i := by
    rw [← h.len]
    exact (List.getElem?_eq_some_iff.mp hj).1
  have h1 := (h.each j hjl).few
  rw [List.getD_eq_getElem?_getD (l := rs), hj] at h1
  exact h1
theorem xd_same2 {H : Hp} {a dx C : Addr} {v1 v2 : V} {f1 f2 : Str} (na : H a = none) (nd : (upd H a (exo a C none)) dx = none) (ne : dx ≠ a) :
    Same H (upd (del (upd (upd (upd (upd H a (exo a C none)) dx (exd dx [(f1, v1)])) a (exo a C (some dx))) dx (exd dx [(f2, v2), (f1, v1)])) a) dx (.xd [(f2, v2), (f1, v1)])) := by
  rw [upd_ne ne] at nd
  intro z o ez
  have n1 : z ≠ dx := ne_of_none ez nd
  have n2 : z ≠ a := ne_of_none ez na
  rw [upd_ne n1, del_ne n2, upd_ne n1, upd_ne n2, upd_ne n1, upd_ne n2]
  exact ez
end HF
/-! exceptions held, asked for their classes and their fields -/
namespace HF
open PySem PySem.Spec PyProof.Rows L2
/-- an exception that is held, with its fields -/
def Er (H : Hp) (v : V) (C : Addr) (fs : List (Str × V)) : Prop := ∃ a, v = .ref a ∧ ((fs = [] ∧ H a = some (ExH (.ref C) none a)) ∨ ∃ dd, H a = some (ExH (.ref C) (some dd) a) ∧ H dd = some (.xd fs))
theorem Er.same {H H' : Hp} {v : V} {C : Addr} {fs : List (Str × V)} (h : Er H v C fs) (s : Same H H') : Er H' v C fs := by
  obtain ⟨a, e, h⟩ := h
  exact ⟨a, e, h.imp (fun z => ⟨z.1, s _ _ z.2⟩) fun ⟨d, z1, z2⟩ => ⟨d, s _ _ z1, s _ _ z2⟩⟩
theorem er_inst {X : Cx} {pins : List (Addr × Obj)} {σ : L2.St} {H : Hp} {s : Shared} {a C : Addr} {fs : List (Str × V)} (I : Inv X pins σ H s) (h : Er H (.ref a) C fs) : ∃ (oe : Obj) (od : Option Obj), PySem.W.InstAt s.heap a oe C od := by
  obtain ⟨b, e, h⟩ := h
  cases e
  rcases h with ⟨_, ha⟩ | ⟨dd, ha, hd⟩
  · obtain ⟨⟨oe, vs, e1, z, e2⟩, _⟩ := (show ObjOk X.prog X.w H s.heap a (ExH (.ref C) none a) from I.hok a _ ha)
    exact ⟨oe, none, ⟨e1, z.1, by unfold PySem.W.notCls; rw [e2] <;> rfl, by rw [z.2]; trivial⟩⟩
  · obtain ⟨oe, od, mA, J, _⟩ := held_inst I ha hd
    exact ⟨oe, some od, J⟩
section
variable {X : Cx}
/-- isinstance(e, c) -/
def rIsE1 (K : PySem.W.Frag) : List V → Hp → VK → Prop := fun xs H Q => ∃ (v c : V) (C : Addr) (fs : List (Str × V)) (cv : Value) (b : Bool), xs = [v, c] ∧ Er H v C fs ∧ XIs K C ∧ (∀ u, RelV c u → u = cv) ∧ PySem.W.kitOne K (.ref C) cv = some b ∧ Q (.bl b) H
theorem call_isE1 : CallR X (.builtin "isinstance") (rIsE1 X.K) := by
  intro pins s σ H xs us Q I rel hyp
  obtain ⟨v, c, C, fs, cv, b, rfl, er, T, hc, e, q⟩ := hyp
  obtain ⟨a, rfl, er⟩ := er
  rcases er with ⟨_, ha⟩ | ⟨dd, ha, hd⟩
  · exact call_isX0 pins s σ H _ us Q I rel ⟨a, C, c, cv, b, rfl, ha, T, hc, e, q⟩
  · exact call_isX pins s σ H _ us Q I rel ⟨a, C, dd, fs, c, cv, b, rfl, ha, hd, T, hc, e, q⟩
/-- isinstance(e, (c, ..)) -/
def rIsEn (K : PySem.W.Frag) : List V → Hp → VK → Prop := fun xs H Q => ∃ (v : V) (t C : Addr) (fs : List (Str × V)) (cs : List V) (cvs : List Value) (b : Bool), xs = [v, .ref t] ∧ Er H v C fs ∧ XIs K C ∧ H t = some (.tup cs) ∧ (∀ us, Vals cs us → us = cvs) ∧ PySem.W.kitAny K (.ref C) cvs = some b ∧ Q (.bl b) H
theorem call_isEn : CallR X (.builtin "isinstance") (rIsEn X.K) := by
  intro pins s σ H xs us Q I rel hyp
  obtain ⟨v, t, C, fs, cs, cvs, b, rfl, er, T, ht, hc, e, q⟩ := hyp
  obtain ⟨u1, u2, rfl, r1, r2⟩ := vals2 rel
  obtain ⟨a, rfl, er⟩ := er
  cases r1
  cases r2
  obtain ⟨oe, od, J⟩ := er_inst I ⟨a, rfl, er⟩
  obtain ⟨its, rv, ⟨o, ho, hcl, n, hdat⟩, _⟩ := I.tuple (.inl (.inl ht) : SqT X.K H t cs)
  have eits := hc _ rv
  subst eits
  obtain ⟨oc, odd, oda, osl⟩ := o
  dsimp only at hcl hdat
  subst hcl hdat
  exact PySem.W.kia_tup (PySem.W.kitx_exc T.cl T.ga T.gg T.ex T.ca T.sg T.tk T.ob) I.kIn J ho e (fun z => nomatch z) fun tk => ⟨.bl b, H, I.kept (t' := tk) fun _ _ z => z, rfl, q⟩
end
theorem held_same {H : Hp} {a dx C : Addr} {v : V} {f : Str} (na : H a = none) (nd : (upd H a (exo a C none)) dx = none) (ne : dx ≠ a) :
    Same H (upd (del (upd (upd (upd H a (exo a C none)) dx (exd dx [(f, v)])) a (exo a C (some dx))) a) dx (.xd [(f, v)])) := by
  rw [upd_ne ne] at nd
  intro z o ez
  have n1 : z ≠ dx := ne_of_none ez nd
  have n2 : z ≠ a := ne_of_none ez na
  rw [upd_ne n1, del_ne n2, upd_ne n2, upd_ne n1, upd_ne n2]
  exact ez
theorem er_new {H H1 : Hp} {b dd C : Addr} {fs : List (Str × V)} (s : Same H (upd H1 dd (.xd fs))) (nb : (upd H1 dd (.xd fs)) b = none) :
    Same H (upd (upd H1 dd (.xd fs)) b (ExH (.ref C) (some dd) b)) ∧ Er (upd (upd H1 dd (.xd fs)) b (ExH (.ref C) (some dd) b)) (.ref b) C fs := by
  have ne : dd ≠ b := fun e => by
    rw [← e, upd_same] at nb
    exact nomatch nb
  exact ⟨s.trans (same_upd nb), b, rfl, .inr ⟨dd, upd_same, by rw [upd_ne ne, upd_same]⟩⟩
/-- C(), C(y), C(f = y): what is new is an exception with these fields -/
def tNew0 (C : Addr) : TE := fun _ H Q => ∀ a H2, Same H H2 → Er H2 (.ref a) C [] → Q (.ref a) H2
def tNew1 (C : Addr) (f : Str) (i : Nat) : TE := fun σ H Q => tVar i σ H fun v H1 => ∀ a H2, Same H1 H2 → Er H2 (.ref a) C [(f, v)] → Q (.ref a) H2
def tNew2 (C : Addr) (f1 f2 : Str) (i j : Nat) : TE := fun σ H Q => tVar i σ H fun v H1 => tVar j σ H1 fun u H2 => ∀ a H3, Same H2 H3 → Er H3 (.ref a) C [(f2, u), (f1, v)] → Q (.ref a) H3
def gkA {α : Type} : List α → List α → List α := fun xs ys => xs ++ ys
/-- the second field is given before the first -/
def gkB {α : Type} : List α → List α → List α
  | [s], [r, p] => [s, p, r]
  | _, _ => []
theorem gkB_rel {vs : List V} {us : List Value} {zs : List V} {ws : List Value} (h1 : Vals vs us) (h2 : Vals zs ws) : Vals (gkB vs zs) (gkB us ws) := by
  cases h1 with
  | nil => exact .nil
  | cons a r =>
    cases r with
    | cons _ _ => exact .nil
    | nil =>
      cases h2 with
      | nil => exact .nil
      | cons b t =>
        cases t with
        | nil => exact .nil
        | cons c t2 =>
          cases t2 with
          | nil => exact .cons a (.cons c (.cons b .nil))
          | cons _ _ => exact .nil
section
variable {X : Cx} {k i j : Nat} {x qn y z f f1 f2 B newId initId : Str} {st : Stmt} {bmB : List Value} {C : Addr} {p p1 p2 p3 pos : Pos}
theorem pe_new0 {B newId initId : String} (F : ExcBaseFacts B newId initId bmB) (q : PySem.W.excIn X.K C bmB newId = true) (gC : X.mg x = some (.ref C)) (kC : PySem.W.keepIn X.K (.ref C) = true) (r : Raises X (.ref C)) (hg : Gl X x) (hdb : (x == ("__debug__" : Str)) = false := by decide) :
    PE X (.Call (.Name x p) [] [] pos) (tNew0 C) := by
  refine ⟨fun pins s σ H Q I want => (pe_held (pmk_own0 F q gC kC r hg hdb)).run pins s σ H Q I fun a na => ?_⟩
  exact want a _ (same_upd na) ⟨a, rfl, .inl ⟨rfl, upd_same⟩⟩
theorem pe_new1 {B newId initId : String} (t : XT X.K X.mg x qn st f B newId initId bmB C) (G : FnOk X.prog X.w X.K X.mg X.base CX0 k t.fI t.dI ["self", f] (spXI C f)) (hr : Room (k + 1) X.A) (hg : Gl X x) (he : PE X (.Name y p1) (tVar i)) (hdb : (x == ("__debug__" : Str)) = false := by decide) :
    PE X (.Call (.Name x p) [.Name y p1] [] pos) (tNew1 C f i) := by
  refine ⟨fun pins s σ H Q I want => (pe_held (pmk_x t.T t.iC t.tI G hr t.b .nil pass0 hg t.gC (pa_cons he pa_nil) hdb)).run pins s σ H Q I ?_⟩
  obtain ⟨v, hv, q⟩ := want
  refine ⟨v, hv, (by decide : (1 : Nat) ≤ 1000), fun a na => ⟨a, v, rfl, upd_same, fun dx n1 n2 => ⟨rfl, dx, [(f, v)], upd_same, by rw [upd_ne n2, upd_same], ?_, fun b nb => ?_⟩⟩⟩
  · rw [upd_ne n2] at n1
    exact n1
  · obtain ⟨s1, e1⟩ := er_new (C := C) (held_same na n1 n2) nb
    exact q b _ s1 e1
theorem pe_new1K {B newId initId : String} (t : XT X.K X.mg x qn st f B newId initId bmB C) (G : FnOk X.prog X.w X.K X.mg X.base CX0 k t.fI t.dI ["self", f] (spXI C f)) (hb : KBn X.K t.dI ["self", f] 1 [f] gkA gkA) (hr : Room (k + 1) X.A) (hg : Gl X x) (he : PE X (.Name y p1) (tVar i)) (hdb : (x == ("__debug__" : Str)) = false := by decide) :
    PE X (.Call (.Name x p) [] [⟨some f, .Name y p1, p2⟩] pos) (tNew1 C f i) := by
  refine ⟨fun pins s σ H Q I want => (pe_held (pmk_xK (ks := [f]) t.T t.iC t.tI G hr hb pass0 hg t.gC (pk_cons he pk_nil) (by rfl) (by rfl) hdb)).run pins s σ H Q I ?_⟩
  obtain ⟨v, hv, q⟩ := want
  refine ⟨v, hv, rfl, fun a na => ⟨a, v, rfl, upd_same, fun dx n1 n2 => ⟨rfl, dx, [(f, v)], upd_same, by rw [upd_ne n2, upd_same], ?_, fun b nb => ?_⟩⟩⟩
  · rw [upd_ne n2] at n1
    exact n1
  · obtain ⟨s1, e1⟩ := er_new (C := C) (held_same na n1 n2) nb
    exact q b _ s1 e1
theorem pe_new2 {B newId initId : String} (t : XT2 X.K X.mg x qn st f1 f2 B newId initId bmB C) (G : FnOk X.prog X.w X.K X.mg X.base CX0 k t.fI t.dI ["self", f1, f2] (spXI2 C f1 f2)) (hr : Room (k + 1) X.A) (hg : Gl X x) (he : PE X (.Name y p1) (tVar i)) (he2 : PE X (.Name z p2) (tVar j)) (hdb : (x == ("__debug__" : Str)) = false := by decide) :
    PE X (.Call (.Name x p) [.Name y p1, .Name z p2] [] pos) (tNew2 C f1 f2 i j) := by
  refine ⟨fun pins s σ H Q I want => (pe_held (pmk_x t.T t.iC t.tI G hr t.b .nil pass0 hg t.gC (pa_cons he (pa_cons he2 pa_nil)) hdb)).run pins s σ H Q I ?_⟩
  obtain ⟨v, hv, u, hu, q⟩ := want
  refine ⟨v, hv, u, hu, (by decide : (2 : Nat) ≤ 1000), fun a na => ⟨a, v, u, rfl, upd_same, fun dx n1 n2 => ⟨rfl, dx, [(f2, u), (f1, v)], ?_, upd_same, ?_, fun b nb => ?_⟩⟩⟩
  · rw [upd_ne n2.symm, upd_same]
  · rw [upd_ne n2] at n1
    exact n1
  · obtain ⟨s1, e1⟩ := er_new (C := C) (xd_same2 na n1 n2) nb
    exact q b _ s1 e1
theorem pe_new2K {B newId initId : String} (t : XT2 X.K X.mg x qn st f1 f2 B newId initId bmB C) (G : FnOk X.prog X.w X.K X.mg X.base CX0 k t.fI t.dI ["self", f1, f2] (spXI2 C f1 f2)) (hb : KBn X.K t.dI ["self", f1, f2] 1 [f2, f1] gkB gkB) (hr : Room (k + 1) X.A) (hg : Gl X x) (he : PE X (.Name y p1) (tVar i)) (he2 : PE X (.Name z p2) (tVar j)) (hdb : (x == ("__debug__" : Str)) = false := by decide) :
    PE X (.Call (.Name x p) [] [⟨some f2, .Name z p2, p3⟩, ⟨some f1, .Name y p1, p4⟩] pos) (fun σ H Q => tVar j σ H fun u H1 => tVar i σ H1 fun v H2 => ∀ a H3, Same H2 H3 → Er H3 (.ref a) C [(f2, u), (f1, v)] → Q (.ref a) H3) := by
  refine ⟨fun pins s σ H Q I want => (pe_held (pmk_xK (ks := [f2, f1]) t.T t.iC t.tI G hr hb pass0 hg t.gC (pk_cons he2 (pk_cons he pk_nil)) (by rfl) (by rfl) hdb)).run pins s σ H Q I ?_⟩
  obtain ⟨u, hu, v, hv, q⟩ := want
  refine ⟨u, hu, v, hv, rfl, fun a na => ⟨a, v, u, rfl, upd_same, fun dx n1 n2 => ⟨rfl, dx, [(f2, u), (f1, v)], ?_, upd_same, ?_, fun b nb => ?_⟩⟩⟩
  · rw [upd_ne n2.symm, upd_same]
  · rw [upd_ne n2] at n1
    exact n1
  · obtain ⟨s1, e1⟩ := er_new (C := C) (xd_same2 na n1 n2) nb
    exact q b _ s1 e1
end
end HF
/-! zip over a tuple and a list -/
namespace HF
open PySem PySem.Spec PyProof.Rows L2
/-- a tuple at a and a list at b, the items in new pairs -/
def ItzM (K : PySem.W.Frag) (a b : Addr) : It :=
  ⟨fun i H => ∃ (xs ys : List V) (x y : V), SqT K H a xs ∧ SqL K H b ys ∧ xs[i]? = some x ∧ ys[i]? = some y,
    fun i H v H' => ∃ T x y, v = .ref T ∧ H T = none ∧ H' = upd H T (.tup [x, y]) ∧ (∀ xs, SqT K H a xs → xs[i]? = some x) ∧ ∀ ys, SqL K H b ys → ys[i]? = some y,
    fun i H => ∃ xs ys : List V, SqT K H a xs ∧ SqL K H b ys ∧ ys.length = xs.length ∧ xs.length = i⟩
theorem sep_of {z TI TO i1 i2 a b : Addr} (D : ZipApart z TI TO i1 i2 a b) (h1 : a ≠ i2) : ZipSep2 z TI TO i1 i2 [i1, a] [i2, b] where
  TIz := D.TIz
  TOz := D.TOz
  TITO := D.TITO
  TIi1 := D.TIi1
  mem1 := by simp
  zf1 := by simp only [List.mem_cons, List.not_mem_nil, or_false, not_or]; exact ⟨D.i1z.symm, D.l1z.symm⟩
  Tf1 := by simp only [List.mem_cons, List.not_mem_nil, or_false, not_or]; exact ⟨D.TOi1, D.l1TO.symm⟩
  TIi2 := D.TIi2
  mem2 := by simp
  zf2 := by simp only [List.mem_cons, List.not_mem_nil, or_false, not_or]; exact ⟨D.i2z.symm, D.l2z.symm⟩
  Tf2 := by simp only [List.mem_cons, List.not_mem_nil, or_false, not_or]; exact ⟨D.TOi2, D.l2TO.symm⟩
  sep1_2 := by simp only [List.mem_cons, List.not_mem_nil, or_false, not_or]; exact ⟨D.i12, D.l2i1.symm⟩
  sep2_1 := by simp only [List.mem_cons, List.not_mem_nil, or_false, not_or]; exact ⟨D.i12.symm, h1.symm⟩
theorem turn_zipM {P : Program} {w : World} {K : PySem.W.Frag} {elts : List Expr} {kk : Nat} {tpos : Pos} {a b z TI TO i1 i2 : Addr} (D : ZipApart z TI TO i1 i2 a b) (h12 : a ≠ i2) (h11 : a ≠ i1) (h22 : b ≠ i2) :
    Turn P w K (.Tuple elts kk tpos) (ItzM K a b) [z, TI, TO, i1, i2] z (fun i h => IsZip h z TI TO .none ∧ IsPair h TI (.ref i1) (.ref i2) ∧ (∃ x y, IsPair h TO x y) ∧ h.IsTupleIter i1 a i ∧ h.IsListIter i2 b i) where
  mem := by simp
  obj := fun i h st c hc => by
    obtain ⟨hz, hTI, ⟨x, y, hTO⟩, ⟨o1, e1, _, d1⟩, ⟨o2, e2, _, d2⟩⟩ := st
    have e' : c = z ∨ c = TI ∨ c = TO ∨ c = i1 ∨ c = i2 := by simpa using hc
    rcases e' with q | q | q | q | q
    · rw [q]; exact ⟨_, hz, fun v q => nomatch q⟩
    · rw [q]; exact ⟨_, hTI, fun v q => nomatch q⟩
    · rw [q]; exact ⟨_, hTO, fun v q => nomatch q⟩
    · rw [q]; exact ⟨o1, e1, fun v q => by rw [d1] at q; cases q⟩
    · rw [q]; exact ⟨o2, e2, fun v q => by rw [d2] at q; cases q⟩
  keep := fun i h h' st k => by
    obtain ⟨hz, hTI, ⟨x, y, hTO⟩, h1, h2⟩ := st
    exact ⟨k z (by simp) _ hz, k TI (by simp) _ hTI, ⟨x, y, k TO (by simp) _ hTO⟩, h1.at fun o q => k i1 (by simp) o q, h2.at fun o q => k i2 (by simp) o q⟩
  item := by
    intro X hP hw hK hc i pins s σ H E I hf st hg
    subst hP hw hK
    obtain ⟨hz, hTI, ⟨x0, y0, hTO⟩, h1, h2⟩ := st
    obtain ⟨xs, ys, x, y, hqx, hqy, hx, hy⟩ := hg
    obtain ⟨its, rv, p, _⟩ := I.tuple hqx
    obtain ⟨its2, rv2, p2, _⟩ := I.list hqy
    obtain ⟨u, hu, ru⟩ := rv.get hx
    obtain ⟨u2, hu2, ru2⟩ := rv2.get hy
    have hzl : z < s.heap.objs.size := Heap.lt_size hz
    have D1 := Draws.tuple (prog := X.prog) (w := X.w) (A := X.A.in1) (I.ok.hd hc) i1 a h11 its.toArray
    have D2 := Draws.list (prog := X.prog) (w := X.w) (A := X.A.in1) (I.ok.hd hc) i2 b h22 its2.toArray
    refine wpAny_pyNext_zipD2_item (sep_of D h12) D1 D2 hz hTI hTO ⟨h1, p⟩ ⟨h2, p2.isList⟩ (by rw [List.size_toArray]; exact (List.getElem?_eq_some_iff.mp hu).1) (by rw [List.size_toArray]; exact (List.getElem?_eq_some_iff.mp hu2).1) fun v1 v2 h' tk hv1 hv2 z' TO' h1' h2' hT hsz hk => ?_
    have e1 : v1 = u := by
      have : its.toArray[i]? = some u := by simpa using hu
      rw [this] at hv1
      exact (Option.some.inj hv1).symm
    have e2 : v2 = u2 := by
      have : its2.toArray[i]? = some u2 := by simpa using hu2
      rw [this] at hv2
      exact (Option.some.inj hv2).symm
    subst e1 e2
    refine ⟨_, rfl, wpAny_letOwnedTupleGo_zip (s := { s with heap := h', toks := tk }) z' fun h'' z'' sb => ?_⟩
    have hT2 : h''.get? s.heap.objs.size = some { cls := .type "tuple", data := .seq #[v1, v2] } := (sb.2 _ (Nat.ne_of_gt hzl)).trans hT
    have new : ObjOk X.prog X.w (upd H s.heap.objs.size (.tup [x, y])) h'' s.heap.objs.size (.tup [x, y]) :=
      ⟨by show 2 ≤ sizeLine; decide, [v1, v2], .cons ru (.cons ru2 .nil), ⟨_, hT2, rfl, _, rfl⟩⟩
    have I1 : Inv X pins σ (upd H s.heap.objs.size (.tup [x, y])) { s with heap := h'', toks := tk } :=
      I.turnedNew (t' := tk) (ch := [z, TI, TO, i1, i2]) (fun c o hb q => (sb.2 c (fun q' => hb (by simp [q']))).trans (hk c o (fun q' => hb (by simp [q'])) (fun q' => hb (by simp [q'])) (fun q' => hb (by simp [q'])) (fun q' => hb (by simp [q'])) q)) hf (Nat.le_refl _) new
    refine ⟨.ref s.heap.objs.size, _, I1, rfl, ⟨_, x, y, rfl, I.hok.fresh (Nat.le_refl _), rfl, fun l hl => by rw [I.tuple_inj hl hqx]; exact hx, fun l hl => by rw [I.list_inj hl hqy]; exact hy⟩, ⟨z'', ?_, ⟨v1, v2, ?_⟩, ?_, ?_⟩, fun c hcm => ?_⟩
    · exact (sb.2 _ D.TIz).trans (hk _ _ D.TIz D.TITO D.TIi1 D.TIi2 hTI)
    · exact (sb.2 _ D.TOz).trans TO'
    · exact h1'.1.at fun o q => (sb.2 _ D.i1z).trans q
    · exact h2'.1.at fun o q => (sb.2 _ D.i2z).trans q
    · have hlt : c < s.heap.objs.size := by
        have e' : c = z ∨ c = TI ∨ c = TO ∨ c = i1 ∨ c = i2 := by simpa using hcm
        rcases e' with q | q | q | q | q
        · rw [q]; exact hzl
        · rw [q]; exact Heap.lt_size hTI
        · rw [q]; exact Heap.lt_size hTO
        · rw [q]; obtain ⟨_, e1, _⟩ := h1; exact Heap.lt_size e1
        · rw [q]; obtain ⟨_, e2, _⟩ := h2; exact Heap.lt_size e2
      rw [upd_ne (Nat.ne_of_lt hlt)]
      exact (hf c hcm).1
  done := by
    intro X hP hw hK hc i pins s σ H E I hf st hg
    subst hP hw hK
    obtain ⟨hz, hTI, ⟨x0, y0, hTO⟩, h1, h2⟩ := st
    obtain ⟨xs, ys, hqx, hqy, hll, hend⟩ := hg
    obtain ⟨its, rv, p, _⟩ := I.tuple hqx
    obtain ⟨its2, rv2, p2, _⟩ := I.list hqy
    have l1 := rv.length
    have l2 := rv2.length
    have D1 := Draws.tuple (prog := X.prog) (w := X.w) (A := X.A.in1) (I.ok.hd hc) i1 a h11 its.toArray
    have D2 := Draws.list (prog := X.prog) (w := X.w) (A := X.A.in1) (I.ok.hd hc) i2 b h22 its2.toArray
    exact wpAny_pyNext_zipD2_end (sep_of D h12) D1 D2 hz hTI hTO ⟨h1, p⟩ ⟨h2, p2.isList⟩ (by rw [List.size_toArray]; omega) (by rw [List.size_toArray]; omega) (.inl (by rw [List.size_toArray]; omega)) fun h' tk hk => ⟨rfl, I.turnedL (t' := tk) (ch := [z, TI, TO, i1, i2]) (fun c o hb q =>
      hk c o (fun q' => hb (by simp [q'])) (fun q' => hb (by simp [q'])) (fun q' => hb (by simp [q'])) (fun q' => hb (by simp [q'])) q) hf⟩
  self := fun A i s Q E st h => wpAny_pyIter_zip st.1 h
def iZipM (K : PySem.W.Frag) (ta : TA) : TI := fun σ H R => ta σ H fun vs H1 => ∃ a b xs ys, vs = [.ref a, .ref b] ∧ SqT K H1 a xs ∧ SqL K H1 b ys ∧ R (ItzM K a b) H1
theorem pi_zipM {X : Cx} {e e2 : Expr} {ta : TA} {p pos tpos : Pos} {elts : List Expr} {kk : Nat} (hg : Gl X "zip") (hm : X.mg "zip" = none) (ha : PA X [e, e2] ta)
    (hs : starEach [e, e2] X.env = (false, eval e X.env) :: starEach [e2] X.env := by rfl) (hpl : (backTo pos (starEach [e2] X.env)).any (·.1) = false := by rfl) :
    PI X (.Tuple elts kk tpos) (.Call (.Name "zip" p) [e, e2] [] pos) (iZipM X.K ta) := by
  refine ⟨fun pins s σ H R I h => ?_⟩
  refine Call_ (ld_blt I hg hm PyProof.Rows.boot_zip (PyProof.Rows.callWith_type1 (thn (ha.run pos pins s σ H _ I h) fun us s1 ⟨vs, H1, I1, r1, q1⟩ => ?_) hs hpl))
  obtain ⟨a, b, xs, ys, rfl, hqx, hqy, q⟩ := q1
  obtain ⟨u1, u2, rfl, r, r'⟩ := vals2 r1
  cases r
  cases r'
  obtain ⟨its, rv, p1, _⟩ := I1.tuple hqx
  obtain ⟨its2, rv2, p2, _⟩ := I1.list hqy
  obtain ⟨o1, ho1, _⟩ := id p1
  have la : a < s1.heap.objs.size := Heap.lt_size ho1
  have lb : b < s1.heap.objs.size := p2.lt
  refine zip_begins2 (begins_tuple a its.toArray) (begins_list b its2.toArray) p1 p2.isList fun h' hz hTI hTO h1 h2 hsz hk => wpAny_pyIter_zip hz ?_
  have I2 : Inv X pins σ H1 { s1 with heap := h' } := I1.kept (t' := s1.toks) hk
  refine ⟨s1.heap.objs.size + 4, [s1.heap.objs.size + 4, s1.heap.objs.size + 2, s1.heap.objs.size + 3, s1.heap.objs.size, s1.heap.objs.size + 1], _, _, H1, rfl, I2, turn_zipM (PySem.W.ktu_apart s1.heap.objs.size a b la lb) (Nat.ne_of_lt (Nat.lt_succ_of_lt la)) (Nat.ne_of_lt la) (Nat.ne_of_lt (Nat.lt_succ_of_lt lb)), ⟨hz, hTI, ⟨_, _, hTO⟩, ⟨_, h1, rfl, rfl⟩, ⟨_, h2, rfl, rfl⟩⟩, fun c hcm => ?_, q⟩
  have e' : c = s1.heap.objs.size + 4 ∨ c = s1.heap.objs.size + 2 ∨ c = s1.heap.objs.size + 3 ∨ c = s1.heap.objs.size ∨ c = s1.heap.objs.size + 1 := by simpa using hcm
  have hle : s1.heap.objs.size ≤ c := by
    rcases e' with z | z | z | z | z <;> rw [z] <;> first | exact Nat.le_refl _ | exact Nat.le_add_right _ _
  exact I1.fpOk hle (I1.hok.fresh hle)
end HF
/-! pairs with which a row is let -/
namespace HF
open PySem PySem.Spec PyProof.Rows L2
theorem refAt_all {qs : List (Str × Str)} {zs row : List Str} (h : ∀ i b, row[i]? = some b → lets qs (lefts zs (row.take i)) b = true) : refAt qs zs row = none := by
  have go : ∀ n, n ≤ row.length → refAt qs zs (row.take n) = none := fun n => by
    induction n with
    | zero => exact fun _ => rfl
    | succ n ih =>
      intro hn
      have hb : row[n]? = some row[n] := List.getElem?_eq_getElem (by omega)
      exact refAt_step hb (ih (by omega)) (h n _ hb)
  have := go row.length (Nat.le_refl _)
  rwa [List.take_length] at this
/-- b lay beneath a at a going of a -/
def Rfd (zs row : List Str) (i : Nat) (a b : Str) : Prop := ∃ j, j < i ∧ row[j]? = some a ∧ b ∈ lefts zs (row.take j) ∧ pos a (lefts zs (row.take j)) < pos b (lefts zs (row.take j))
theorem lets_one {u f b : Str} {ys : List Str} : lets [(u, f)] ys b = true ↔ (b = u → (pos f ys : Int) < (pos b ys : Int)) := by
  unfold lets sndOf
  by_cases e : u = b
  · subst e
    simp
  · have e2 : b ≠ u := fun z => e z.symm
    simp [e, e2]
theorem let_one {zs row : List Str} {u f : Str} (nd : zs.Nodup) (hin : ∀ b ∈ row, b ∈ zs) (hf : f ∈ zs) (ne : u ≠ f) : refAt [(u, f)] zs row = none ↔ ¬ Rfd zs row row.length u f := by
  constructor
  · rintro h ⟨j, hj, hr, hm, hlt⟩
    have := lets_one.mp (refAt_at hr h) rfl
    omega
  · intro h
    refine refAt_all fun i b hb => lets_one.mpr fun e => ?_
    subst e
    have pm := lefts_perm (row := row.take i) nd fun z hz => hin z (List.mem_of_mem_take hz)
    have hf2 := pm.mem_iff.mpr hf
    have hu2 := pm.mem_iff.mpr (hin b (List.mem_of_getElem? hb))
    have hne : pos b (lefts zs (row.take i)) ≠ pos f (lefts zs (row.take i)) := fun e => ne (pos_inj hu2 hf2 e)
    have hil := (List.getElem?_eq_some_iff.mp hb).1
    have : ¬ pos b (lefts zs (row.take i)) < pos f (lefts zs (row.take i)) := fun hlt => h ⟨i, hil, hb, hf2, hlt⟩
    omega
theorem mem_beneath {ys : List Str} {a b : Str} (nd : ys.Nodup) : b ∈ ys.drop (pos a ys + 1) ↔ b ∈ ys ∧ pos a ys < pos b ys := by
  constructor
  · intro h
    obtain ⟨j, hj⟩ := List.getElem?_of_mem h
    rw [List.getElem?_drop] at hj
    have := pos_at nd hj
    exact ⟨List.mem_of_mem_drop h, by omega⟩
  · rintro ⟨h1, h2⟩
    have h3 := pos_get h1
    have : (ys.drop (pos a ys + 1))[pos b ys - (pos a ys + 1)]? = some b := by
      rw [List.getElem?_drop, show pos a ys + 1 + (pos b ys - (pos a ys + 1)) = pos b ys by omega]
      exact h3
    exact List.mem_of_getElem? this
/-- a dict by pairs: which it has -/
def DGB (H : Hp) (D : Addr) (R : Str → Str → Prop) (n : Nat) : Prop := ∃ kvs : List (List Key × V), H D = some (.dT kvs) ∧ kvs.length ≤ n ∧ ∀ a b, (valV kvs (kk a b)).isSome = true ↔ R a b
theorem DGB.same {H H' : Hp} {D : Addr} {R : Str → Str → Prop} {n : Nat} (d : DGB H D R n) (s : Same H H') : DGB H' D R n := by
  obtain ⟨kvs, e, r⟩ := d
  exact ⟨kvs, s _ _ e, r⟩
theorem DGB.put {H : Hp} {D t : Addr} {R : Str → Str → Prop} {n : Nat} {a b : Str} {v : V} (d : DGB H D R n) (ht : H t = some (.tup [.str a, .str b])) (few : n ≤ 2000000) : ∃ kvs, DPut H D (.ref t) v (upd H D (.dT kvs)) ∧ DGB (upd H D (.dT kvs)) D (fun x y => R x y ∨ (x = a ∧ y = b)) (n + 1) := by
  obtain ⟨kvs, e, l, hv⟩ := d
  refine ⟨putK kvs (kk a b) v, .inr ⟨kvs, kk a b, t, e, rfl, ht, by rw [sizeLine_eq]; omega, rfl⟩, _, upd_same, Nat.le_trans (length_putK _ _ _) (Nat.succ_le_succ l), fun x y => ?_⟩
  rw [valV_put]
  by_cases z : x = a ∧ y = b
  · rw [if_pos (kk_inj.mpr z)]
    exact ⟨fun _ => .inr z, fun _ => rfl⟩
  · rw [if_neg (fun q => z (kk_inj.mp q)), hv]
    exact ⟨.inl, fun h => h.resolve_right z⟩
theorem DGB.iff {H : Hp} {D : Addr} {R R' : Str → Str → Prop} {n : Nat} (d : DGB H D R n) (h : ∀ a b, R a b ↔ R' a b) : DGB H D R' n := by
  obtain ⟨kvs, e, l, hv⟩ := d
  exact ⟨kvs, e, l, fun a b => (hv a b).trans (h a b)⟩
def spTl (K : PySem.W.Frag) : Sp := fun vs H Q _ => ∃ (h a : Addr) (zs row : List Str), vs = [.ref h, .ref a] ∧ Hq K H h zs ∧ Sq K H a (row.map V.str) ∧ zs.Nodup ∧ (∀ b ∈ row, b ∈ zs) ∧ zs.length ≤ 12 ∧ row.length ≤ 400 ∧
  ∀ (H' : Hp) (t : Addr) (ps : List TPr), Same H H' → H t = none → Tp H' t (rfs ps) → (∀ p ∈ ps, AtT H' p) → ps.map (·.2) = (allP (srt zs)).filter (fun p => decide (refAt [p] zs row = none)) → Q (.ref t) H'
end HF
/-! histories: heaps and rows -/
namespace HF
open PySem PySem.Spec PyProof.Rows L2
structure HE where
  t : Addr
  h : Addr
  a : Addr
  zs : List Str
  row : List Str
def HEOk (K : PySem.W.Frag) (H : Hp) (e : HE) : Prop := Sq K H e.t [.ref e.h, .ref e.a] ∧ Hq K H e.h e.zs ∧ Sq K H e.a (e.row.map V.str)
def Hst (K : PySem.W.Frag) (H : Hp) (l : Addr) (es : List HE) : Prop := Sq K H l (es.map fun e => V.ref e.t) ∧ ∀ e ∈ es, HEOk K H e
theorem HEOk.same {K : PySem.W.Frag} {H H' : Hp} {e : HE} (h : HEOk K H e) (s : Same H H') : HEOk K H' e := ⟨sameQ s h.1, h.2.1.same s, sameQ s h.2.2⟩
theorem Hst.same {K : PySem.W.Frag} {H H' : Hp} {l : Addr} {es : List HE} (h : Hst K H l es) (s : Same H H') : Hst K H' l es := ⟨sameQ s h.1, fun e he => (h.2 e he).same s⟩
def letsP (e : HE) (p : Str × Str) : Bool := decide (refAt [p] e.zs e.row = none)
/-- what ties_let told of a history -/
def LeOk (H : Hp) (e : HE) (u : Addr × List TPr) : Prop := Tp H u.1 (rfs u.2) ∧ (∀ p ∈ u.2, AtT H p) ∧ u.2.map (·.2) = (allP (srt e.zs)).filter (letsP e)
theorem tpS {H H' : Hp} {t : Addr} {xs : List V} (h : Tp H t xs) (s : Same H H') : Tp H' t xs := by
  obtain ⟨ob, h1, h2⟩ := h
  exact ⟨ob, s _ _ h1, h2⟩
theorem LeOk.same {H H' : Hp} {e : HE} {u : Addr × List TPr} (h : LeOk H e u) (s : Same H H') : LeOk H' e u := ⟨tpS h.1 s, fun p hp => s _ _ (h.2.1 p hp), h.2.2⟩
theorem keep_l {H : Hp} {D x : Addr} {xs : List V} {o o' : HO} (e : H D = some (.lst xs)) (hx : H x = some o) (ne : ∀ ys, o ≠ .lst ys) : upd H D o' x = some o := by
  rw [upd_ne (fun z => by rw [z, e] at hx; exact ne xs (by injection hx with hx; exact hx.symm))]
  exact hx
theorem LeOk.put {H : Hp} {e : HE} {u : Addr × List TPr} {D : Addr} {xs : List V} {o' : HO} (h : LeOk H e u) (eD : H D = some (.lst xs)) : LeOk (upd H D o') e u := by
  obtain ⟨⟨ob, h1, h2⟩, h3, h4⟩ := h
  exact ⟨⟨ob, keep_l eD h1 (fun _ z => nomatch z), h2⟩, fun p hp => keep_l eD (h3 p hp) (fun _ z => nomatch z), h4⟩
theorem LeOk.dp {K : PySem.W.Frag} {H : Hp} {e : HE} {u : Addr × List TPr} (h : LeOk H e u) : Dp K H (.ref u.1) (.tuple (((allP (srt e.zs)).filter (letsP e)).map dPr)) := by
  rw [← h.2.2, List.map_map]
  exact .tup h.1.sq (dpAll_prs h.2.1)
theorem ix_at {K : PySem.W.Frag} {H : Hp} {a : Addr} {xs : List V} {i : Int} {v : V} {Q : VK} (h : Sq K H a xs) (e : atI xs i = some v) (q : Q v H) : rIx K (.ref a) (.int i) H Q := by
  rcases h with h | h
  · exact .inl ⟨a, xs, i, v, rfl, rfl, h, e, q⟩
  · exact .inr (.inl ⟨a, xs, i, v, rfl, rfl, h, e, q⟩)
def spTa (K : PySem.W.Frag) : Sp := fun vs H Q _ => ∃ (l : Addr) (es : List HE) (z0 : List Str), vs = [.ref l] ∧ Hst K H l es ∧ es ≠ [] ∧ es.length ≤ 50 ∧ (∀ e ∈ es, e.zs.Perm z0 ∧ (∀ b ∈ e.row, b ∈ e.zs) ∧ e.row.length ≤ 400) ∧ z0.Nodup ∧ z0.length ≤ 12 ∧ (∀ z ∈ z0, Nm z) ∧
  ∀ (H' : Hp) (t : Addr) (ps : List TPr), Same H H' → H t = none → Tp H' t (rfs ps) → (∀ p ∈ ps, AtT H' p) → ps.map (·.2) = (allP (srt z0)).filter (fun p => es.all fun e => letsP e p) → Q (.ref t) H'
end HF
/-! pairs of a heap, in order: ties -/
namespace HF
open PySem PySem.Spec PyProof.Rows L2
def ltS (a b : Str) : Prop := a.cps.toList < b.cps.toList
def ltP (p q : Str × Str) : Prop := ltS p.1 q.1 ∨ (p.1 = q.1 ∧ ltS p.2 q.2)
theorem srt_lt {zs : List Str} (nd : zs.Nodup) : (srt zs).Pairwise ltS := by
  have h1 := srt_rise zs
  have h2 : (srt zs).Nodup := (srt_perm zs).nodup_iff.mpr nd
  refine (h1.and h2).imp fun {a b} h => ?_
  by_cases h3 : a.cps.toList < b.cps.toList
  · exact h3
  · exact absurd (PySem.W.str_of_cps (List.le_antisymm h.1 (List.not_lt.mp h3))) h.2
theorem ltS_ne {a b : Str} (h : ltS a b) : a ≠ b := fun e => by
  subst e
  exact List.lt_irrefl _ h
theorem allP_lt {bs : List Str} (h : bs.Pairwise ltS) : (allP bs).Pairwise ltP := by
  unfold allP
  have go : ∀ cs : List Str, cs.Pairwise ltS → (cs.flatMap fun b => (bs.filter fun f => decide (b ≠ f)).map fun f => (b, f)).Pairwise ltP := fun cs => by
    induction cs with
    | nil => exact fun _ => List.Pairwise.nil
    | cons c r ih =>
      intro hc
      obtain ⟨hc1, hc2⟩ := List.pairwise_cons.mp hc
      rw [List.flatMap_cons, List.pairwise_append]
      refine ⟨List.pairwise_map.mpr ((h.filter _).imp fun z => .inr ⟨rfl, z⟩), ih hc2, fun x hx y hy => ?_⟩
      obtain ⟨f, _, rfl⟩ := List.mem_map.mp hx
      obtain ⟨b, hb, hy⟩ := List.mem_flatMap.mp hy
      obtain ⟨g, _, rfl⟩ := List.mem_map.mp hy
      exact .inl (hc1 b hb)
  exact go bs h
theorem lt_dPr {p q : Str × Str} (h : ltP p q) : PySem.W.dataLt (dPr p) (dPr q) = true := by
  unfold dPr
  rw [PySem.W.dataLt_pair (by rfl) (by rfl)]
  rcases h with h | ⟨e, h⟩
  · have : ¬ PyData.eqv (.str p.1) (.str q.1) = true := fun z => ltS_ne h (eq_of_beq (show (p.1 == q.1) = true from z))
    rw [if_neg this, PySem.W.dataLt_str]
    exact decide_eq_true h
  · have h1 : PyData.eqv (.str p.1) (.str q.1) = true := by
      show (p.1 == q.1) = true
      rw [e]
      exact beq_self_eq_true _
    have : ¬ PyData.eqv (.str p.2) (.str q.2) = true := fun z => ltS_ne h (eq_of_beq (show (p.2 == q.2) = true from z))
    rw [if_pos h1, if_neg this, PySem.W.dataLt_str]
    exact decide_eq_true h
theorem ties_true {zs : List Str} {qs : List (Str × Str)} (hp : qs.Pairwise ltP) (hc : ∀ q ∈ qs, q.1 ∈ zs ∧ q.2 ∈ zs ∧ q.1 ≠ q.2) : isTiesB zs (.tuple (qs.map dPr)) = true := by
  show ((qs.map dPr).all (isTieB zs) && riseB (qs.map dPr)) = true
  rw [Bool.and_eq_true_iff]
  constructor
  · rw [List.all_eq_true]
    intro d hd
    obtain ⟨q, hq, rfl⟩ := List.mem_map.mp hd
    obtain ⟨h1, h2, h3⟩ := hc q hq
    have inb : ∀ b ∈ zs, isTieB.inBk zs (.str b) = true := fun b hb => by
      unfold isTieB.inBk
      rw [List.any_eq_true]
      exact ⟨.str b, List.mem_map_of_mem hb, by show (b == b) = true; exact beq_self_eq_true _⟩
    show (isTieB.inBk zs (.str q.1) && (isTieB.inBk zs (.str q.2) && !PyData.eqv (.str q.1) (.str q.2))) = true
    rw [inb _ h1, inb _ h2, show PyData.eqv (.str q.1) (.str q.2) = false from by
      show (q.1 == q.2) = false
      exact beq_eq_false_iff_ne.mpr h3]
    rfl
  · unfold riseB
    rw [List.all_eq_true]
    intro i hi
    rw [List.mem_range, List.length_map] at hi
    have e1 : (qs.map dPr).getD i .none = dPr qs[i] := by rw [List.getD_eq_getElem?_getD, List.getElem?_map, List.getElem?_eq_getElem (by omega)]; rfl
    have e2 : (qs.map dPr).getD (i + 1) .none = dPr qs[i + 1] := by rw [List.getD_eq_getElem?_getD, List.getElem?_map, List.getElem?_eq_getElem (by omega)]; rfl
    rw [e1, e2]
    exact lt_dPr (List.pairwise_iff_getElem.mp hp i (i + 1) _ _ (by omega))
end HF
namespace HF
open PySem PySem.Spec PyProof.Rows L2
theorem lets_mem {qs : List (Str × Str)} {ys : List Str} {b : Str} : lets qs ys b = true ↔ ∀ q ∈ qs, q.1 = b → (pos q.2 ys : Int) < (pos b ys : Int) := by
  unfold lets sndOf
  induction qs with
  | nil => simp
  | cons q r ih =>
    by_cases e : q.1 = b
    · simp [e] at ih ⊢
      rw [← ih]
      exact fun _ => Iff.rfl
    · simp [e] at ih ⊢
      rw [← ih]
theorem refAt_each {qs : List (Str × Str)} {zs row : List Str} : refAt qs zs row = none ↔ ∀ q ∈ qs, refAt [q] zs row = none := by
  constructor
  · intro h q hq
    refine refAt_all fun i b hb => lets_mem.mpr fun q2 h2 => ?_
    rw [List.mem_singleton.mp h2]
    exact lets_mem.mp (refAt_at hb h) q hq
  · intro h
    refine refAt_all fun i b hb => lets_mem.mpr fun q hq => ?_
    exact lets_mem.mp (refAt_at hb (h q hq)) q List.mem_cons_self
theorem row_ld {qs : List (Str × Str)} {zs ws row : List Str} (h : RowTo qs zs ws row) (nd : zs.Nodup) (cl : ∀ q ∈ qs, q.2 ∈ zs ∧ q.1 ≠ q.2 ∧ q.1 ∈ zs) : ld zs ws qs = true :=
  (ld_iff nd cl).mpr fun ls g => by
    rw [← h.left]
    exact T_row g nd h.sub h.lt
theorem Lst.fewer {zs ws : List Str} {qs rs : List (Str × Str)} {g g' : Str → Int} (h : Lst zs ws qs g) (h' : Lst zs ws rs g') (sub : ∀ q ∈ qs, q ∈ rs) (x : Str) : g x ≤ g' x :=
  h.least g' ⟨h'.sol.nn, h'.sol.up, fun q hq => h'.sol.ed q (sub q hq)⟩ x
end HF
namespace HF
open PySem PySem.Spec PyProof.Rows L2
def HsB (H : Hp) (S : Addr) (es : List HE) : Prop := H S = some (.lst ((es.map (·.t)).map V.ref)) ∧ ∀ e ∈ es, H e.t = some (.tup [.ref e.h, .ref e.a]) ∧ Tp H e.h (e.zs.map V.str) ∧ H e.a = some (.lst (e.row.map V.str)) ∧ e.a ≠ S
theorem HsB.same {H H' : Hp} {S : Addr} {es : List HE} (h : HsB H S es) (s : Same H H') : HsB H' S es := ⟨s _ _ h.1, fun e he => ⟨s _ _ (h.2 e he).1, tpS (h.2 e he).2.1 s, s _ _ (h.2 e he).2.2.1, (h.2 e he).2.2.2⟩⟩
theorem bx_tp2 {H : Hp} {p F : Addr} {c : Int} {xs : List V} (hb : Bx H p c) (h : H F = some (.tup xs)) : F ≠ p := fun e => by
  obtain ⟨a, b, e1, _⟩ := hb
  rw [e, e1] at h
  exact nomatch h
theorem HsB.oth {H H' : Hp} {S p : Addr} {c : Int} {es : List HE} (h : HsB H S es) (o : Oth p H H') (hb : Bx H p c) : HsB H' S es :=
  ⟨o _ _ h.1 (bx_refs hb h.1), fun e he => ⟨o _ _ (h.2 e he).1 (bx_tp2 hb (h.2 e he).1), (h.2 e he).2.1.oth o ((h.2 e he).2.1.ne hb), o _ _ (h.2 e he).2.2.1 (bx_strs hb (h.2 e he).2.2.1), (h.2 e he).2.2.2⟩⟩
theorem HsB.push {H : Hp} {S : Addr} {es : List HE} {e : HE} (h : HsB H S es) (h1 : H e.t = some (.tup [.ref e.h, .ref e.a])) (h2 : Tp H e.h (e.zs.map V.str)) (h3 : H e.a = some (.lst (e.row.map V.str))) (h4 : e.a ≠ S) : HsB (upd H S (.lst ((es.map (·.t)).map V.ref ++ [.ref e.t]))) S (es ++ [e]) := by
  refine ⟨by rw [upd_same, List.map_append, List.map_append]; rfl, fun e2 he => ?_⟩
  have hh : H e2.t = some (.tup [.ref e2.h, .ref e2.a]) ∧ Tp H e2.h (e2.zs.map V.str) ∧ H e2.a = some (.lst (e2.row.map V.str)) ∧ e2.a ≠ S := by
    rcases List.mem_append.mp he with he | he
    · exact h.2 e2 he
    · rw [List.mem_singleton.mp he]
      exact ⟨h1, h2, h3, h4⟩
  obtain ⟨k1, ⟨ob, k2, k3⟩, k4, k5⟩ := hh
  exact ⟨keep_l h.1 k1 (fun _ z => nomatch z), ⟨ob, keep_l h.1 k2 (fun _ z => nomatch z), k3⟩, by rw [upd_ne k5]; exact k4, k5⟩
theorem HsB.hst {K : PySem.W.Frag} {H : Hp} {S : Addr} {es : List HE} (h : HsB H S es) : Hst K H S es := by
  refine ⟨.inl (.inl (.inl ?_)), fun e he => ⟨.inr (.inl (.inl (h.2 e he).1)), .inr (h.2 e he).2.1, .inl (.inl (.inl (h.2 e he).2.2.1))⟩⟩
  have := h.1
  rw [List.map_map] at this
  exact this
theorem Ties.perm {zs ys : List Str} {H : Hp} {r : Addr} {L : SL} (h : Ties zs H r L) (pm : ys.Perm zs) : Ties ys H r L := by
  obtain ⟨k1, k2, k3⟩ := h
  refine ⟨k1, fun p hp => ⟨(k2 p hp).1, ?_⟩, k3⟩
  obtain ⟨u, v, e1, e2, e3, e4⟩ := (k2 p hp).2
  exact ⟨u, v, e1, pm.mem_iff.mpr e2, pm.mem_iff.mpr e3, e4⟩
theorem rfs_refs (ps : List TPr) : rfs ps = (ps.map (·.1)).map V.ref := by
  unfold rfs
  rw [List.map_map]
  rfl
theorem tpPq {K : PySem.W.Frag} {H : Hp} {t : Addr} {ps : List TPr} (h : Tp H t (rfs ps)) (hp : ∀ p ∈ ps, AtT H p) : PqT K H t (ps.map (·.2)) := by
  refine ⟨ps.map (·.1), by rw [← rfs_refs]; exact h.sq, by rw [List.length_map, List.length_map], fun i a q e f => ?_⟩
  rw [List.getElem?_map] at e f
  obtain ⟨p, e1, rfl⟩ := Option.map_eq_some_iff.mp e
  rw [e1] at f
  cases f
  exact .inl (.inl (hp p (List.mem_of_getElem? e1)))
theorem LPs.oth {H H' : Hp} {l p : Addr} {c : Int} {ps : List TPr} (h : LPs H l ps) (o : Oth p H H') (hb : Bx H p c) : LPs H' l ps := by
  refine ⟨o _ _ h.1 (by have := h.1; rw [rfs_refs] at this; exact bx_refs hb this), fun q hq => o _ _ (h.2 q hq) (bx_tp2 hb (h.2 q hq))⟩
end HF
/-! set(a tuple of pairs), sorted(a list of pairs of texts) -/
namespace HF
open PySem PySem.Spec PyProof.Rows L2
section
variable {P : Program} {w : World} {A : Around} {E : Value → Shared → Prop} {s : Shared}
theorem call_set_tp {l : Addr} {items : Array Value} (ks : SL) {Q : Value → Shared → Prop} (hh : A.handled = none) (hl : s.heap.IsTuple l items) (hit : items.toList = ks.map fun p => Value.ref p.1)
    (tups : ∀ p ∈ ks, IsS P w s.heap p.2 p.1) (few : ks.length ≤ 306) (hu : A.units + 3 < cLine)
    (hQ : ∀ (h' : Heap) (tk : Nat) L es ep t, SR P w h' s.heap.objs.size L es ep t → Gt ks ks.length L → (∀ b o, s.heap.get? b = some o → h'.get? b = some o) → Q (.ref s.heap.objs.size) { s with heap := h', toks := tk }) :
    wpAny (model P w) A (call (.type "set") [.ref l]) Q E s := by
  have many : items.size = ks.length := by
    have q := congrArg List.length hit
    rw [Array.length_toList, List.length_map] at q
    exact q
  obtain ⟨c, tl, hmro⟩ := F.called_set.mro
  have hmade := F.called_set.made
  have hsub := F.called_set.sub
  refine wpAny_call (codeAny_of_tree ?_)
  show wpAny _ _ (callAny (.type "set") _) _ _ _
  refine wpAny_pure ⟨Code.quiet_builtin _ (by decide +kernel), codeAny_builtin F.entry_type_call ?_⟩
  rw [Around.under_plain (weight_type_call_type "set" [.ref l] []) rfl]
  have h1 := F.called_set.notType
  have h2 := F.called_set.canCreate
  have hct := F.typeCall_set_1 (.ref l)
  repeat (any_goals (first | assumption | wp_step))
  refine codeAny_mono (code_set_led1 (.ref l) (E := E) (Q₁ := fun obj s₁ => obj = .ref s.heap.objs.size ∧ s₁ = { s with heap := s.heap.push (bareSet w) }) ⟨rfl, rfl⟩) fun r s₁ hr => ?_
  cases r with
  | error e => exact hr
  | ok fl =>
    cases fl with
    | ret obj =>
      obtain ⟨rfl, rfl⟩ := hr
      have atS : (s.heap.push (bareSet w)).get? s.heap.objs.size = some (bareSet w) := Heap.get?_push_size _ rfl
      have hT : Shared.TypeIs { s with heap := s.heap.push (bareSet w) } (.ref s.heap.objs.size) "set" := ⟨_, atS, rfl⟩
      have hli := F.called_set.init.lookup
      have hbi := F.called_set.init.bind (.ref s.heap.objs.size)
      repeat (any_goals (first | assumption | wp_step))
      refine codeAny_mono (codeAny_call_builtin (R := wants (fun r s₂ => r = .none ∧ ∃ h' tk L es ep t, s₂ = { s with heap := h', toks := tk } ∧ SR P w h' s.heap.objs.size L es ep t ∧ Gt ks ks.length L ∧ (∀ b o, s.heap.get? b = some o → h'.get? b = some o)) E) F.called_set.init.plain F.entry_set_init (check_set_init_1 hT ?_)) fun r₂ s₂ hr₂ => ?_
      · obtain ⟨⟨ocls, odict, odata, oslots⟩, hol, hcl, nl, hdl⟩ := hl
        simp only at hcl hdl
        subst hcl hdl
        have hol1 : (s.heap.push (bareSet w)).get? l = some { cls := .type "tuple", dict := odict, data := .seq items nl, slots := oslots } := Heap.get?_push_of_some _ hol
        have hsls := F.sub_tuple_set
        have hslf := F.sub_tuple_frozenset
        have hne : (Value.type "tuple" == Value.type "dict") = false := by decide
        have hl1 : (s.heap.push (bareSet w)).IsTuple l items := ⟨_, hol1, rfl, nl, rfl⟩
        unfold Builtin.«set.__init__» noKeywords Builtin.Frozenset.updateFrom
        generalize hPI : pyIter = PI
        wp_walk
        subst hPI
        refine wpAny_pyIter_tuple hl1 (wpAny_bind (wpAny_runValue ?_))
        have ltl : l < s.heap.objs.size := Heap.lt_size hol
        have sz1 : (s.heap.push (bareSet w)).objs.size = s.heap.objs.size + 1 := Heap.size_push ..
        have hval : ∀ (i : Nat) (v : Value), items[i]? = some v → ∃ p, ks[i]? = some p ∧ v = .ref p.1 := fun i v hv => by
          have q : items.toList[i]? = some v := by
            rw [Array.getElem?_toList]
            exact hv
          rw [hit, List.getElem?_map] at q
          obtain ⟨p, hp, e⟩ := Option.map_eq_some_iff.mp q
          exact ⟨p, hp, e.symm⟩
        have beyond : ∀ b, s.heap.objs.size ≤ b → s.heap.get? b = none := fun b hb => by
          cases q : s.heap.get? b with
          | none => rfl
          | some o => exact absurd (Nat.lt_of_lt_of_le (Heap.lt_size q) hb) (Nat.lt_irrefl _)
        refine update_s ((Walks.tuple (by simp [hh]) _ l (by rw [sz1]; exact Nat.ne_of_lt (Nat.lt_succ_of_lt ltl)) items).toS) s.heap.objs.size
          (by rw [sz1]; simp only [List.mem_cons, List.not_mem_nil, or_false, not_or]; exact ⟨Nat.ne_of_lt (Nat.lt_succ_self _), Nat.ne_of_gt ltl⟩) ks many few hval s.heap tups (beyond _ (Nat.le_refl _))
          (fun b hb => beyond b (by rw [List.mem_singleton.mp hb, sz1]; exact Nat.le_succ _)) hu (items.size - 0) 0 _ (by omega) (Nat.zero_le _)
          ⟨⟨_, Heap.get?_push_size _ rfl, rfl, rfl⟩, (hl1.push _)⟩ (fun b o e => Heap.get?_push_of_some _ (Heap.get?_push_of_some _ e)) ?hS0 ?hR
        case hS0 =>
          exact ⟨[], #[], 0, _, SR.bare (Heap.get?_push_of_some _ atS), Gt.none ks⟩
        case hR =>
          rintro ⟨h', g2, d', tk', os'⟩ L es ep t mv hS' g' kp
          have eg : g2 = s.gens := mv.gens
          have ed : d' = s.drawn := mv.drawn
          have eo : os' = s.os := mv.os
          subst eg ed eo
          show wpAny _ _ _ _ _ _
          refine wpAny_pure ?_
          show wpAny _ _ (ret Value.none) _ _ _
          rw [many] at g'
          exact wpAny_pure ⟨rfl, h', tk', L, es, ep, t, rfl, hS', g', kp⟩
      · cases r₂ with
        | error e => exact hr₂
        | ok fl₂ =>
          cases fl₂ with
          | ret r =>
            obtain ⟨rfl, h', tk, L, es, ep, t, rfl, hS', g', kp⟩ := hr₂
            repeat (any_goals (first | assumption | wp_step))
            exact hQ _ _ _ _ _ _ hS' g' kp
          | _ => exact hr₂.elim
    | _ => exact hr.elim
end
section
variable {X : Cx}
/-- set(xs), xs a tuple of tuples of texts -/
def rSetT (K : PySem.W.Frag) (P : Program) (w : World) : List V → Hp → VK → Prop := fun us H Q => ∃ (l : Addr) (ks : SL), us = [V.ref l] ∧ SqT K H l (ks.map fun p => V.ref p.1) ∧ (∀ p ∈ ks, SqT K H p.1 (p.2.map V.str)) ∧ ks.length ≤ 306 ∧
  ∀ a L, H a = none → (∀ p ∈ L, p ∈ ks) → (∀ p ∈ ks, p.2 ∈ L.map (·.2)) → (L.map (·.2)).Nodup → L.length ≤ ks.length → Q (.ref a) (upd H a (SetO P w a L))
theorem cr_setT (hc : X.calm = true) (hu : X.A.units + 64 < cLine) : CallR X (.type "set") (rSetT X.K X.prog X.w) := by
  intro pins st σ H us ws Q I rel hyp
  obtain ⟨l, ks, rfl, hl, ht, few, q⟩ := hyp
  rw [Vals.ref1 rel]
  obtain ⟨its, rv, pl, hz⟩ := I.tuple hl
  refine call_set_tp (P := X.prog) (w := X.w) ks (I.ok.hd hc) pl (by simpa using refs_vals rv) (fun p hp => isS_of I (ht p hp)) few (by omega) fun h1 tk L es ep t R g kp => ?_
  exact ⟨.ref st.heap.objs.size, _, I.laid (t' := tk) kp (Nat.le_refl _) (SetO.new R.s0), rfl, q _ L (I.hok.fresh (Nat.le_refl _)) (fun p hp => List.mem_of_mem_take (g.sub p hp)) (fun p hp => g.all p (by rw [List.take_length]; exact hp)) R.nd g.few⟩
abbrev encP (p : TPr) : PyData := .tuple [.str p.2.1, .str p.2.2]
theorem alike_P (L : List TPr) : PySem.W.AllAlike (L.map encP) := fun x hx y hy => by
  obtain ⟨a, _, rfl⟩ := List.mem_map.mp hx
  obtain ⟨b, _, rfl⟩ := List.mem_map.mp hy
  rfl
theorem sortable_P (L : List TPr) : PySem.W.Sortable (L.map encP) := .inl fun x hx => by
  obtain ⟨a, _, rfl⟩ := List.mem_map.mp hx
  exact ⟨_, _, rfl⟩
theorem str_same {a b : Str} (h : a.cps.toList = b.cps.toList) : a = b := by
  cases a with
  | mk x => cases b with
    | mk y =>
      have : x = y := Array.toList_inj.mp h
      rw [this]
theorem str_le_of {x y : Str} (h : (!PySem.W.dataLt (.str y) (.str x)) = true) : x.cps.toList ≤ y.cps.toList := by
  rw [PySem.W.dataLt_str, PySem.W.not_lt_str] at h
  exact of_decide_eq_true h
/-- rising, maybe alike -/
def leP (p q : Str × Str) : Prop := p.1.cps.toList < q.1.cps.toList ∨ (p.1 = q.1 ∧ p.2.cps.toList ≤ q.2.cps.toList)
theorem le_P {p q : TPr} (h : PySem.W.dataLe false encP p q = true) : leP p.2 q.2 := by
  have h1 : (!PySem.W.dataLt (encP q) (encP p)) = true := h
  rw [PySem.W.dataLt_pair (by rfl) (by rfl)] at h1
  by_cases e : PyData.eqv (.str q.2.1) (.str p.2.1) = true
  · have e2 : q.2.1 = p.2.1 := by
      have : (q.2.1 == p.2.1) = true := e
      exact eq_of_beq this
    rw [if_pos e] at h1
    refine .inr ⟨e2.symm, ?_⟩
    by_cases e3 : PyData.eqv (.str q.2.2) (.str p.2.2) = true
    · have e4 : q.2.2 = p.2.2 := by
        have : (q.2.2 == p.2.2) = true := e3
        exact eq_of_beq this
      rw [e4]
      exact List.le_refl _
    · rw [if_neg e3] at h1
      exact str_le_of h1
  · rw [if_neg e] at h1
    have h2 := str_le_of h1
    rcases Decidable.em (p.2.1.cps.toList < q.2.1.cps.toList) with hl | hl
    · exact .inl hl
    · exfalso
      have h3 : q.2.1.cps.toList ≤ p.2.1.cps.toList := List.not_lt.mp hl
      have h4 : p.2.1.cps.toList = q.2.1.cps.toList := List.le_antisymm h2 h3
      refine e ?_
      have : q.2.1 = p.2.1 := str_same h4.symm
      rw [this]
      show (p.2.1 == p.2.1) = true
      exact beq_self_eq_true _
theorem each_P : ∀ (L : List TPr), PySem.W.EachIs (fun v (p : TPr) => v = Value.ref p.1) (L.map fun p => Value.ref p.1) L
  | [] => .nil
  | p :: r => .cons rfl (each_P r)
theorem eachP_out : ∀ {out : List Value} {L : List TPr}, PySem.W.EachIs (fun v (p : TPr) => v = Value.ref p.1) out L → out = L.map fun p => Value.ref p.1
  | _, _, .nil => rfl
  | _, _, .cons h t => by rw [h, eachP_out t]; rfl
theorem valsP : ∀ (L : List TPr), Vals (rfs L) (L.map fun p => Value.ref p.1)
  | [] => .nil
  | p :: ks => .cons rfl (valsP ks)
theorem refsP : ∀ {L : List TPr} {us : List Value}, Vals (rfs L) us → us = L.map fun p => Value.ref p.1
  | [], _, .nil => rfl
  | p :: ks, _, .cons r t => by
    cases r
    rw [refsP t]
    rfl
theorem eachP_reads {pins : List (Addr × Obj)} {σ : L2.St} {H : Hp} {s : Shared} (I : Inv X pins σ H s) : ∀ {L : List TPr}, (∀ p ∈ L, AtT H p) → PySem.W.EachIs (fun v p => ∃ as, Reads s.heap v (encP p) as) (L.map fun p => Value.ref p.1) L
  | [], _ => .nil
  | p :: r, h => .cons (Dp.reads I (encP p) (.ref p.1) (.ref p.1) (AtT.dp (h p List.mem_cons_self)) rfl) (eachP_reads I fun q hq => h q (List.mem_cons_of_mem _ hq))
/-- sorted(l), l a list of pairs of texts -/
def rSortP2 (K : PySem.W.Frag) : List V → Hp → VK → Prop := fun us H Q => ∃ (l : Addr) (L : List TPr), us = [V.ref l] ∧ LPs H l L ∧ L.length ≤ 1000 ∧
  ∀ (L' : List TPr) (p : Addr), L'.Perm L → (L'.map (·.2)).Pairwise leP → H p = none → Q (.ref p) (upd H p (.lst (rfs L')))
theorem cr_sortP2 (hu : X.A.units + 64 < cLine) : CallR X (.builtin "sorted") (rSortP2 X.K) := by
  intro pins st σ H us ws Q I rel hyp
  obtain ⟨l, L, rfl, ⟨hl0, hat⟩, few, q⟩ := hyp
  have hl : SqL X.K H l (rfs L) := .inl (.inl hl0)
  rw [Vals.ref1 rel]
  obtain ⟨its, rv, pl, hz⟩ := I.list hl
  have e := refsP rv
  subst e
  refine PySem.W.sorted_data (enc := encP) (bs := L) pl.isList (each_P L) (eachP_reads I hat) (alike_P L) (sortable_P L) (by rw [sizeLine_eq]; omega) (fun b _ => by show X.A.units + 2 + 1 < cLine; omega) fun out hout eo => ?_
  obtain ⟨ep, he⟩ := PyProof.Rows.sortedAll_at st.heap (L.map fun p => Value.ref p.1) (List.toArray out)
  have pm := List.mergeSort_perm L (PySem.W.dataLe false encP)
  have hz2 : (rfs (L.mergeSort (PySem.W.dataLe false encP))).length ≤ sizeLine := by
    rw [rfs_len, pm.length_eq, sizeLine_eq]
    omega
  have hv : Vals (rfs (L.mergeSort (PySem.W.dataLe false encP))) out := by
    rw [eachP_out eo]
    exact valsP _
  refine ⟨.ref _, _, I.laid (t' := st.toks) (o := .lst (rfs (L.mergeSort (PySem.W.dataLe false encP)))) (fun _ _ => PyProof.Rows.sortedAll_old) (Nat.le_succ _) ⟨hz2, out, ep, hv, he⟩, rfl, q _ _ pm ?_ (I.hok.fresh (Nat.le_succ _))⟩
  exact List.pairwise_map.mpr ((PySem.W.sort_pairwise (PySem.W.sortLe_total (PyProof.Rows.listOrd PyProof.Rows.itemOrd) false fun b : TPr => PySem.W.keyToks (encP b)) L).imp fun h => le_P h)
end
/-- two rising lists of the same pairs are one -/
theorem leP_anti {p q : Str × Str} (h1 : leP p q) (h2 : leP q p) : p = q := by
  have lt_irr : ∀ {a : List Nat}, ¬ a < a := fun {a} => List.lt_irrefl a
  rcases h1 with h1 | ⟨e1, h1⟩
  · rcases h2 with h2 | ⟨e2, _⟩
    · exact absurd (List.lt_trans h1 h2) lt_irr
    · rw [e2] at h1
      exact absurd h1 lt_irr
  · rcases h2 with h2 | ⟨_, h2⟩
    · rw [e1] at h2
      exact absurd h2 lt_irr
    · have h4 := List.le_antisymm h1 h2
      have : p.2 = q.2 := str_same h4
      exact Prod.ext e1 this
theorem leP_one {xs ys : List (Str × Str)} (pm : xs.Perm ys) (h1 : xs.Pairwise leP) (h2 : ys.Pairwise leP) : xs = ys :=
  pm.eq_of_pairwise (fun a b _ _ => leP_anti) h1 h2
theorem ltP_le {p q : Str × Str} (h : ltP p q) : leP p q := by
  rcases h with h | ⟨e, h⟩
  · exact .inl h
  · exact .inr ⟨e, List.le_of_lt h⟩
end HF
/-! histories as data -/
namespace HF
open PySem PySem.Spec PyProof.Rows L2
def dHE (e : HE) : PyData := .tuple [.tuple (e.zs.map PyData.str), .list (e.row.map PyData.str)]
def dHs (es : List HE) : PyData := .list (es.map dHE)
theorem fine_he {e : HE} (h1 : ∀ z ∈ e.zs, Nm z) (h2 : ∀ z ∈ e.row, Nm z) (l1 : e.zs.length ≤ 12) (l2 : e.row.length ≤ 100) : Fine 2 1000 800 (dHE e) := by
  have f1 : Fine 1 1000 84 (.tuple (e.zs.map PyData.str)) := (Fine.tuple (fine_strs (m := 0) (w := 1000) h1) (by rw [List.length_map]; omega)).mono (by decide) (by decide) (by omega)
  have f2 : Fine 1 1000 700 (.list (e.row.map PyData.str)) := (Fine.list (fine_strs (m := 0) (w := 1000) h2) (by rw [List.length_map]; omega)).mono (by decide) (by decide) (by omega)
  exact (Fine.tuple (FineL.cons f1 (FineL.cons f2 FineL.nil)) (by decide : (2 : Nat) ≤ 1000)).mono (by decide) (by decide) (by decide : 84 + 1 + (700 + 1 + 0) ≤ 800)
theorem fine_hs {es : List HE} (h : ∀ e ∈ es, (∀ z ∈ e.zs, Nm z) ∧ (∀ z ∈ e.row, Nm z) ∧ e.zs.length ≤ 12 ∧ e.row.length ≤ 100) (hl : es.length ≤ 100) : Fine 3 1000 100000 (dHs es) := by
  have := FineL.of (m := 2) (w := 1000) (W := 800) (ds := es.map dHE) fun d hd => by
    obtain ⟨e, he, rfl⟩ := List.mem_map.mp hd
    obtain ⟨a, b, c, d⟩ := h e he
    exact fine_he a b c d
  rw [List.length_map] at this
  exact (Fine.list this (by rw [List.length_map]; omega)).mono (by decide) (by decide) (by omega)
theorem fine_prs {qs : List (Str × Str)} (h : ∀ q ∈ qs, Nm q.1 ∧ Nm q.2) (hl : qs.length ≤ 1000) : Fine 2 1000 (15 * qs.length) (.tuple (qs.map dPr)) := by
  have := FineL.of (m := 1) (w := 1000) (W := 14) (ds := qs.map dPr) fun d hd => by
    obtain ⟨q, hq, rfl⟩ := List.mem_map.mp hd
    obtain ⟨a, b⟩ := h q hq
    exact (Fine.tuple (FineL.cons (fine_str (m := 0) a) (FineL.cons (fine_str b) FineL.nil)) (by decide : (2 : Nat) ≤ 1000)).mono (by decide) (by decide) (by decide : 6 + 1 + (6 + 1 + 0) ≤ 14)
  rw [List.length_map] at this
  exact (Fine.tuple this (by rw [List.length_map]; omega)).mono (by decide) (by decide) (by omega)
theorem HsB.dp {K : PySem.W.Frag} {H : Hp} {S : Addr} {es : List HE} (h : HsB H S es) : Dp K H (.ref S) (dHs es) := by
  refine .lst (.inl (.inl h.1)) ?_
  have hh := h.2
  clear h
  induction es with
  | nil => exact .nil
  | cons e r ih =>
    obtain ⟨k1, k2, k3, _⟩ := hh e List.mem_cons_self
    exact .cons (.tup (.inl (.inl k1)) (.cons (.tup k2.sq (dp_strs _)) (.cons (.lst (.inl (.inl k3)) (dp_strs _)) .nil))) (ih fun x hx => hh x (List.mem_cons_of_mem _ hx))
theorem nw_strs2 {H H' : Hp} : ∀ {zs : List Str} {xs : List V}, NwAll H H' xs (lsAll (zs.map PyData.str)) → xs = zs.map V.str
  | [], _, h => by
    cases h
    rfl
  | z :: r, _, h => by
    cases h with
    | cons h1 h2 =>
      cases h1
      rw [nw_strs2 h2]
      rfl
theorem hst_nw {K : PySem.W.Frag} {H H' : Hp} : ∀ {es : List HE} {xs : List V}, NwAll H H' xs (lsAll (es.map dHE)) → ∃ fs : List HE, xs = fs.map (fun e => V.ref e.t) ∧ (∀ e ∈ fs, HEOk K H' e) ∧ fs.map (fun e => (e.zs, e.row)) = es.map (fun e => (e.zs, e.row))
  | [], _, h => by
    cases h
    exact ⟨[], rfl, (fun e he => nomatch he), rfl⟩
  | e :: r, _, h => by
    cases h with
    | cons h1 h2 =>
      obtain ⟨fs, rfl, f1, f2⟩ := hst_nw (K := K) h2
      cases h1 with
      | lst n1 g1 a1 =>
        rename_i t ys
        cases a1 with
        | cons b1 b2 =>
          cases b2 with
          | cons c1 c2 =>
            cases c2
            cases b1 with
            | lst n2 g2 a2 =>
              rename_i hh zs'
              cases c1 with
              | lst n3 g3 a3 =>
                rename_i aa rs'
                have e1 := nw_strs2 a2
                have e2 := nw_strs2 a3
                subst e1 e2
                refine ⟨⟨t, hh, aa, e.zs, e.row⟩ :: fs, rfl, fun x hx => ?_, by rw [List.map_cons, List.map_cons, f2]⟩
                rcases List.mem_cons.mp hx with rfl | hx
                · exact ⟨.inl (.inl (.inl g1)), .inl (.inl (.inl g2)), .inl (.inl (.inl g3))⟩
                · exact f1 x hx
theorem all_lets {es fs : List HE} (h : fs.map (fun e => (e.zs, e.row)) = es.map (fun e => (e.zs, e.row))) (p : Str × Str) : (fs.all fun e => letsP e p) = es.all fun e => letsP e p := by
  have g : ∀ xs : List HE, (xs.all fun e => letsP e p) = (xs.map (fun e => (e.zs, e.row))).all fun z => decide (refAt [p] z.1 z.2 = none) := fun xs => by
    rw [List.all_map]
    rfl
  rw [g, g, h]
end HF
/-! friends both ways -/
namespace HF
open PySem PySem.Spec PyProof.Rows L2
def Sym (qs : List (Str × Str)) : Prop := ∀ q ∈ qs, (q.2, q.1) ∈ qs
theorem Ch.rev {qs : List (Str × Str)} (hs : Sym qs) : ∀ {l : List Str}, Ch qs l → Ch qs l.reverse
  | [], _ => trivial
  | [a], _ => trivial
  | a :: b :: r, h => by
    have ih := Ch.rev hs (l := b :: r) h.2
    rw [List.reverse_cons, List.reverse_cons, List.append_assoc]
    rw [List.reverse_cons] at ih
    exact Ch.app (u := r.reverse) (x := b) (v := [a]) ih ⟨hs (a, b) h.1, trivial⟩
theorem Rng.rev {qs : List (Str × Str)} {zs ls : List Str} (hs : Sym qs) (h : Rng qs zs ls) : Rng qs zs ls.reverse := by
  obtain ⟨h1, h2, h3, h4⟩ := h
  cases ls with
  | nil => exact absurd h2 (by decide)
  | cons x r =>
    have h5 : Rng qs zs ([x] ++ r.reverse) := by
      have pm : ([x] ++ r.reverse).Perm (x :: r) := (List.reverse_perm r).cons x
      refine ⟨pm.nodup_iff.mpr h1, by rw [pm.length_eq]; exact h2, fun y hy => h3 y (pm.mem_iff.mp hy), ?_⟩
      have h6 := Ch.rev hs h4
      have e : ((x :: r) ++ (x :: r).take 1).reverse = ([x] ++ r.reverse) ++ ([x] ++ r.reverse).take 1 := by simp
      rwa [e] at h6
    rw [List.reverse_cons]
    exact h5.rot
theorem ld_sym1 {qs : List (Str × Str)} {zs ws : List Str} (hs : Sym qs) (nd : zs.Nodup) (pm : ws.Perm zs) (cl : ∀ q ∈ qs, q.2 ∈ zs ∧ q.1 ≠ q.2 ∧ q.1 ∈ zs) (h : ld zs ws qs = true) : ld ws zs qs = true := by
  have wnd := pm.nodup_iff.mpr nd
  have wcl : ∀ q ∈ qs, q.2 ∈ ws ∧ q.1 ≠ q.2 ∧ q.1 ∈ ws := fun q hq => ⟨pm.mem_iff.mpr (cl q hq).1, (cl q hq).2.1, pm.mem_iff.mpr (cl q hq).2.2⟩
  refine (ld_iff wnd wcl).mpr fun ls hr => ?_
  have hr2 : Rng qs zs ls := hr.perm pm.symm
  have h1 := (ld_iff nd cl).mp h ls.reverse (hr2.rev hs)
  have h2 := T_rev hr2.nd hr2.sub hr2.two
  have h3 := T_rev hr.nd hr.sub hr.two
  omega
theorem ld_sym {qs : List (Str × Str)} {zs ws : List Str} (hs : Sym qs) (nd : zs.Nodup) (pm : ws.Perm zs) (cl : ∀ q ∈ qs, q.2 ∈ zs ∧ q.1 ≠ q.2 ∧ q.1 ∈ zs) : ld zs ws qs = ld ws zs qs := by
  have wnd := pm.nodup_iff.mpr nd
  have wcl : ∀ q ∈ qs, q.2 ∈ ws ∧ q.1 ≠ q.2 ∧ q.1 ∈ ws := fun q hq => ⟨pm.mem_iff.mpr (cl q hq).1, (cl q hq).2.1, pm.mem_iff.mpr (cl q hq).2.2⟩
  rw [Bool.eq_iff_iff]
  exact ⟨ld_sym1 hs nd pm cl, ld_sym1 hs wnd pm.symm wcl⟩
theorem T_two {zs : List Str} {a b : Str} (ha : a ∈ zs) (hb : b ∈ zs) (ne : a ≠ b) : T zs [a, b] = 1 := by
  have h := T_rev (zs := zs) (ls := [a, b]) (by simp [ne]) (fun y hy => by
    rcases List.mem_cons.mp hy with rfl | hy
    · exact ha
    · rw [List.mem_singleton.mp hy]
      exact hb) (Nat.le_refl 2)
  have e1 : T zs [a, b] = uu zs a b + (uu zs b a + 0) := rfl
  have e2 : T zs [a, b].reverse = uu zs b a + (uu zs a b + 0) := rfl
  have e3 : [a, b].length = 2 := rfl
  omega
/-- rising, as the drawn ties are -/
theorem le_S {p q : Addr × List Str} {a b c d : Str} (e1 : p.2 = [a, b]) (e2 : q.2 = [c, d]) (h : PySem.W.dataLe false encS p q = true) : leP (a, b) (c, d) := by
  refine le_P (p := (p.1, (a, b))) (q := (q.1, (c, d))) ?_
  have h1 : (!PySem.W.dataLt (encS q) (encS p)) = true := h
  show (!PySem.W.dataLt (encP (q.1, (c, d))) (encP (p.1, (a, b)))) = true
  have f1 : encS p = encP (p.1, (a, b)) := by
    show PyData.tuple (p.2.map PyData.str) = _
    rw [e1]
    rfl
  have f2 : encS q = encP (q.1, (c, d)) := by
    show PyData.tuple (q.2.map PyData.str) = _
    rw [e2]
    rfl
  rw [← f1, ← f2]
  exact h1
theorem ties_le {zs : List Str} {L : SL} (hp : ∀ p ∈ L, OkP zs p) (h : L.Pairwise (fun p q => PySem.W.dataLe false encS p q = true)) : (L.map prOf).Pairwise leP := by
  rw [List.pairwise_map]
  refine List.Pairwise.imp_of_mem (fun {p q} hpm hqm hl => ?_) h
  obtain ⟨a, b, e1, _⟩ := hp p hpm
  obtain ⟨c, d, e2, _⟩ := hp q hqm
  have f1 : prOf p = (a, b) := by
    unfold prOf
    rw [e1]
  have f2 : prOf q = (c, d) := by
    unfold prOf
    rw [e2]
  rw [f1, f2]
  exact le_S e1 e2 hl
def swq (q : Str × Str) : Str × Str := (q.2, q.1)
/-- turned about, and rising, they are the same -/
theorem swq_same {qs ps : List (Str × Str)} (hs : Sym qs) (nd : qs.Nodup) (hq : qs.Pairwise leP) (pm : ps.Perm (qs.map swq)) (hp : ps.Pairwise leP) : ps = qs := by
  refine leP_one (pm.trans ?_) hp hq
  have inj : (qs.map swq).Nodup := List.pairwise_map.mpr (nd.imp fun {a b} h e => h (by
    unfold swq at e
    injection e with e1 e2
    exact Prod.ext e2 e1))
  refine (List.perm_ext_iff_of_nodup inj nd).mpr fun q => ⟨fun h => ?_, fun h => ?_⟩
  · obtain ⟨p, hp, rfl⟩ := List.mem_map.mp h
    exact hs p hp
  · exact List.mem_map.mpr ⟨(q.2, q.1), hs q h, rfl⟩
end HF
/-! texts of heaps and ties -/
namespace HF
open PySem PySem.Spec PyProof.Rows L2
abbrev bl1 : Str := " "
abbrev gt1 : Str := ">"
abbrev mn1 : Str := "-"
theorem lt_no {l : List Nat} (h : Lt l) {c : Nat} (hc : c < 97) : c ∉ l := fun hm => by
  have := h c hm
  omega
theorem nm_no {z : Str} (h : Nm z) {c : Nat} (hc : c < 97) : c ∉ TL.tl z := lt_no h.2.2 hc
/-- a tie as a word -/
def wd (q : Str × Str) : Str := q.1 ++ gt1 ++ q.2
theorem wd_join (q : Str × Str) : Txt.join gt1 [q.1, q.2] = wd q := by
  rw [TL.join_eq]
  rfl
theorem tl_wd (q : Str × Str) : TL.tl (wd q) = TL.tl q.1 ++ (62 :: TL.tl q.2) := by
  unfold wd
  rw [TL.tl_append, TL.tl_append, List.append_assoc]
  rfl
theorem split_wd {q : Str × Str} (h : Nm q.1 ∧ Nm q.2) : Txt.split (wd q) gt1 = [q.1, q.2] := by
  rw [← wd_join]
  refine TL.split_join (s := 62) (S := []) (by decide +kernel) (by decide +kernel) (by simp) fun p hp => ?_
  rcases List.mem_cons.mp hp with rfl | hp
  · exact nm_no h.1 (by decide)
  · rw [List.mem_singleton.mp hp]
    exact nm_no h.2 (by decide)
theorem split_heap {zs : List Str} (hne : zs ≠ []) (h : ∀ z ∈ zs, Nm z) : Txt.split (Txt.join bl1 zs) bl1 = zs :=
  TL.split_join (s := 32) (S := []) (by decide +kernel) (by decide +kernel) hne fun p hp => nm_no (h p hp) (by decide)
theorem split_ties {qs : List (Str × Str)} (hne : qs ≠ []) (h : ∀ q ∈ qs, Nm q.1 ∧ Nm q.2) : Txt.split (Txt.join bl1 (qs.map wd)) bl1 = qs.map wd := by
  refine TL.split_join (s := 32) (S := []) (by decide +kernel) (by decide +kernel) (fun e => hne (List.map_eq_nil_iff.mp e)) fun p hp => ?_
  obtain ⟨q, hq, rfl⟩ := List.mem_map.mp hp
  rw [tl_wd]
  intro hm
  rcases List.mem_append.mp hm with hm | hm
  · exact nm_no (h q hq).1 (by decide) hm
  · rcases List.mem_cons.mp hm with hm | hm
    · exact absurd hm (by decide)
    · exact nm_no (h q hq).2 (by decide) hm
/-- words by blanks, a sign for none -/
def byB (ys : List Str) : Str := if ys = [] then mn1 else Txt.join bl1 ys
theorem len_tl (x : Str) : x.length = (TL.tl x).length := by
  show x.cps.size = x.cps.toList.length
  rw [Array.length_toList]
theorem wd_len {q : Str × Str} (h : Nm q.1 ∧ Nm q.2) : 3 ≤ (wd q).length ∧ (wd q).length ≤ 13 := by
  rw [len_tl, tl_wd, List.length_append, List.length_cons]
  have h1 := h.1
  have h2 := h.2
  have a1 : 1 ≤ (TL.tl q.1).length := h1.1
  have a2 : (TL.tl q.1).length ≤ 6 := h1.2.1
  have b1 : 1 ≤ (TL.tl q.2).length := h2.1
  have b2 : (TL.tl q.2).length ≤ 6 := h2.2.1
  omega
theorem ties_not {qs : List (Str × Str)} (hne : qs ≠ []) (h : ∀ q ∈ qs, Nm q.1 ∧ Nm q.2) : Txt.join bl1 (qs.map wd) ≠ mn1 := fun e => by
  have h1 := split_ties hne h
  rw [e] at h1
  have h2 : Txt.split mn1 bl1 = [mn1] := by
    have := TL.split_join (y := bl1) (s := 32) (S := []) (by decide +kernel) (by decide +kernel) (parts := [mn1]) (by simp) (fun p hp => by
      rw [List.mem_singleton.mp hp]
      decide +kernel)
    rw [TL.join_eq] at this
    exact this
  rw [h2] at h1
  cases qs with
  | nil => exact hne rfl
  | cons q r =>
    rw [List.map_cons] at h1
    injection h1 with h3 h4
    have h5 := (wd_len (h q List.mem_cons_self)).1
    rw [← h3] at h5
    have h6 : (mn1 : Str).length = 1 := by decide +kernel
    omega
theorem joinL_len (S : List Nat) : ∀ ps : List (List Nat), (TL.joinL S ps).length ≤ (ps.map List.length).sum + ps.length * S.length
  | [] => Nat.zero_le _
  | [p] => by
    show p.length ≤ (p.length + 0) + 1 * S.length
    omega
  | p :: q :: r => by
    have ih := joinL_len S (q :: r)
    show (p ++ (S ++ TL.joinL S (q :: r))).length ≤ (p.length + ((q :: r).map List.length).sum) + ((q :: r).length + 1) * S.length
    rw [List.length_append, List.length_append, Nat.succ_mul]
    omega
theorem joinL_mem (S : List Nat) {c : Nat} : ∀ {ps : List (List Nat)}, c ∈ TL.joinL S ps → c ∈ S ∨ ∃ p ∈ ps, c ∈ p
  | [], h => nomatch h
  | [p], h => .inr ⟨p, List.mem_cons_self, h⟩
  | p :: q :: r, h => by
    have h : c ∈ p ++ (S ++ TL.joinL S (q :: r)) := h
    rcases List.mem_append.mp h with h | h
    · exact .inr ⟨p, List.mem_cons_self, h⟩
    · rcases List.mem_append.mp h with h | h
      · exact .inl h
      · rcases joinL_mem S h with h | ⟨x, hx, h⟩
        · exact .inl h
        · exact .inr ⟨x, List.mem_cons_of_mem _ hx, h⟩
theorem sum_le {ys : List Nat} {m : Nat} (h : ∀ y ∈ ys, y ≤ m) : ys.sum ≤ ys.length * m := by
  induction ys with
  | nil => simp
  | cons y r ih =>
    rw [List.sum_cons, List.length_cons, Nat.succ_mul]
    have h1 := h y List.mem_cons_self
    have h2 := ih fun z hz => h z (List.mem_cons_of_mem _ hz)
    omega
theorem byB_len {ys : List Str} (h : ∀ y ∈ ys, y.length ≤ 13) (hl : ys.length ≤ 1000) : (byB ys).length ≤ 14001 := by
  unfold byB
  split
  · have h6 : (mn1 : Str).length = 1 := by decide +kernel
    omega
  · rw [len_tl, TL.join_eq, TL.tl_join]
    have h1 := joinL_len (TL.tl bl1) (ys.map TL.tl)
    have h2 : ((ys.map TL.tl).map List.length).sum ≤ ys.length * 13 := by
      have := sum_le (ys := (ys.map TL.tl).map List.length) (m := 13) (fun y hy => by
        obtain ⟨l, hl, rfl⟩ := List.mem_map.mp hy
        obtain ⟨z, hz, rfl⟩ := List.mem_map.mp hl
        have := h z hz
        rw [len_tl] at this
        exact this)
      rw [List.length_map, List.length_map] at this
      exact this
    rw [List.length_map] at h1
    have h3 : (TL.tl bl1).length = 1 := by decide +kernel
    rw [h3] at h1
    omega
theorem sum_len {ys : List Str} (h : ∀ y ∈ ys, y.length ≤ 13) (hl : ys.length ≤ 1000) : (ys.map (·.length)).sum + ys.length * (bl1 : Str).length ≤ 16777216 := by
  have h1 := sum_le (ys := ys.map (·.length)) (m := 13) (fun y hy => by
    obtain ⟨z, hz, rfl⟩ := List.mem_map.mp hy
    exact h z hz)
  rw [List.length_map] at h1
  have h3 : (bl1 : Str).length = 1 := by decide +kernel
  rw [h3]
  omega
theorem byB_ok {ys : List Str} (h : ∀ y ∈ ys, PyData.strOk y = true) : PyData.strOk (byB ys) = true := by
  unfold byB
  split
  · decide +kernel
  · unfold PyData.strOk
    rw [← Array.all_toList, List.all_eq_true]
    intro c hc
    have hc : c ∈ TL.tl (Txt.join bl1 ys) := hc
    rw [TL.join_eq, TL.tl_join] at hc
    rcases joinL_mem _ hc with hc | ⟨l, hl, hc⟩
    · have : TL.tl bl1 = [32] := by decide +kernel
      rw [this, List.mem_singleton] at hc
      rw [hc]
      decide
    · obtain ⟨z, hz, rfl⟩ := List.mem_map.mp hl
      have h1 := h z hz
      unfold PyData.strOk at h1
      rw [← Array.all_toList, List.all_eq_true] at h1
      exact h1 c hc
theorem wrd_ok {q : Str × Str} (h : Nm q.1 ∧ Nm q.2) : PyData.strOk (wd q) = true := by
  unfold PyData.strOk
  rw [← Array.all_toList, List.all_eq_true]
  intro c hc
  have hc : c ∈ TL.tl (wd q) := hc
  rw [tl_wd] at hc
  have lt : ∀ {z : Str}, Nm z → c ∈ TL.tl z → c < 0x110000 := fun hz hm => by
    have := hz.2.2 c hm
    omega
  refine decide_eq_true ?_
  rcases List.mem_append.mp hc with hc | hc
  · exact lt h.1 hc
  · rcases List.mem_cons.mp hc with hc | hc
    · rw [hc]
      decide
    · exact lt h.2 hc
/-- pairs in a list or a tuple -/
def Pqw (K : PySem.W.Frag) (H : Hp) (l : Addr) (qs : List (Str × Str)) : Prop := ∃ as : List Addr, Sq K H l (as.map V.ref) ∧ as.length = qs.length ∧ ∀ (i : Nat) (a : Addr) (q : Str × Str), as[i]? = some a → qs[i]? = some q → Sq K H a [.str q.1, .str q.2]
theorem Pqw.of {K : PySem.W.Frag} {H : Hp} {l : Addr} {qs : List (Str × Str)} (h : PqA K H l qs) : Pqw K H l qs := by
  rcases h with ⟨as, h1, h2, h3⟩ | ⟨as, h1, h2, h3⟩ | ⟨as, h1, h2, h3⟩
  · exact ⟨as, .inr h1, h2, fun i a q e f => .inr (h3 i a q e f)⟩
  · exact ⟨as, .inl h1, h2, fun i a q e f => .inl (h3 i a q e f)⟩
  · exact ⟨as, h1, h2, h3⟩
/-- tuple(a list) -/
def rTupF (K : PySem.W.Frag) : List V → Hp → VK → Prop := fun us H Q => ∃ p ys, us = [.ref p] ∧ SqL K H p ys ∧ ∀ l ob, H l = none → ob.cls = .type "tuple" → ob.dict = none → Q (.ref l) (upd H l (.frz ob (.tup ys)))
theorem asg_cut {te : TE} {i : Nat} {u : TS} {D : Ends} {σ : L2.St} {H : Hp} (R : V → Hp → Prop) (h2 : ∀ v H1, R v H1 → u D (σ.set i (some v)) H1) (h1 : (∀ v H1, R v H1 → u D (σ.set i (some v)) H1) → te σ H (fun v H1 => u D (σ.set i (some v)) H1)) : tSeq (tAsg te (gName i)) u D σ H := h1 h2
theorem byB_nil : byB [] = mn1 := if_pos rfl
theorem byB_ne {ys : List Str} (h : ys ≠ []) : byB ys = Txt.join bl1 ys := if_neg h
theorem heap_yes {zs : List Str} (hne : zs ≠ []) (hnd : zs.Nodup) (hnm : ∀ z ∈ zs, Nm z) : isHeapB (.tuple (zs.map PyData.str)) = true := by
  show (!(zs.map PyData.str).isEmpty && ((zs.map PyData.str).all isName && decide (((zs.map PyData.str).map strD).Nodup))) = true
  have e : (zs.map PyData.str).map strD = zs := by
    rw [List.map_map]
    exact List.map_id' zs
  rw [e, decide_eq_true hnd]
  have h1 : (zs.map PyData.str).all isName = true := List.all_eq_true.mpr fun d hd => by
    obtain ⟨z, hz, rfl⟩ := List.mem_map.mp hd
    exact isNm_iff.mpr (hnm z hz)
  rw [h1]
  cases zs with
  | nil => exact absurd rfl hne
  | cons _ _ => rfl
def tJoin (ts : List TE) : TE := fun σ H Q => tJs ts Str.empty σ H fun out H1 => Q (.str out) H1
theorem pe_joinedD {X : Cx} {v1 v2 : Expr} {rest : List Expr} {ts : List TE} {pos : Pos} (h : PJ X (v1 :: v2 :: rest) ts) : PE X (.JoinedStr (v1 :: v2 :: rest) pos) (tJoin ts) := pe_joined h
theorem lt_of_le {p q : Str × Str} (h : leP p q) (ne : p ≠ q) : ltP p q := by
  rcases h with h | ⟨e, h⟩
  · exact .inl h
  · refine .inr ⟨e, ?_⟩
    rcases Decidable.em (p.2.cps.toList < q.2.cps.toList) with hl | hl
    · exact hl
    · exact absurd (Prod.ext e (str_same (List.le_antisymm h (List.not_lt.mp hl)))) ne
theorem Ties.data {zs : List Str} {H : Hp} {r : Addr} {L : SL} (hT : Ties zs H r L) : dTies L = .tuple ((L.map prOf).map dPr) := by
  show PyData.tuple _ = _
  congr 1
  rw [List.map_map]
  refine List.map_congr_left fun a ha => ?_
  obtain ⟨x, y, h1, _⟩ := (hT.2.1 a ha).2
  have f1 : prOf a = (x, y) := by
    unfold prOf
    rw [h1]
  show _ = dPr (prOf a)
  rw [f1]
  show PyData.tuple (a.2.map PyData.str) = _
  rw [h1]
  rfl
theorem Ties.nodup {zs : List Str} {H : Hp} {r : Addr} {L : SL} (hT : Ties zs H r L) : (L.map prOf).Nodup := by
  refine List.pairwise_map.mpr (List.Pairwise.imp_of_mem (fun {a b} ha hb hab e => hab ?_) (List.pairwise_map.mp hT.2.2.1))
  obtain ⟨x, y, h1, _⟩ := (hT.2.1 a ha).2
  obtain ⟨z, u, h2, _⟩ := (hT.2.1 b hb).2
  have f1 : prOf a = (x, y) := by
    unfold prOf
    rw [h1]
  have f2 : prOf b = (z, u) := by
    unfold prOf
    rw [h2]
  rw [f1, f2] at e
  injection e with e5 e6
  rw [h1, h2, e5, e6]
theorem Ties.rise {zs : List Str} {H : Hp} {r : Addr} {L : SL} (hT : Ties zs H r L) : (L.map prOf).Pairwise ltP := by
  have h1 := ties_le (fun p hp => (hT.2.1 p hp).2) hT.2.2.2
  have h2 : (L.map prOf).Pairwise (· ≠ ·) := hT.nodup
  exact h1.imp₂ (fun a b x y => lt_of_le x y) h2
theorem lay_words : ∀ {ys : List Str}, (∀ y ∈ ys, PyData.strOk y = true) → PyData.canLayAll0 (ys.map PyData.str) = true
  | [], _ => rfl
  | y :: r, h => by
    show (PyData.strOk y && PyData.canLayAll0 (r.map PyData.str)) = true
    rw [h y List.mem_cons_self, lay_words fun z hz => h z (List.mem_cons_of_mem _ hz)]
    rfl
theorem dep_words : ∀ ys : List Str, PyData.depthAll (ys.map PyData.str) = 0
  | [] => rfl
  | y :: r => by
    show max 0 (PyData.depthAll (r.map PyData.str)) = 0
    rw [dep_words r]
    rfl
theorem shp_words {ys : List Str} (h : ∀ y ∈ ys, PyData.strOk y = true) : SeqAt.shaped (.list (ys.map PyData.str)) = true := by
  show (PyData.canLayAll0 (ys.map PyData.str) && decide (PyData.depthAll (ys.map PyData.str) + 1 ≤ 64)) = true
  rw [lay_words h, dep_words]
  rfl
end HF
/-! repr of a list with a dict of texts by texts in it -/
namespace HF
open PySem PySem.Spec PyProof.Rows L2
/-- without lists and dicts -/
def flatD : PyData → Bool
  | .none | .bool _ | .int _ | .str _ => true
  | .tuple xs => flatAll xs
  | .list _ | .dict _ => false
where flatAll : List PyData → Bool
  | [] => true
  | x :: xs => flatD x && flatAll xs
mutual
theorem reads_flat {h : Heap} : ∀ {v : Value} {d : PyData} {as : List Addr}, Reads h v d as → flatD d = true → as = []
  | _, _, _, .none, _ => rfl
  | _, _, _, .bool _, _ => rfl
  | _, _, _, .int _ _, _ => rfl
  | _, _, _, .str _ _, _ => rfl
  | _, _, _, .list _ _ _ _, e => nomatch e
  | _, _, _, .tuple _ _ _ r, e => readsAll_flat r e
  | _, _, _, .dict _ _ _ _ _, e => nomatch e
theorem readsAll_flat {h : Heap} : ∀ {vs : List Value} {ds : List PyData} {as : List Addr}, ReadsAll h vs ds as → flatD.flatAll ds = true → as = []
  | _, _, _, .nil, _ => rfl
  | _, _, _, .cons r rs, e => by
    have e2 := Bool.and_eq_true_iff.mp e
    rw [reads_flat r e2.1, readsAll_flat rs e2.2]
    rfl
end
theorem ReadsAll.app {h : Heap} : ∀ {vs ws : List Value} {ds es : List PyData} {as bs : List Addr}, ReadsAll h vs ds as → ReadsAll h ws es bs → ReadsAll h (vs ++ ws) (ds ++ es) (as ++ bs)
  | _, _, _, _, _, _, .nil, r => r
  | _, _, _, _, _, _, .cons a t, r => by
    rw [List.append_assoc]
    exact .cons a (ReadsAll.app t r)
/-- a dict of texts by texts -/
abbrev dkS (ks : List (Str × Str)) : List (Key × V) := ks.map fun k => ((Sum.inr k.1 : Key), V.str k.2)
abbrev dSS (ks : List (Str × Str)) : PyData := .dict (ks.map fun k => (PyData.str k.1, PyData.str k.2))
theorem pairs_read {P : Program} {w : World} {h : Heap} : ∀ {ks : List (Str × Str)} {vs : List (Key × Value)} {es : List DictEntry}, KV (dkS ks) vs → Pairs (mixKind P w) es vs → ReadsAll h (es.map (·.key)) ((ks.map fun k => (PyData.str k.1, PyData.str k.2)).map (·.1)) [] ∧ ReadsAll h (es.map (·.val)) ((ks.map fun k => (PyData.str k.1, PyData.str k.2)).map (·.2)) []
  | [], _, _, .nil, .nil => ⟨.nil, .nil⟩
  | k :: ks, _ :: _, en :: _, .cons r rs, .cons p1 p2 ps => by
    obtain ⟨i1, i2⟩ := pairs_read (h := h) rs ps
    obtain ⟨r1, r2⟩ := r
    rw [← r1] at p1
    have p1 : keyIs (Sum.inr k.1) en.key = true := p1
    obtain ⟨t, e⟩ : ∃ t, en.key = Value.str k.1 t := by
      rcases keyIs_shape p1 with ⟨i, t, e1, _⟩ | ⟨x, t, e1, e2⟩
      · exact nomatch e1
      · injection e1 with e1
        exact ⟨t, e1 ▸ e2⟩
    obtain ⟨t2, e2⟩ := r2
    refine ⟨?_, ?_⟩
    · rw [List.map_cons, List.map_cons, List.map_cons, e]
      exact ReadsAll.cons (as := []) (.str _ _) i1
    · rw [List.map_cons, List.map_cons, List.map_cons, p2, e2]
      exact ReadsAll.cons (as := []) (.str _ _) i2
section
variable {X : Cx}
/-- a list written out: no module table -/
def tLstN (t : TA) : TE := fun σ H Q => t σ H fun xs H1 => xs.length ≤ sizeLine ∧ ∀ l, H1 l = none → l ≠ sysModules → Q (.ref l) (upd H1 l (.lst xs))
theorem pe_lstN {es : List Expr} {t : TA} {pos : Pos} (h : PA X es t) : PE X (.List es pos) (tLstN t) := by
  refine ⟨fun pins s σ H Q I hq => ?_⟩
  refine wpAny_List_spliced (thn (h.run pos pins s σ H _ I hq) fun us s1 ⟨xs, H1, I1, r, z, q⟩ => ⟨by rw [← r.length]; exact z, ?_⟩)
  have hf : H1 s1.heap.objs.size = none := I1.hok.fresh (Nat.le_refl _)
  refine ⟨.ref s1.heap.objs.size, upd H1 s1.heap.objs.size (.lst xs), I1.laid (t' := s1.toks) (fun b u e => Heap.get?_push_of_some _ e) (Nat.le_refl _) ?_, rfl, q _ hf (Nat.ne_of_gt I1.big)⟩
  exact ⟨z, us, 0, r, Heap.get?_push_size _ rfl⟩
/-- repr([.., a dict]) -/
def rRepM (K : PySem.W.Frag) : List V → Hp → VK → Prop := fun us H Q => ∃ (a D : Addr) (xs : List V) (ds : List PyData) (ks : List (Str × Str)), us = [.ref a] ∧ H a = some (.lst (xs ++ [.ref D])) ∧ a ≠ sysModules ∧ DpAll K H xs ds ∧ flatD.flatAll ds = true ∧ H D = some (.dK (dkS ks)) ∧
  (PyData.list (ds ++ [dSS ks])).showable = true ∧ (PyData.list (ds ++ [dSS ks])).depth < 60 ∧ (PyData.list (ds ++ [dSS ks])).shown.length ≤ sizeLine ∧ Q (.str (PyData.list (ds ++ [dSS ks])).shown) H
theorem call_reprM (hg : X.A.guards = some []) (hu : X.A.units + 64 < cLine) : CallR X (.builtin "repr") (rRepM X.K) := by
  intro pins st σ H us ws Q I rel hyp
  obtain ⟨a, D, xs, ds, ks, rfl, ha, hna, hd, hfl, hD, hs, hdep, hz, q⟩ := hyp
  obtain ⟨wv, rfl, rw1⟩ := vals1 rel
  cases rw1
  obtain ⟨_, its, n, hv, hg2⟩ := I.hok a _ ha
  obtain ⟨_, hnD, vs, kv, o, es, ep, o1, o2, o3, _, prs, _⟩ := dk_of I.hok hD
  obtain ⟨u1, u2, rfl, v1, v2⟩ := StX.vals_split hv
  obtain ⟨as, r1⟩ := Dp.readsAll I ds _ _ hd v1
  have eas := readsAll_flat r1 hfl
  subst eas
  obtain ⟨k1, k2⟩ := pairs_read (h := st.heap) kv prs
  have rD : Reads st.heap (.ref D) (dSS ks) (D :: [] ++ []) := .dict o1 o2.1 o3 k1 k2
  have r2 : ReadsAll st.heap u2 [dSS ks] ((D :: [] ++ []) ++ []) := by
    cases v2 with
    | cons rr tt =>
      cases tt
      cases rr
      exact .cons rD .nil
  have rL : Reads st.heap (.ref a) (.list (ds ++ [dSS ks])) (a :: ([] ++ ((D :: [] ++ []) ++ []))) := .list hg2 rfl rfl (by simpa using ReadsAll.app r1 r2)
  refine repr_of_reads' rL hs (fun _ hm => ?_) hg (by omega) (fun _ _ e => e) (fun h1 u tk kp => ⟨.str _, H, I.kept (t' := tk) kp, ⟨u, rfl⟩, q⟩) hz
  have hm : sysModules ∈ [a, D] := hm
  rcases List.mem_cons.mp hm with e | hm
  · exact hna e.symm
  · have e := List.mem_singleton.mp hm
    rw [← e] at hnD
    exact absurd hnD (by simp)
end
end HF
/-! sorted(a tuple of pairs), min(a list of texts), dict of texts -/
namespace HF
open PySem PySem.Spec PyProof.Rows L2
theorem merge_str {zs : List Str} (g : Str → Str) (nd : zs.Nodup) : mergeK [] (dkS (zs.map fun x => (x, g x))) = dkS (zs.map fun x => (x, g x)) := by
  have go : ∀ (r a : List Str), (a ++ r).Nodup → (dkS (r.map fun x => (x, g x))).foldl (fun acc kv => putK acc kv.1 kv.2) (dkS (a.map fun x => (x, g x))) = dkS ((a ++ r).map fun x => (x, g x)) := fun r => by
    induction r with
    | nil =>
      intro a _
      rw [List.append_nil]
      rfl
    | cons x r ih =>
      intro a hn
      have hx : x ∉ a := fun z => (List.nodup_append.mp hn).2.2 x z x List.mem_cons_self rfl
      show (dkS (r.map fun x => (x, g x))).foldl _ (putK (dkS (a.map fun x => (x, g x))) (Sum.inr x) (V.str (g x))) = _
      have eo : dkS (a.map fun x => (x, g x)) = a.map fun x => ((Sum.inr x : Key), V.str (g x)) := by
        rw [dkS, List.map_map]
        rfl
      rw [eo, putK_new _ (keys_out (g := fun x => V.str (g x)) hx), ← eo]
      have e : dkS (a.map fun x => (x, g x)) ++ [((Sum.inr x : Key), V.str (g x))] = dkS ((a ++ [x]).map fun x => (x, g x)) := by
        rw [List.map_append, dkS, dkS, List.map_append]
        rfl
      rw [e, ih (a ++ [x]) (by rw [List.append_assoc]; exact hn), List.append_assoc]
      rfl
  exact go zs [] nd
theorem minD_strs : ∀ (xs : List Str) (x : Str), ∃ m, PySem.W.minD (.str x) (xs.map PyData.str) = .str m ∧ m ∈ x :: xs ∧ ∀ y ∈ x :: xs, m.cps.toList ≤ y.cps.toList
  | [], x => ⟨x, rfl, List.mem_cons_self, fun y hy => by rw [List.mem_singleton.mp hy]; exact List.le_refl _⟩
  | y :: ys, x => by
    have e : PySem.W.minD (.str x) ((y :: ys).map PyData.str) = PySem.W.minD (if PySem.W.dataLt (.str y) (.str x) then PyData.str y else .str x) (ys.map PyData.str) := rfl
    rw [e, PySem.W.dataLt_str]
    by_cases h : y.cps.toList < x.cps.toList
    · rw [decide_eq_true h, if_pos rfl]
      obtain ⟨m, e1, e2, e3⟩ := minD_strs ys y
      refine ⟨m, e1, List.mem_cons_of_mem _ e2, fun z hz => ?_⟩
      rcases List.mem_cons.mp hz with rfl | hz
      · exact List.le_trans (e3 y List.mem_cons_self) (List.le_of_lt h)
      · exact e3 z hz
    · rw [decide_eq_false h, if_neg (by decide)]
      obtain ⟨m, e1, e2, e3⟩ := minD_strs ys x
      refine ⟨m, e1, ?_, fun z hz => ?_⟩
      · rcases List.mem_cons.mp e2 with e | e
        · exact e ▸ List.mem_cons_self
        · exact List.mem_cons_of_mem _ (List.mem_cons_of_mem _ e)
      · rcases List.mem_cons.mp hz with rfl | hz
        · exact e3 z List.mem_cons_self
        · rcases List.mem_cons.mp hz with rfl | hz
          · exact List.le_trans (e3 x List.mem_cons_self) (List.not_lt.mp h)
          · exact e3 z (List.mem_cons_of_mem _ hz)
section
variable {X : Cx}
/-- min(a list of texts) -/
def rMinT (K : PySem.W.Frag) : List V → Hp → VK → Prop := fun us H Q => ∃ (l : Addr) (x : Str) (xs : List Str), us = [V.ref l] ∧ SqL K H l ((x :: xs).map V.str) ∧ ∀ m, m ∈ x :: xs → (∀ y ∈ x :: xs, m.cps.toList ≤ y.cps.toList) → Q (.str m) H
theorem cr_minT (hc : X.calm = true) (hu : X.A.units + 64 < cLine) : CallR X (.builtin "min") (rMinT X.K) := by
  intro pins st σ H us ws Q I rel hyp
  obtain ⟨l, x, xs, rfl, hl, q⟩ := hyp
  rw [Vals.ref1 rel]
  obtain ⟨its, rv, pl, hz⟩ := I.list hl
  have dp : ∀ zs : List Str, DpAll X.K H (zs.map V.str) (zs.map PyData.str) := fun zs => by
    induction zs with
    | nil => exact .nil
    | cons z r ih => exact .cons (.str _) ih
  obtain ⟨as, r1⟩ := Dp.readsAll I ((x :: xs).map PyData.str) _ _ (dp _) rv
  have al : PySem.W.AlikeAll (PyData.str x :: xs.map PyData.str) := ⟨fun a ha b hb => by
    obtain ⟨a, _, rfl⟩ := List.mem_map.mp (show a ∈ (x :: xs).map PyData.str from ha)
    obtain ⟨b, _, rfl⟩ := List.mem_map.mp (show b ∈ (x :: xs).map PyData.str from hb)
    rfl, fun a ha => by
    obtain ⟨a, _, rfl⟩ := List.mem_map.mp (show a ∈ (x :: xs).map PyData.str from ha)
    exact fun e => nomatch e⟩
  obtain ⟨m, e1, e2, e3⟩ := minD_strs xs x
  refine PySem.W.min_list_data (I.ok.hd hc) pl.isList (x := .str x) (xs := xs.map PyData.str) (by simpa using r1) al (by have := depth_strs (x :: xs); rw [List.map_cons] at this; rw [this]; omega) fun i v h' tk bs hv hr hk => ?_
  rw [e1] at hr
  cases hr with
  | str _ t => exact ⟨.str m, H, I.kept (t' := tk) hk, ⟨t, rfl⟩, q m e2 e3⟩
/-- sorted(t), t a tuple of pairs of texts -/
def rSortTP (K : PySem.W.Frag) : List V → Hp → VK → Prop := fun us H Q => ∃ (l : Addr) (L : List TPr), us = [V.ref l] ∧ SqT K H l (rfs L) ∧ (∀ p ∈ L, SqT K H p.1 [.str p.2.1, .str p.2.2]) ∧ L.length ≤ 1000 ∧
  ∀ (L' : List TPr) (p : Addr), L'.Perm L → (L'.map (·.2)).Pairwise leP → H p = none → Q (.ref p) (upd H p (.lst (rfs L')))
theorem cr_sortTP (hu : X.A.units + 64 < cLine) : CallR X (.builtin "sorted") (rSortTP X.K) := by
  intro pins st σ H us ws Q I rel hyp
  obtain ⟨l, L, rfl, hl, hat, few, q⟩ := hyp
  rw [Vals.ref1 rel]
  obtain ⟨its, rv, ⟨ob, h1, h2, n, h3⟩, hz⟩ := I.tuple hl
  have e := refsP rv
  subst e
  have pm := List.mergeSort_perm L (PySem.W.dataLe false encP)
  have hz2 : (rfs (L.mergeSort (PySem.W.dataLe false encP))).length ≤ sizeLine := by
    rw [rfs_len, pm.length_eq, sizeLine_eq]
    omega
  refine Calls.call_function_entry kind_sorted plain_sorted entry_sorted (args_sorted1 _) ?_
  unfold Builtin.«sorted»
  refine wpAny_bind (m := checkCount "sorted" 1 1 _) (wpAny_pure ?_)
  refine wpAny_bind (wpAny_collect_seq l (.inr rfl) h1 h2 h3 (fun h4 kp => ?_) (by rw [List.size_toArray, List.length_map, sizeLine_eq]; omega))
  show wpAny _ _ (newList (L.map fun p => Value.ref p.1) >>= _) _ _ _
  refine wpAny_bind (wpAny_newList ?_ (by rw [List.length_map, sizeLine_eq]; omega))
  have hoL : (h4.push (seqObj "list" (L.map fun p => Value.ref p.1).toArray 0)).get? h4.objs.size = some (seqObj "list" (L.map fun p => Value.ref p.1).toArray 0) := Heap.get?_push_size _ rfl
  have I4 : Inv X pins σ H { st with heap := h4 } := I.kept (t' := st.toks) kp
  have er : ∀ {M : List TPr}, (∀ p ∈ M, SqT X.K H p.1 [.str p.2.1, .str p.2.2]) → PySem.W.EachIs (fun v p => ∃ as, Reads (h4.push (seqObj "list" (L.map fun p => Value.ref p.1).toArray 0)) v (encP p) as ∧ ∀ a : Addr, a ∉ as) (M.map fun p => Value.ref p.1) M := fun {M} => by
    induction M with
    | nil => exact fun _ => .nil
    | cons p r ih =>
      intro h
      obtain ⟨as, h1⟩ := Dp.reads I4 (encP p) (.ref p.1) (.ref p.1) (.tup (h p List.mem_cons_self) (.cons (.str _) (.cons (.str _) .nil))) rfl
      have e0 := reads_flat h1 rfl
      subst e0
      exact .cons ⟨[], PySem.W.reads_keeps (fun b u e => Heap.get?_push_of_some _ e) h1, fun _ z => nomatch z⟩ (ih fun q hq => h q (List.mem_cons_of_mem _ hq))
  refine wpAny_bind (wpAny_holding (PySem.W.list_sort_data (s := { st with heap := h4.push (seqObj "list" (L.map fun p => Value.ref p.1).toArray 0) }) (enc := encP) hoL (each_P L) ((er hat).mono fun v x ⟨as, g1, g2⟩ => ⟨as, g1, g2 _⟩) (alike_P L) (sortable_P L) (by rw [sizeLine_eq]; omega)
    (fun b _ => by show X.A.units + 1 + 1 + 1 < cLine; omega) fun out hout eo => ?_))
  obtain ⟨c, hc⟩ := sortedHeap_at (vs := L.map fun p => Value.ref p.1) (out := List.toArray out) hoL
  have hv : Vals (rfs (L.mergeSort (PySem.W.dataLe false encP))) out := by
    rw [eachP_out eo]
    exact valsP _
  refine wpAny_pure ⟨_, rfl, .ref h4.objs.size, _, I4.laid (t' := st.toks) (o := .lst (rfs (L.mergeSort (PySem.W.dataLe false encP)))) (fun b u e => ?_) (Nat.le_refl _) ⟨hz2, out, c, hv, hc⟩, rfl, q _ _ pm (List.pairwise_map.mpr ((PySem.W.sort_pairwise (PySem.W.sortLe_total (PyProof.Rows.listOrd PyProof.Rows.itemOrd) false fun b : TPr => PySem.W.keyToks (encP b)) L).imp fun h => le_P h)) (I4.hok.fresh (Nat.le_refl _))⟩
  have lt := Heap.lt_size e
  show (sortedHeap (h4.push (seqObj "list" _ 0)) h4.objs.size _ _).get? b = some u
  rw [sortedHeap_old (Nat.ne_of_lt lt) (by rw [size_push']; exact Nat.lt_succ_of_lt lt)]
  exact Heap.get?_push_of_some _ e
end
end HF
/-! the fewest goings as one number; the first of the shortest rows -/
namespace HF
open PySem PySem.Spec PyProof.Rows L2
theorem least_nat {P : Nat → Prop} : ∀ n, P n → ∃ m, P m ∧ ∀ k, P k → m ≤ k := by
  intro n
  induction n using Nat.strongRecOn with
  | _ n ih =>
    intro h
    by_cases e : ∃ k, k < n ∧ P k
    · obtain ⟨k, h1, h2⟩ := e
      exact ih k h1 h2
    · exact ⟨n, h, fun k hk => Nat.le_of_not_lt fun hl => e ⟨k, hl, hk⟩⟩
theorem lst_ex {zs ws : List Str} {qs : List (Str × Str)} {p : Str → Int} (hp : Pot zs ws qs p) : ∃ g, Lst zs ws qs g := by
  have hs := hp.sol
  have key : ∀ x, ∃ n : Nat, (∃ h, Sol zs ws qs h ∧ h x = (n : Int)) ∧ ∀ h, Sol zs ws qs h → (n : Int) ≤ h x := fun x => by
    obtain ⟨n, h1, h2⟩ := least_nat (P := fun n => ∃ h, Sol zs ws qs h ∧ h x = (n : Int)) (1 + p x).toNat ⟨_, hs, by have := hs.nn x; have this : 0 ≤ 1 + p x := this; show 1 + p x = _; omega⟩
    refine ⟨n, h1, fun h hh => ?_⟩
    have h3 := hh.nn x
    have := h2 (h x).toNat ⟨h, hh, by omega⟩
    omega
  refine ⟨fun x => ((Classical.choose (key x) : Nat) : Int), ⟨fun x => Int.natCast_nonneg _, fun i x hx hf j y hj hy => ?_, fun q hq h0 => ?_⟩, fun g' hg x => (Classical.choose_spec (key x)).2 g' hg⟩
  · obtain ⟨⟨h, hh, e⟩, _⟩ := Classical.choose_spec (key y)
    show 1 ≤ ((Classical.choose (key y) : Nat) : Int)
    rw [← e]
    exact hh.up i x hx (hf.imp (fun z => Int.lt_of_lt_of_le z ((Classical.choose_spec (key x)).2 h hh)) id) j y hj hy
  · obtain ⟨⟨h, hh, e⟩, _⟩ := Classical.choose_spec (key q.2)
    have h1 := (Classical.choose_spec (key q.1)).2 h hh
    have h2 := hh.ed q hq (Int.lt_of_lt_of_le h0 h1)
    show ((Classical.choose (key q.1) : Nat) : Int) + gn zs ws q ≤ ((Classical.choose (key q.2) : Nat) : Int)
    rw [← e]
    omega
theorem ld_ex {zs ws : List Str} {qs : List (Str × Str)} (h : ld zs ws qs = true) : ∃ p, Pot zs ws qs p := @of_decide_eq_true _ (Classical.propDecidable _) h
open Classical in
noncomputable def fw (zs ws : List Str) (qs : List (Str × Str)) : Int := if h : ∃ g, Lst zs ws qs g then tot zs (Classical.choose h) else 0
theorem fw_eq {zs ws : List Str} {qs : List (Str × Str)} {g : Str → Int} (hL : Lst zs ws qs g) : fw zs ws qs = tot zs g := by
  have h : ∃ g, Lst zs ws qs g := ⟨g, hL⟩
  unfold fw
  rw [dif_pos h, (Classical.choose_spec h).one hL]
theorem tot_le {f g : Str → Int} : ∀ {zs : List Str}, (∀ z ∈ zs, f z ≤ g z) → tot zs f ≤ tot zs g
  | [], _ => Int.le_refl _
  | a :: r, h => by
    have h1 := h a List.mem_cons_self
    have h2 := tot_le (zs := r) fun z hz => h z (List.mem_cons_of_mem _ hz)
    show f a + tot r f ≤ g a + tot r g
    omega
theorem tot_one {f g : Str → Int} : ∀ {zs : List Str}, (∀ z ∈ zs, f z ≤ g z) → tot zs g ≤ tot zs f → ∀ z ∈ zs, g z = f z
  | [], _, _ => fun z hz => nomatch hz
  | a :: r, h, e => by
    have h1 := h a List.mem_cons_self
    have h2 := tot_le (zs := r) fun z hz => h z (List.mem_cons_of_mem _ hz)
    have e2 : g a + tot r g ≤ f a + tot r f := e
    intro z hz
    rcases List.mem_cons.mp hz with rfl | hz
    · omega
    · exact tot_one (zs := r) (fun z hz => h z (List.mem_cons_of_mem _ hz)) (by omega) z hz
/-- what two heaps and ties must be -/
structure Wl (zs ws : List Str) (qs : List (Str × Str)) : Prop where
  pm : ws.Perm zs
  nd : zs.Nodup
  cl : ∀ q ∈ qs, q.2 ∈ zs ∧ q.1 ≠ q.2 ∧ q.1 ∈ zs
theorem Wl.top {zs ws : List Str} {qs : List (Str × Str)} {b : Str} (w : Wl zs ws qs) (hb : b ∈ zs) : Wl (onTop b zs) ws qs := by
  have p := onTop_perm w.nd hb
  exact ⟨w.pm.trans p.symm, p.nodup_iff.mpr w.nd, fun q hq => ⟨p.mem_iff.mpr (w.cl q hq).1, (w.cl q hq).2.1, p.mem_iff.mpr (w.cl q hq).2.2⟩⟩
theorem fw_row {zs ws : List Str} {qs : List (Str × Str)} (w : Wl zs ws qs) (h : ld zs ws qs = true) : ∃ row, RowTo qs zs ws row ∧ ((row.length : Nat) : Int) = fw zs ws qs := by
  obtain ⟨p, hp⟩ := ld_ex h
  obtain ⟨g, hL⟩ := lst_ex hp
  have top : ∀ x ∈ zs, g x ≤ ((zs.length : Nat) : Int) := hL.few hp
  have sub : ∀ b ∈ rowOf ws g zs.length, b ∈ zs := fun b hb => w.pm.mem_iff.mp (rowOf_sub b hb)
  refine ⟨rowOf ws g zs.length, ⟨sub, rowOf_let hL.sol w.pm w.nd w.cl top, rowOf_left hL.sol w.pm w.nd top⟩, ?_⟩
  rw [len_counts w.nd sub, fw_eq hL]
  exact tot_congr fun z hz => cnt_full hL.sol w.pm w.nd hz top
theorem fw_le {zs ws row : List Str} {qs : List (Str × Str)} (w : Wl zs ws qs) (h : RowTo qs zs ws row) : fw zs ws qs ≤ ((row.length : Nat) : Int) := by
  obtain ⟨p, hp⟩ := ld_ex (h.ld w.nd w.cl)
  obtain ⟨g, hL⟩ := lst_ex hp
  rw [len_counts w.nd h.sub, fw_eq hL]
  exact tot_le fun z _ => row_least h w.nd w.cl hL z
theorem fw_nn {zs ws : List Str} {qs : List (Str × Str)} (w : Wl zs ws qs) (h : ld zs ws qs = true) : 0 ≤ fw zs ws qs := by
  obtain ⟨row, _, e⟩ := fw_row w h
  omega
theorem fw_zero {zs ws : List Str} {qs : List (Str × Str)} (w : Wl zs ws qs) (h : ld zs ws qs = true) (e : fw zs ws qs = 0) : zs = ws := by
  obtain ⟨row, hr, el⟩ := fw_row w h
  cases row with
  | nil => exact hr.left
  | cons b r =>
    rw [List.length_cons] at el
    omega
theorem fw_cnt {zs ws row : List Str} {qs : List (Str × Str)} {g : Str → Int} (w : Wl zs ws qs) (h : RowTo qs zs ws row) (e : ((row.length : Nat) : Int) = fw zs ws qs) (hL : Lst zs ws qs g) : ∀ z ∈ zs, ((row.count z : Nat) : Int) = g z :=
  tot_one (fun z _ => row_least h w.nd w.cl hL z) (by rw [← len_counts w.nd h.sub, e, fw_eq hL]; exact Int.le_refl _)
theorem RowTo.tail {qs : List (Str × Str)} {zs ws r : List Str} {b : Str} (w : Wl zs ws qs) (h : RowTo qs zs ws (b :: r)) : b ∈ zs ∧ lets qs zs b = true ∧ RowTo qs (onTop b zs) ws r := by
  have hb := h.sub b List.mem_cons_self
  obtain ⟨h1, h2⟩ := refAt_none h.lt
  exact ⟨hb, h1, ⟨fun x hx => (onTop_perm w.nd hb).mem_iff.mpr (h.sub x (List.mem_cons_of_mem _ hx)), h2, h.left⟩⟩
theorem RowTo.cons {qs : List (Str × Str)} {zs ws r : List Str} {b : Str} (w : Wl zs ws qs) (hb : b ∈ zs) (hl : lets qs zs b = true) (h : RowTo qs (onTop b zs) ws r) : RowTo qs zs ws (b :: r) := by
  have h1 : RowTo qs zs (onTop b zs) [b] := ⟨fun x hx => by rw [List.mem_singleton.mp hx]; exact hb, by simp [refAt, hl], rfl⟩
  exact h1.app h w.nd
/-- the books with which a shortest row begins -/
noncomputable def nxt (qs : List (Str × Str)) (ws zs : List Str) : List Str := (srt (zs.filter (lets qs zs))).filter fun b => ld (onTop b zs) ws qs && decide (fw (onTop b zs) ws qs = fw zs ws qs - 1)
theorem nxt_mem {qs : List (Str × Str)} {ws zs : List Str} {b : Str} : b ∈ nxt qs ws zs ↔ b ∈ zs ∧ lets qs zs b = true ∧ ld (onTop b zs) ws qs = true ∧ fw (onTop b zs) ws qs = fw zs ws qs - 1 := by
  unfold nxt
  rw [List.mem_filter, (srt_perm _).mem_iff, List.mem_filter, Bool.and_eq_true, decide_eq_true_iff, and_assoc]
theorem nxt_some {qs : List (Str × Str)} {ws zs : List Str} (w : Wl zs ws qs) (h : ld zs ws qs = true) (e : nxt qs ws zs = []) : fw zs ws qs = 0 := by
  obtain ⟨row, hr, el⟩ := fw_row w h
  cases row with
  | nil => exact el.symm
  | cons b r =>
    obtain ⟨hb, hl, ht⟩ := hr.tail w
    have wt := w.top hb
    have hd := ht.ld wt.nd wt.cl
    have h1 := fw_le wt ht
    obtain ⟨r2, hr2, el2⟩ := fw_row wt hd
    have h2 := fw_le w (RowTo.cons w hb hl hr2)
    rw [List.length_cons] at el h2
    have : b ∈ nxt qs ws zs := nxt_mem.mpr ⟨hb, hl, hd, by omega⟩
    rw [e] at this
    cases this
theorem nxt_nil {qs : List (Str × Str)} {ws zs : List Str} (w : Wl zs ws qs) (e : fw zs ws qs = 0) : nxt qs ws zs = [] := by
  cases hn : nxt qs ws zs with
  | nil => rfl
  | cons b t =>
    obtain ⟨hb, _, hd, h2⟩ := nxt_mem.mp (show b ∈ nxt qs ws zs by rw [hn]; exact List.mem_cons_self)
    have := fw_nn (w.top hb) hd
    omega
/-- the row that takes the first of these each time -/
def FRow (qs : List (Str × Str)) (ws : List Str) : List Str → List Str → Prop
  | zs, [] => nxt qs ws zs = []
  | zs, b :: r => (∃ t, nxt qs ws zs = b :: t) ∧ FRow qs ws (onTop b zs) r
theorem FRow.one {qs : List (Str × Str)} {ws : List Str} : ∀ {zs a b : List Str}, FRow qs ws zs a → FRow qs ws zs b → a = b
  | _, [], [], _, _ => rfl
  | zs, [], b :: r, h1, ⟨⟨t, h2⟩, _⟩ => by
    have h1 : nxt qs ws zs = [] := h1
    rw [h1] at h2
    cases h2
  | zs, b :: r, [], ⟨⟨t, h2⟩, _⟩, h1 => by
    have h1 : nxt qs ws zs = [] := h1
    rw [h1] at h2
    cases h2
  | zs, a :: r, b :: r2, ⟨⟨t, h1⟩, h2⟩, ⟨⟨t2, h3⟩, h4⟩ => by
    rw [h1] at h3
    injection h3 with h3 h5
    subst h3
    rw [FRow.one h2 h4]
theorem FRow.to {qs : List (Str × Str)} {ws : List Str} : ∀ {row zs : List Str}, Wl zs ws qs → ld zs ws qs = true → FRow qs ws zs row → RowTo qs zs ws row ∧ ((row.length : Nat) : Int) = fw zs ws qs
  | [], zs, w, hd, h => by
    have h0 := nxt_some w hd h
    have := fw_zero w hd h0
    subst this
    exact ⟨⟨(fun b hb => nomatch hb), rfl, rfl⟩, h0.symm⟩
  | b :: r, zs, w, hd, ⟨⟨t, h1⟩, h2⟩ => by
    obtain ⟨hb, hl, hd2, hf⟩ := nxt_mem.mp (show b ∈ nxt qs ws zs by rw [h1]; exact List.mem_cons_self)
    obtain ⟨k1, k2⟩ := FRow.to (w.top hb) hd2 h2
    refine ⟨RowTo.cons w hb hl k1, ?_⟩
    rw [List.length_cons]
    omega
/-- along such a row -/
theorem FRow.drop {qs : List (Str × Str)} {ws : List Str} : ∀ {a b zs : List Str}, FRow qs ws zs (a ++ b) → FRow qs ws (lefts zs a) b
  | [], _, _, h => h
  | x :: r, b, zs, ⟨_, h⟩ => FRow.drop (a := r) h
theorem FRow.back {qs : List (Str × Str)} {ws : List Str} : ∀ {a b zs : List Str}, FRow qs ws zs (a ++ b) → Wl zs ws qs → ld zs ws qs = true → Wl (lefts zs a) ws qs ∧ ld (lefts zs a) ws qs = true
  | [], _, _, _, w, hd => ⟨w, hd⟩
  | x :: r, b, zs, ⟨⟨t, h1⟩, h2⟩, w, hd => by
    obtain ⟨hb, hl, hd2, hf⟩ := nxt_mem.mp (show x ∈ nxt qs ws zs by rw [h1]; exact List.mem_cons_self)
    exact FRow.back (a := r) h2 (w.top hb) hd2
end HF
/-! heaps of some of the books: what leads, and how often they go -/
namespace HF
open PySem PySem.Spec PyProof.Rows L2
theorem uu_filter {p : Str → Bool} {a b : Str} (ha : p a = true) (hb : p b = true) (zs : List Str) : uu (zs.filter p) a b = uu zs a b := by
  have h := pos_filter hb ha zs
  have e2 : up (zs.filter p) (a, b) = up zs (a, b) := by
    unfold up
    rw [Bool.eq_iff_iff, decide_eq_true_iff, decide_eq_true_iff]
    show ((pos b (zs.filter p) : Nat) : Int) < ((pos a (zs.filter p) : Nat) : Int) ↔ ((pos b zs : Nat) : Int) < ((pos a zs : Nat) : Int)
    omega
  unfold uu
  rw [e2]
theorem C_filter {p : Str → Bool} {zs : List Str} : ∀ {l : List Str}, (∀ x ∈ l, p x = true) → C (zs.filter p) l = C zs l
  | [], _ => rfl
  | [a], _ => rfl
  | a :: c :: r, h => by
    show uu (zs.filter p) a c + C (zs.filter p) (c :: r) = uu zs a c + C zs (c :: r)
    rw [uu_filter (h a List.mem_cons_self) (h c (List.mem_cons_of_mem _ List.mem_cons_self)), C_filter fun x hx => h x (List.mem_cons_of_mem _ hx)]
theorem T_filter {p : Str → Bool} {zs ls : List Str} (h : ∀ x ∈ ls, p x = true) : T (zs.filter p) ls = T zs ls :=
  C_filter fun x hx => by
    rcases List.mem_append.mp hx with hx | hx
    · exact h x hx
    · exact h x (List.mem_of_mem_take hx)
theorem gn_filter {p : Str → Bool} {zs ws : List Str} {q : Str × Str} (h1 : p q.1 = true) (h2 : p q.2 = true) : gn (zs.filter p) (ws.filter p) q = gn zs ws q := by
  show gn (zs.filter p) (ws.filter p) (q.1, q.2) = gn zs ws (q.1, q.2)
  rw [gn_uu, gn_uu, uu_filter h1 h2, uu_filter h1 h2]
theorem drop_step (f : Nat → Nat) : ∀ d i, f (i + d) < f i → ∃ m, i ≤ m ∧ m < i + d ∧ f (m + 1) < f m
  | 0, i, h => absurd h (Nat.lt_irrefl _)
  | d + 1, i, h => by
    by_cases e : f (i + d) < f i
    · obtain ⟨m, h1, h2, h3⟩ := drop_step f d i e
      exact ⟨m, h1, by omega, h3⟩
    · exact ⟨i + d, by omega, by omega, by
        have : f (i + d + 1) < f i := h
        omega⟩
theorem Sol.filter {zs ws : List Str} {qs rs : List (Str × Str)} {g : Str → Int} {p : Str → Bool} (h : Sol zs ws qs g) (wnd : ws.Nodup) (hr : ∀ q ∈ rs, q ∈ qs ∧ p q.1 = true ∧ p q.2 = true) : Sol (zs.filter p) (ws.filter p) rs g := by
  refine ⟨h.nn, fun i x hx hf j y hj hy => ?_, fun q hq h0 => ?_⟩
  · have fnd : (ws.filter p).Nodup := wnd.filter _
    have mx := List.mem_filter.mp (List.mem_of_getElem? hx)
    have my := List.mem_filter.mp (List.mem_of_getElem? hy)
    have px := pos_at fnd hx
    have py := pos_at fnd hy
    have hle : pos y ws ≤ pos x ws := by
      have := pos_filter mx.2 my.2 ws
      omega
    rcases hf with h0 | ⟨z, hz, hlt⟩
    · exact h.up (pos x ws) x (pos_get mx.1) (.inl h0) (pos y ws) y hle (pos_get my.1)
    · have mz := List.mem_filter.mp (List.mem_of_getElem? hz)
      have pz := pos_at fnd hz
      have h1 : pos x ws < pos z ws := (pos_filter mx.2 mz.2 ws).mp (by omega)
      have h2 : pos z zs < pos x zs := (pos_filter mz.2 mx.2 zs).mp hlt
      have hzl := pos_lt mz.1
      obtain ⟨m, m1, m2, m3⟩ := drop_step (fun k => match ws[k]? with | some u => pos u zs | none => 0) (pos z ws - pos x ws) (pos x ws) (by
        have e : pos x ws + (pos z ws - pos x ws) = pos z ws := by omega
        rw [e, pos_get mz.1, pos_get mx.1]
        exact h2)
      have hm : ws[m]? = some ws[m] := List.getElem?_eq_getElem (by omega)
      have hm1 : ws[m + 1]? = some ws[m + 1] := List.getElem?_eq_getElem (by omega)
      rw [hm, hm1] at m3
      exact h.up m _ hm (.inr ⟨_, hm1, m3⟩) (pos y ws) y (by omega) (pos_get my.1)
  · obtain ⟨k1, k2, k3⟩ := hr q hq
    rw [gn_filter k2 k3]
    exact h.ed q k1 h0
theorem Ch.mono {qs rs : List (Str × Str)} (h : ∀ q ∈ rs, q ∈ qs) : ∀ {l : List Str}, Ch rs l → Ch qs l
  | [], _ => trivial
  | [a], _ => trivial
  | a :: b :: r, k => ⟨h _ k.1, Ch.mono h (l := b :: r) k.2⟩
theorem cl_filter {zs : List Str} {qs rs : List (Str × Str)} {p : Str → Bool} (cl : ∀ q ∈ qs, q.2 ∈ zs ∧ q.1 ≠ q.2 ∧ q.1 ∈ zs) (hr : ∀ q ∈ rs, q ∈ qs ∧ p q.1 = true ∧ p q.2 = true) : ∀ q ∈ rs, q.2 ∈ zs.filter p ∧ q.1 ≠ q.2 ∧ q.1 ∈ zs.filter p := fun q hq => by
  obtain ⟨k1, k2, k3⟩ := hr q hq
  exact ⟨List.mem_filter.mpr ⟨(cl q k1).1, k3⟩, (cl q k1).2.1, List.mem_filter.mpr ⟨(cl q k1).2.2, k2⟩⟩
theorem ld_filter {zs ws : List Str} {qs rs : List (Str × Str)} {p : Str → Bool} (nd : zs.Nodup) (cl : ∀ q ∈ qs, q.2 ∈ zs ∧ q.1 ≠ q.2 ∧ q.1 ∈ zs) (hr : ∀ q ∈ rs, q ∈ qs ∧ p q.1 = true ∧ p q.2 = true) (h : ld zs ws qs = true) : ld (zs.filter p) (ws.filter p) rs = true := by
  refine (ld_iff (nd.filter _) (cl_filter cl hr)).mpr fun ls g => ?_
  have hp : ∀ x ∈ ls, p x = true := fun x hx => (List.mem_filter.mp (g.sub x hx)).2
  have g2 : Rng qs zs ls := ⟨g.nd, g.two, fun x hx => (List.mem_filter.mp (g.sub x hx)).1, Ch.mono (fun q hq => (hr q hq).1) g.ch⟩
  rw [T_filter hp, T_filter hp]
  exact (ld_iff nd cl).mp h ls g2
theorem Ch.part {qs q0 q1 : List (Str × Str)} {one two : List Str} (hq : ∀ q ∈ qs, q ∈ q0 ∨ q ∈ q1) (c0 : ∀ q ∈ q0, q.2 ∈ one ∧ q.1 ∈ one) (c1 : ∀ q ∈ q1, q.1 ∈ two) (dis : ∀ x ∈ one, x ∉ two) : ∀ {l : List Str} {a : Str}, a ∈ one → Ch qs (a :: l) → (∀ x ∈ a :: l, x ∈ one) ∧ Ch q0 (a :: l)
  | [], a, ha, _ => ⟨fun x hx => by rw [List.mem_singleton.mp hx]; exact ha, trivial⟩
  | b :: r, a, ha, k => by
    have k1 : (a, b) ∈ q0 := by
      rcases hq _ k.1 with h | h
      · exact h
      · exact absurd (c1 _ h) (dis a ha)
    obtain ⟨i1, i2⟩ := Ch.part hq c0 c1 dis (c0 _ k1).1 k.2
    refine ⟨fun x hx => ?_, k1, i2⟩
    rcases List.mem_cons.mp hx with rfl | hx
    · exact ha
    · exact i1 x hx
/-- two heaps without a book in common, with their ties -/
structure Pt (one two : List Str) (q0 q1 qs : List (Str × Str)) : Prop where
  c0 : ∀ q ∈ q0, q.2 ∈ one ∧ q.1 ≠ q.2 ∧ q.1 ∈ one
  c1 : ∀ q ∈ q1, q.2 ∈ two ∧ q.1 ≠ q.2 ∧ q.1 ∈ two
  dis : ∀ x ∈ one, x ∉ two
  mem : ∀ q, q ∈ qs ↔ q ∈ q0 ∨ q ∈ q1
def inL (one : List Str) (x : Str) : Bool := decide (x ∈ one)
theorem Pt.cl {one two zs : List Str} {q0 q1 qs : List (Str × Str)} (h : Pt one two q0 q1 qs) (pm : zs.Perm (one ++ two)) : ∀ q ∈ qs, q.2 ∈ zs ∧ q.1 ≠ q.2 ∧ q.1 ∈ zs := fun q hq => by
  rw [pm.mem_iff, pm.mem_iff]
  rcases (h.mem q).mp hq with k | k
  · exact ⟨List.mem_append_left _ (h.c0 q k).1, (h.c0 q k).2.1, List.mem_append_left _ (h.c0 q k).2.2⟩
  · exact ⟨List.mem_append_right _ (h.c1 q k).1, (h.c1 q k).2.1, List.mem_append_right _ (h.c1 q k).2.2⟩
theorem Pt.r0 {one two : List Str} {q0 q1 qs : List (Str × Str)} (h : Pt one two q0 q1 qs) : ∀ q ∈ q0, q ∈ qs ∧ inL one q.1 = true ∧ inL one q.2 = true := fun q hq => ⟨(h.mem q).mpr (.inl hq), decide_eq_true (h.c0 q hq).2.2, decide_eq_true (h.c0 q hq).1⟩
theorem Pt.r1 {one two : List Str} {q0 q1 qs : List (Str × Str)} (h : Pt one two q0 q1 qs) : ∀ q ∈ q1, q ∈ qs ∧ inL two q.1 = true ∧ inL two q.2 = true := fun q hq => ⟨(h.mem q).mpr (.inr hq), decide_eq_true (h.c1 q hq).2.2, decide_eq_true (h.c1 q hq).1⟩
theorem ld_parts {one two zs ws : List Str} {q0 q1 qs : List (Str × Str)} (h : Pt one two q0 q1 qs) (nd : zs.Nodup) (pm : zs.Perm (one ++ two)) : ld zs ws qs = (ld (zs.filter (inL one)) (ws.filter (inL one)) q0 && ld (zs.filter (inL two)) (ws.filter (inL two)) q1) := by
  have cl := h.cl pm
  rw [Bool.eq_iff_iff, Bool.and_eq_true]
  refine ⟨fun k => ⟨ld_filter nd cl h.r0 k, ld_filter nd cl h.r1 k⟩, fun ⟨k0, k1⟩ => ?_⟩
  refine (ld_iff nd cl).mpr fun ls g => ?_
  have gt := g.two
  have gs := g.sub
  have gn := g.nd
  have gc := g.ch
  cases ls with
  | nil => exact absurd gt (by decide)
  | cons x r =>
    have e : (x :: r) ++ (x :: r).take 1 = x :: (r ++ [x]) := rfl
    rw [e] at gc
    have hx := pm.mem_iff.mp (gs x List.mem_cons_self)
    rcases List.mem_append.mp hx with hx | hx
    · obtain ⟨i1, i2⟩ := Ch.part (fun q hq => (h.mem q).mp hq) (fun q hq => ⟨(h.c0 q hq).1, (h.c0 q hq).2.2⟩) (fun q hq => (h.c1 q hq).2.2) h.dis hx gc
      have hp : ∀ y ∈ x :: r, y ∈ one := fun y hy => i1 y (by
        rcases List.mem_cons.mp hy with rfl | hy
        · exact List.mem_cons_self
        · exact List.mem_cons_of_mem _ (List.mem_append_left _ hy))
      have hp2 : ∀ y ∈ x :: r, inL one y = true := fun y hy => decide_eq_true (hp y hy)
      have := (ld_iff (nd.filter _) (cl_filter cl h.r0)).mp k0 (x :: r) ⟨gn, gt, fun y hy => List.mem_filter.mpr ⟨gs y hy, hp2 y hy⟩, i2⟩
      rwa [T_filter hp2, T_filter hp2] at this
    · obtain ⟨i1, i2⟩ := Ch.part (fun q hq => ((h.mem q).mp hq).symm) (fun q hq => ⟨(h.c1 q hq).1, (h.c1 q hq).2.2⟩) (fun q hq => (h.c0 q hq).2.2) (fun y hy hz => h.dis y hz hy) hx gc
      have hp : ∀ y ∈ x :: r, y ∈ two := fun y hy => i1 y (by
        rcases List.mem_cons.mp hy with rfl | hy
        · exact List.mem_cons_self
        · exact List.mem_cons_of_mem _ (List.mem_append_left _ hy))
      have hp2 : ∀ y ∈ x :: r, inL two y = true := fun y hy => decide_eq_true (hp y hy)
      have := (ld_iff (nd.filter _) (cl_filter cl h.r1)).mp k1 (x :: r) ⟨gn, gt, fun y hy => List.mem_filter.mpr ⟨gs y hy, hp2 y hy⟩, i2⟩
      rwa [T_filter hp2, T_filter hp2] at this
theorem filt_app {p : Str → Bool} {a b : List Str} (ha : ∀ x ∈ a, p x = true) (hb : ∀ x ∈ b, p x = false) : (a ++ b).filter p = a := by
  rw [List.filter_append, List.filter_eq_self.mpr ha, List.filter_eq_nil_iff.mpr (fun x hx => by rw [hb x hx]; decide), List.append_nil]
theorem filt_app2 {p : Str → Bool} {a b : List Str} (ha : ∀ x ∈ a, p x = false) (hb : ∀ x ∈ b, p x = true) : (a ++ b).filter p = b := by
  rw [List.filter_append, List.filter_eq_self.mpr hb, List.filter_eq_nil_iff.mpr (fun x hx => by rw [ha x hx]; decide), List.nil_append]
/-- with fewer books no more goings -/
theorem lst_filter {zs ws : List Str} {qs rs : List (Str × Str)} {g g' : Str → Int} {p : Str → Bool} (h : Lst zs ws qs g) (wnd : ws.Nodup) (hr : ∀ q ∈ rs, q ∈ qs ∧ p q.1 = true ∧ p q.2 = true) (h' : Lst (zs.filter p) (ws.filter p) rs g') : ∀ x, g' x ≤ g x :=
  h'.least _ (h.sol.filter wnd hr)
section
variable {one two f0 f1 : List Str} {q0 q1 qs : List (Str × Str)} {g g0 g1 : Str → Int}
/-- where a lower one goes, all upper ones go -/
theorem low_up (h : Pt one two q0 q1 qs) (nd : (one ++ two).Nodup) (p0 : f0.Perm one) (p1 : f1.Perm two) (hL : Lst (one ++ two) (f0 ++ f1) qs g) (h1 : Lst two f1 q1 g1) {b : Str} (hb : b ∈ two) (hg : 0 < g1 b) : ∀ y ∈ one, 1 ≤ g y := fun y hy => by
  have wpm : (f0 ++ f1).Perm (one ++ two) := p0.append p1
  have wnd : (f0 ++ f1).Nodup := wpm.nodup_iff.mpr nd
  have n0 : ∀ x ∈ one, inL two x = false := fun x hx => decide_eq_false (h.dis x hx)
  have n1 : ∀ x ∈ two, inL two x = true := fun x hx => decide_eq_true hx
  have e1 : (one ++ two).filter (inL two) = two := filt_app2 n0 n1
  have e2 : (f0 ++ f1).filter (inL two) = f1 := filt_app2 (fun x hx => n0 x (p0.mem_iff.mp hx)) (fun x hx => n1 x (p1.mem_iff.mp hx))
  have le := lst_filter hL wnd h.r1 (g' := g1) (by rw [e1, e2]; exact h1) b
  have hbf : b ∉ f0 := fun hz => h.dis b (p0.mem_iff.mp hz) hb
  have hbm : b ∈ f0 ++ f1 := List.mem_append_right _ (p1.mem_iff.mpr hb)
  have hym : y ∈ f0 := p0.mem_iff.mpr hy
  refine hL.sol.up (pos b (f0 ++ f1)) b (pos_get hbm) (.inl (by omega)) (pos y (f0 ++ f1)) y ?_ (pos_get (List.mem_append_left _ hym))
  rw [pos_app_in hym, pos_app_out hbf]
  have := pos_lt hym
  omega
/-- where none of the lower ones goes, the upper ones go as they do alone -/
theorem low_no (h : Pt one two q0 q1 qs) (nd : (one ++ two).Nodup) (p0 : f0.Perm one) (e1 : f1 = two) (h0 : Lst one f0 q0 g0) : Sol (one ++ two) (f0 ++ f1) qs (fun x => if x ∈ one then g0 x else 0) := by
  subst e1
  have nd0 : one.Nodup := (List.nodup_append.mp nd).1
  have nd1 : f1.Nodup := (List.nodup_append.mp nd).2.1
  have fnd : f0.Nodup := p0.nodup_iff.mpr nd0
  refine ⟨fun x => ?_, fun i x hx hf j y hj hy => ?_, fun q hq hp => ?_⟩
  · show 0 ≤ if x ∈ one then g0 x else 0
    split
    · exact h0.sol.nn x
    · exact Int.le_refl _
  · have hfl : f0.length = one.length := p0.length_eq
    have key : i < f0.length ∧ Fp one f0 g0 i x := by
      rcases hf with h0x | ⟨z, hz, hlt⟩
      · have h0x : 0 < if x ∈ one then g0 x else 0 := h0x
        by_cases hxo : x ∈ one
        · rw [if_pos hxo] at h0x
          have hxf := p0.mem_iff.mpr hxo
          have : i = pos x f0 := by
            have := pos_at (p0.append (.refl f1) |>.nodup_iff.mpr nd) hx
            rw [pos_app_in hxf] at this
            omega
          exact ⟨by rw [this]; exact pos_lt hxf, .inl h0x⟩
        · rw [if_neg hxo] at h0x
          exact absurd h0x (Int.lt_irrefl _)
      · by_cases hi : i + 1 < f0.length
        · rw [List.getElem?_append_left hi] at hz
          rw [List.getElem?_append_left (by omega)] at hx
          have hxo := p0.mem_iff.mp (List.mem_of_getElem? hx)
          have hzo := p0.mem_iff.mp (List.mem_of_getElem? hz)
          rw [pos_app_in hxo, pos_app_in hzo] at hlt
          exact ⟨by omega, .inr ⟨z, hz, hlt⟩⟩
        · exfalso
          rw [List.getElem?_append_right (by omega)] at hz
          have hz1 := List.mem_of_getElem? hz
          have hzo : z ∉ one := fun e => h.dis z e hz1
          rw [pos_app_out hzo, pos_at nd1 hz] at hlt
          by_cases hi2 : i < f0.length
          · rw [List.getElem?_append_left hi2] at hx
            have hxo := p0.mem_iff.mp (List.mem_of_getElem? hx)
            rw [pos_app_in hxo] at hlt
            have := pos_lt hxo
            omega
          · rw [List.getElem?_append_right (by omega)] at hx
            have hx1 := List.mem_of_getElem? hx
            have hxo : x ∉ one := fun e => h.dis x e hx1
            rw [pos_app_out hxo, pos_at nd1 hx] at hlt
            omega
    obtain ⟨hi, hf2⟩ := key
    rw [List.getElem?_append_left hi] at hx
    rw [List.getElem?_append_left (by omega)] at hy
    have hyo := p0.mem_iff.mp (List.mem_of_getElem? hy)
    show 1 ≤ if y ∈ one then g0 y else 0
    rw [if_pos hyo]
    exact h0.sol.up i x hx hf2 j y hj hy
  · have hp : 0 < if q.1 ∈ one then g0 q.1 else 0 := hp
    show (if q.1 ∈ one then g0 q.1 else 0) + gn (one ++ f1) (f0 ++ f1) q ≤ if q.2 ∈ one then g0 q.2 else 0
    by_cases h1 : q.1 ∈ one
    · rw [if_pos h1] at hp ⊢
      have hq0 : q ∈ q0 := by
        rcases (h.mem q).mp hq with k | k
        · exact k
        · exact absurd (h.c1 q k).2.2 (h.dis _ h1)
      have h2 := (h.c0 q hq0).1
      rw [if_pos h2]
      have n0 : ∀ x ∈ one, inL one x = true := fun x hx => decide_eq_true hx
      have n1 : ∀ x ∈ f1, inL one x = false := fun x hx => decide_eq_false fun e => h.dis x e hx
      have e1 : (one ++ f1).filter (inL one) = one := filt_app n0 n1
      have e2 : (f0 ++ f1).filter (inL one) = f0 := filt_app (fun x hx => n0 x (p0.mem_iff.mp hx)) n1
      have e3 := gn_filter (p := inL one) (zs := one ++ f1) (ws := f0 ++ f1) (n0 _ h1) (n0 _ h2)
      rw [e1, e2] at e3
      rw [← e3]
      exact h0.sol.ed q hq0 hp
    · rw [if_neg h1] at hp
      exact absurd hp (Int.lt_irrefl _)
end
theorem le_back {p q : Addr × List Str} {a b c d : Str} (e1 : p.2 = [a, b]) (e2 : q.2 = [c, d]) (h : leP (a, b) (c, d)) : PySem.W.dataLe false encS p q = true := by
  show (!PySem.W.dataLt (encS q) (encS p)) = true
  have f1 : encS p = encP (p.1, (a, b)) := by
    show PyData.tuple (p.2.map PyData.str) = _
    rw [e1]
    rfl
  have f2 : encS q = encP (q.1, (c, d)) := by
    show PyData.tuple (q.2.map PyData.str) = _
    rw [e2]
    rfl
  have nlt : ∀ {x y : Str}, x.cps.toList ≤ y.cps.toList → PySem.W.dataLt (.str y) (.str x) = false := fun {x y} hl => by
    have h1 : (!PySem.W.dataLt (.str y) (.str x)) = true := by
      rw [PySem.W.dataLt_str, PySem.W.not_lt_str]
      exact decide_eq_true hl
    cases hx : PySem.W.dataLt (.str y) (.str x) with
    | false => rfl
    | true => rw [hx] at h1; exact nomatch h1
  rw [f1, f2, PySem.W.dataLt_pair (by rfl) (by rfl)]
  rcases h with h | ⟨e, h⟩
  · have ne : ¬ PyData.eqv (.str c) (.str a) = true := fun z => by
      have z2 : (c == a) = true := z
      have : c = a := eq_of_beq z2
      have h : a.cps.toList < c.cps.toList := h
      rw [this] at h
      exact List.lt_irrefl _ h
    rw [if_neg ne, nlt (List.le_of_lt h)]
    rfl
  · have e : a = c := e
    subst e
    have ye : PyData.eqv (.str a) (.str a) = true := by
      show (a == a) = true
      exact beq_self_eq_true _
    rw [if_pos ye]
    by_cases z : PyData.eqv (.str d) (.str b) = true
    · rw [if_pos z]
      rfl
    · rw [if_neg z, nlt h]
      rfl
theorem ties_of_ps {zs : List Str} {H : Hp} {r : Addr} {ps : List TPr} (h : Tp H r (rfs ps)) (hp : ∀ p ∈ ps, AtT H p) (ok : ∀ q ∈ ps.map (·.2), q.2 ∈ zs ∧ q.1 ≠ q.2 ∧ q.1 ∈ zs) (nd : (ps.map (·.2)).Nodup) (le : (ps.map (·.2)).Pairwise leP) : Ties zs H r (ps.map fun p => (p.1, [p.2.1, p.2.2])) ∧ (ps.map fun p => (p.1, [p.2.1, p.2.2])).map prOf = ps.map (·.2) := by
  refine ⟨⟨?_, fun x hx => ?_, ?_, ?_⟩, ?_⟩
  · have e : rf (ps.map fun p => (p.1, [p.2.1, p.2.2])) = rfs ps := by
      unfold rfs
      rw [rf, List.map_map]
      rfl
    rw [e]
    exact h
  · obtain ⟨p, hpm, rfl⟩ := List.mem_map.mp hx
    have k := ok p.2 (List.mem_map_of_mem hpm)
    exact ⟨hp p hpm, p.2.1, p.2.2, rfl, k.2.2, k.1, k.2.1⟩
  · rw [List.map_map]
    refine List.pairwise_map.mpr ((List.pairwise_map.mp nd).imp fun {a b} hne e => hne ?_)
    have e : [a.2.1, a.2.2] = [b.2.1, b.2.2] := e
    injection e with e1 e2
    injection e2 with e2 _
    exact Prod.ext e1 e2
  · refine List.pairwise_map.mpr ((List.pairwise_map.mp le).imp fun {a b} hl => ?_)
    exact le_back rfl rfl hl
  · rw [List.map_map]
    rfl
end HF
/-! zip of a tuple and a list; repr of a list with a dict of texts behind; heaps and ties as data -/
namespace HF
open PySem PySem.Spec PyProof.Rows L2
theorem walk_zipM {K : PySem.W.Frag} {a b : Addr} {xs ys : List V} (hl : ys.length = xs.length) : Walk (ItzM K a b) xs.length (fun H => SqT K H a xs ∧ SqL K H b ys) (YPair (fun i => xs[i]?) (fun i => ys[i]?)) := by
  refine ⟨fun i _ hi q => ?_, fun _ q => ⟨xs, ys, q.1, q.2, hl, rfl⟩, fun i H v H' _ q y => ?_⟩
  · have h2 : i < ys.length := by omega
    exact ⟨xs, ys, xs[i], ys[i], q.1, q.2, by simp [hi], by simp [h2]⟩
  · obtain ⟨T, x, z, h1, h2, h3, h4, h5⟩ := y
    exact ⟨T, x, z, h1, h2, h3, h4 xs q.1, h5 ys q.2⟩
theorem tpP_dp {K : PySem.W.Frag} {H : Hp} {t : Addr} {ps : List TPr} {qs : List (Str × Str)} (h : Tp H t (rfs ps)) (hp : ∀ p ∈ ps, AtT H p) (e : ps.map (·.2) = qs) : Dp K H (.ref t) (.tuple (qs.map dPr)) := by
  subst e
  rw [List.map_map]
  exact .tup h.sq (dpAll_prs hp)
abbrev dHQ (zs : List Str) (qs : List (Str × Str)) : PyData := .tuple [.tuple (zs.map PyData.str), .tuple (qs.map dPr)]
theorem two_dp {K : PySem.W.Frag} {H : Hp} {t a b : Addr} {da db : PyData} (h : H t = some (.tup [.ref a, .ref b])) (h1 : Dp K H (.ref a) da) (h2 : Dp K H (.ref b) db) : Dp K H (.ref t) (.tuple [da, db]) := .tup (.inl (.inl h)) (.cons h1 (.cons h2 .nil))
theorem ltwo_dp {K : PySem.W.Frag} {H : Hp} {t a b : Addr} {da db : PyData} (h : H t = some (.lst [.ref a, .ref b])) (h1 : Dp K H (.ref a) da) (h2 : Dp K H (.ref b) db) : Dp K H (.ref t) (.list [da, db]) := .lst (.inl (.inl h)) (.cons h1 (.cons h2 .nil))
theorem fine_strsT {zs : List Str} (hz : ∀ z ∈ zs, Nm z) (lz : zs.length ≤ 100) : Fine 2 1000 15000 (.tuple (zs.map PyData.str)) := (Fine.tuple (fine_strs (m := 0) (w := 1000) hz) (by rw [List.length_map]; omega)).mono (by decide) (by decide) (by omega)
theorem fine_prsT {qs : List (Str × Str)} (hq : ∀ q ∈ qs, Nm q.1 ∧ Nm q.2) (lq : qs.length ≤ 1000) : Fine 2 1000 15000 (.tuple (qs.map dPr)) := (fine_prs hq lq).mono (by decide) (by decide) (by omega)
theorem fine_two {m W : Nat} {a b : PyData} (ha : Fine m 1000 W a) (hb : Fine m 1000 W b) : FineL m 1000 (2 * W + 2) [a, b] := (FineL.cons ha (FineL.cons hb (FineL.nil (W := 0)))).mono (Nat.le_refl _) (Nat.le_refl _) (by omega)
theorem fine_hq {zs : List Str} {qs : List (Str × Str)} (hz : ∀ z ∈ zs, Nm z) (hq : ∀ q ∈ qs, Nm q.1 ∧ Nm q.2) (lz : zs.length ≤ 100) (lq : qs.length ≤ 1000) : Fine 3 1000 40000 (dHQ zs qs) := (Fine.tuple (fine_two (fine_strsT hz lz) (fine_prsT hq lq)) (by show 2 ≤ 1000; decide)).mono (by decide) (by decide) (by decide)
theorem fine_l2 {m W : Nat} {a b : PyData} (ha : Fine m 1000 W a) (hb : Fine m 1000 W b) : Fine (m + 1) 1000 (2 * W + 2) (.list [a, b]) := Fine.list (fine_two ha hb) (by show 2 ≤ 1000; decide)
theorem showAll_app : ∀ (xs ys : List PyData), PyData.showableAll (xs ++ ys) = (PyData.showableAll xs && PyData.showableAll ys)
  | [], ys => rfl
  | x :: r, ys => by simp only [List.cons_append, PyData.showableAll, showAll_app r ys, Bool.and_assoc]
theorem depAll_app : ∀ (xs ys : List PyData), PyData.depthAll (xs ++ ys) = max (PyData.depthAll xs) (PyData.depthAll ys)
  | [], ys => by simp [PyData.depthAll]
  | x :: r, ys => by simp only [List.cons_append, PyData.depthAll, depAll_app r ys]; omega
theorem shortAll_app (B : Nat) : ∀ (xs ys : List PyData), PyData.leavesShortAll B (xs ++ ys) = (PyData.leavesShortAll B xs && PyData.leavesShortAll B ys)
  | [], ys => rfl
  | x :: r, ys => by simp only [List.cons_append, PyData.leavesShortAll, shortAll_app B r ys, Bool.and_assoc]
theorem nm_short {z : Str} (h : Nm z) : PyData.leavesShort 13 (.str z) = true := PyData.leavesShort_of_canLay0 13 (.str z) (by show PyData.strOk z = true; exact h.ok) rfl
theorem dss_show : ∀ ks : List (Str × Str), PyData.showableKv (ks.map fun k => (PyData.str k.1, PyData.str k.2)) = true
  | [] => rfl
  | k :: r => by simp only [List.map_cons, PyData.showableKv, PyData.showable, dss_show r, Bool.and_self]
theorem dss_dep : ∀ ks : List (Str × Str), PyData.depthKv (ks.map fun k => (PyData.str k.1, PyData.str k.2)) = 0
  | [] => rfl
  | k :: r => by simp only [List.map_cons, PyData.depthKv, PyData.depth, dss_dep r, Nat.max_self]
theorem dss_short : ∀ {ks : List (Str × Str)}, (∀ k ∈ ks, Nm k.1 ∧ Nm k.2) → PyData.leavesShortKv 13 (ks.map fun k => (PyData.str k.1, PyData.str k.2)) = true
  | [], _ => rfl
  | k :: r, h => by
    have h1 := h k List.mem_cons_self
    simp only [List.map_cons, PyData.leavesShortKv, nm_short h1.1, nm_short h1.2, dss_short fun x hx => h x (List.mem_cons_of_mem _ hx), Bool.and_self]
theorem dss_wgt : ∀ {ks : List (Str × Str)}, (∀ k ∈ ks, Nm k.1 ∧ Nm k.2) → PyData.weightKv (ks.map fun k => (PyData.str k.1, PyData.str k.2)) ≤ 14 * ks.length
  | [], _ => Nat.le_refl _
  | k :: r, h => by
    have h1 := h k List.mem_cons_self
    have h2 := dss_wgt fun x hx => h x (List.mem_cons_of_mem _ hx)
    have e1 : k.1.cps.size ≤ 6 := h1.1.2.1
    have e2 : k.2.cps.size ≤ 6 := h1.2.2.1
    simp only [List.map_cons, PyData.weightKv, PyData.weight, List.length_cons]
    omega
theorem mix_fine {ds : List PyData} {ks : List (Str × Str)} {m w W : Nat} (h : FineL m w W ds) (hm : m ≤ 10) (hW : W ≤ 2 ^ 18) (hk : ∀ k ∈ ks, Nm k.1 ∧ Nm k.2) (hl : ks.length ≤ 100) : (PyData.list (ds ++ [dSS ks])).showable = true ∧ (PyData.list (ds ++ [dSS ks])).depth < 60 ∧ (PyData.list (ds ++ [dSS ks])).shown.length ≤ sizeLine := by
  refine ⟨?_, ?_, ?_⟩
  · simp only [PyData.showable, showAll_app, h.shw, PyData.showableAll, dss_show, Bool.and_self]
  · simp only [PyData.depth, depAll_app, PyData.depthAll, dss_dep]
    have := h.dep
    omega
  · refine PyData.shown_fits (B := 13) (by decide) (by decide) ?_ ?_
    · simp only [PyData.leavesShort, shortAll_app, PyData.leavesShortAll_of_canLay0 13 ds h.lay h.isx, PyData.leavesShortAll, dss_short hk, Bool.and_self]
    · have h1 := dss_wgt hk
      have h2 := h.wgt
      have e : PyData.weight (PyData.list (ds ++ [dSS ks])) = PyData.weightAll ds + PyData.weightAll [dSS ks] := weight_app ds [dSS ks]
      rw [e]
      simp only [PyData.weightAll, PyData.weight]
      have e3 : (2 : Nat) ^ 20 = 1048576 := by decide
      have e4 : (2 : Nat) ^ 18 = 262144 := by decide
      omega
theorem flat_strs : ∀ zs : List Str, flatD.flatAll (zs.map PyData.str) = true
  | [] => rfl
  | z :: r => by simp only [List.map_cons, flatD.flatAll, flatD, flat_strs r, Bool.and_self]
theorem flat_prs : ∀ qs : List (Str × Str), flatD.flatAll (qs.map dPr) = true
  | [] => rfl
  | q :: r => by simp only [List.map_cons, flatD.flatAll, dPr, flatD, flat_prs r, Bool.and_self]
theorem flat_t1 (zs : List Str) : flatD (.tuple (zs.map PyData.str)) = true := by simp only [flatD]; exact flat_strs zs
theorem flat_t2 (qs : List (Str × Str)) : flatD (.tuple (qs.map dPr)) = true := by simp only [flatD]; exact flat_prs qs
/-- the text that stands at the same place -/
def atP (zs ys : List Str) (x : Str) : Str := ys.getD (pos x zs) ""
theorem atP_zip {zs ys : List Str} (nd : zs.Nodup) (hl : ys.length = zs.length) : zs.zip ys = zs.map fun x => (x, atP zs ys x) := by
  refine List.ext_getElem? fun i => ?_
  rw [List.getElem?_map]
  by_cases hi : i < zs.length
  · have h1 : zs[i]? = some zs[i] := List.getElem?_eq_getElem hi
    have h2 : ys[i]? = some ys[i] := List.getElem?_eq_getElem (by omega)
    rw [(List.getElem?_zip_eq_some (l₁ := zs) (l₂ := ys) (i := i) (z := (zs[i], ys[i]'(by omega)))).mpr ⟨h1, h2⟩, h1]
    show _ = some (_, atP zs ys _)
    unfold atP
    rw [pos_at nd h1, List.getD_eq_getElem?_getD, h2]
    rfl
  · rw [List.getElem?_eq_none (by rw [List.length_zip]; omega), List.getElem?_eq_none (by omega)]
    rfl
theorem atP_mem {zs ys : List Str} (hl : ys.length = zs.length) {x : Str} (hx : x ∈ zs) : atP zs ys x ∈ ys := by
  unfold atP
  have := pos_lt hx
  rw [List.getD_eq_getElem?_getD, List.getElem?_eq_getElem (by omega)]
  exact List.getElem_mem _
theorem atP_map {zs ys : List Str} (nd : zs.Nodup) (hl : ys.length = zs.length) : zs.map (atP zs ys) = ys := by
  have e := congrArg (List.map Prod.snd) (atP_zip nd hl)
  rw [List.map_map, List.map_snd_zip (by omega)] at e
  exact e.symm

theorem lc_prs {K : PySem.W.Frag} {J : It} {r : Addr} {as : List Addr} {qs : List (Str × Str)} {H0 : Hp} (wk : Walk J (as.map V.ref).length (Kp K r H0) (YAt (as.map V.ref))) {g : TG} {tt : TT} {te : TE} {vs : List Nat} {σ : L2.St} {H : Hp} {D : Addr} {Qd : Hp → Prop} (nD : H D = none) (hl : as.length = qs.length) (few : qs.length ≤ 100000)
    (hG : ∀ H', Same H H' → Kp K r H0 H') (hat : ∀ (i : Nat) (a : Addr) (q : Str × Str), as[i]? = some a → qs[i]? = some q → Sq K H a [.str q.1, .str q.2]) (f : Str × Str → Str × Str)
    (hs : ∀ (a : Addr) (q : Str × Str) (H1 : Hp), q ∈ qs → Same H H1 → Sq K H1 a [.str q.1, .str q.2] → ∀ (T : V → Hp → Prop) (F : Hp → Prop), (∀ t H2, Same H1 H2 → AtT H2 (t, f q) → T (.ref t) H2) →
      g (.ref a) (wipe σ vs) H1 fun σ2 H5 => wipe σ2 vs = wipe σ vs ∧ tt σ2 H5 fun b H3 => if b = true then te σ2 H3 T else F H3)
    (hd : ∀ (H' : Hp) (us : List TPr), Same H H' → LPs H' D us → us.map (·.2) = qs.map f → Qd H') :
    ∃ W : Nat → Nat → Hp → Prop, (∃ m, W 0 m (upd H D (.lst []))) ∧ ∀ i m H, W i m H →
      (J.stop i H ∧ Qd H) ∨ (J.go i H ∧ ∃ Nx : Hp → Prop, (∀ H', Nx H' → ∃ m', m' < m ∧ W (i + 1) m' H') ∧ ∀ x H', J.yld i H x H' → g x (wipe σ vs) H' fun σ2 H2 => wipe σ2 vs = wipe σ vs ∧ tt σ2 H2 fun b H3 =>
        if b = true then te σ2 H3 fun y H4 => ∃ acc, H4 D = some (.lst acc) ∧ acc.length < sizeLine ∧ Nx (upd H4 D (.lst (acc ++ [y]))) else Nx H3) := by
  refine lc_it wk (fun i Hx => Same H Hx ∧ ∃ us, LPs Hx D us ∧ us.map (·.2) = (qs.take i).map f) ⟨same_upd nD, [], ⟨upd_same, fun p hp => by cases hp⟩, rfl⟩ (fun i Hx _ h => hG _ h.1) ?_ ?_
  · rintro i x H4 H5 hi ⟨s4, us, hus, eus⟩ ⟨rfl, hx⟩
    rw [List.getElem?_map] at hx
    obtain ⟨a, ha, rfl⟩ := Option.map_eq_some_iff.mp hx
    rw [List.length_map] at hi
    have hq : qs[i]? = some qs[i] := List.getElem?_eq_getElem (by omega)
    have hqa := hat i a _ ha hq
    have hqm := List.mem_of_getElem? hq
    generalize qs[i] = q at *
    have hul : us.length ≤ i := by
      have e := congrArg List.length eus
      rw [List.length_map, List.length_map, List.length_take] at e
      omega
    refine hs a q H5 hqm s4 (sameQ s4 hqa) _ _ fun t H2 s2 ht => ?_
    have hu := hus.same s2
    refine ⟨_, hu.1, by rw [rfs_len, sizeLine_eq]; omega, same_put (s4.trans s2) nD, _, hu.push (a := (f q).1) (b := (f q).2) ht, ?_⟩
    rw [List.map_append, eus, List.take_add_one, hq, List.map_append]
    rfl
  · rintro H4 ⟨s4, us, hus, eus⟩
    rw [List.length_map, hl, List.take_length] at eus
    exact hd H4 us s4 hus eus
theorem filt_take {ps : List TPr} {P : Str × Str → Bool} {i : Nat} {p : TPr} (h : ps[i]? = some p) : (ps.take (i + 1)).filter (fun p => P p.2) = (ps.take i).filter (fun p => P p.2) ++ (if P p.2 = true then [p] else []) := by
  rw [List.take_add_one, h, List.filter_append]
  congr 1
  by_cases e : P p.2 = true
  · rw [if_pos e]
    exact List.filter_cons_of_pos e
  · rw [if_neg e]
    exact List.filter_cons_of_neg e
theorem lc_prf {K : PySem.W.Frag} {J : It} {r : Addr} {ps : List TPr} {H0 : Hp} (wk : Walk J (rfs ps).length (Kp K r H0) (YAt (rfs ps))) {g : TG} {tt : TT} {te : TE} {vs : List Nat} {σ : L2.St} {H : Hp} {D : Addr} {Qd : Hp → Prop} (nD : H D = none) (few : ps.length ≤ 100000)
    (hG : ∀ H', Same H H' → Kp K r H0 H') (P : Str × Str → Bool)
    (hs : ∀ (p : TPr) (H1 : Hp), p ∈ ps → Same H H1 → ∀ (T : V → Hp → Prop) (F : Hp → Prop), (P p.2 = true → ∀ H2, Same H1 H2 → T (.ref p.1) H2) → (P p.2 = false → ∀ H2, Same H1 H2 → F H2) →
      g (.ref p.1) (wipe σ vs) H1 fun σ2 H5 => wipe σ2 vs = wipe σ vs ∧ tt σ2 H5 fun b H3 => if b = true then te σ2 H3 T else F H3)
    (hd : ∀ (H' : Hp), Same H H' → H' D = some (.lst (rfs (ps.filter fun p => P p.2))) → Qd H') :
    ∃ W : Nat → Nat → Hp → Prop, (∃ m, W 0 m (upd H D (.lst []))) ∧ ∀ i m H, W i m H →
      (J.stop i H ∧ Qd H) ∨ (J.go i H ∧ ∃ Nx : Hp → Prop, (∀ H', Nx H' → ∃ m', m' < m ∧ W (i + 1) m' H') ∧ ∀ x H', J.yld i H x H' → g x (wipe σ vs) H' fun σ2 H2 => wipe σ2 vs = wipe σ vs ∧ tt σ2 H2 fun b H3 =>
        if b = true then te σ2 H3 fun y H4 => ∃ acc, H4 D = some (.lst acc) ∧ acc.length < sizeLine ∧ Nx (upd H4 D (.lst (acc ++ [y]))) else Nx H3) := by
  refine lc_it wk (fun i Hx => Same H Hx ∧ Hx D = some (.lst (rfs ((ps.take i).filter fun p => P p.2)))) ⟨same_upd nD, upd_same⟩ (fun i Hx _ h => hG _ h.1) ?_ ?_
  · rintro i x H4 H5 hi ⟨s4, hD⟩ ⟨rfl, hx⟩
    obtain ⟨p, hp, rfl⟩ := rfs_at hx
    rw [rfs_len] at hi
    refine hs p H5 (List.mem_of_getElem? hp) s4 _ _ (fun e H2 s2 => ?_) fun e H2 s2 => ?_
    · refine ⟨_, s2 _ _ hD, ?_, same_put (s4.trans s2) nD, ?_⟩
      · have := List.length_filter_le (fun p : TPr => P p.2) (ps.take i)
        rw [List.length_take] at this
        rw [rfs_len, sizeLine_eq]
        omega
      · rw [upd_same, filt_take hp, if_pos e]
        unfold rfs
        rw [List.map_append]
        rfl
    · refine ⟨s4.trans s2, ?_⟩
      rw [filt_take hp, if_neg (by rw [e]; decide), List.append_nil]
      exact s2 _ _ hD
  · rintro H4 ⟨s4, hD⟩
    rw [rfs_len, List.take_length] at hD
    exact hd H4 s4 hD
theorem nw_two {K : PySem.W.Frag} {H H' : Hp} {zs xs : List Str} {L : SL} {y : V} (h : Nw H H' y (lsD (.tuple [.tuple (xs.map PyData.str), dTies L]))) (hL : ∀ p ∈ L, OkP zs p) : ∃ t a b, y = .ref t ∧ H' t = some (.lst [.ref a, .ref b]) ∧ H' a = some (.lst (xs.map V.str)) ∧ PqL K H' b (L.map prOf) := by
  have h : Nw H H' y (.list [.list (lsAll (xs.map PyData.str)), lsD (dTies L)]) := h
  cases h with
  | lst n e a =>
    cases a with
    | cons a1 r =>
      cases r with
      | cons a2 r2 =>
        cases r2
        obtain ⟨b, rfl, nb, hb⟩ := nw_pq (K := K) a2 hL
        cases a1 with
        | lst n1 e1 b1 =>
          rw [nw_strs b1] at e1
          exact ⟨_, _, b, rfl, e, e1, hb⟩
theorem Ties.dpq {K : PySem.W.Frag} {zs : List Str} {H : Hp} {r : Addr} {L : SL} (h : Ties zs H r L) : Dp K H (.ref r) (.tuple ((L.map prOf).map dPr)) := by
  rw [← h.data]
  exact h.dp
/-- ties as pairs at their places -/
def trs (L : SL) : List TPr := L.map fun p => (p.1, prOf p)
theorem trs_snd (L : SL) : (trs L).map (·.2) = L.map prOf := by
  unfold trs
  rw [List.map_map]
  rfl
theorem trs_rf (L : SL) : rf L = rfs (trs L) := by
  unfold trs rfs
  rw [List.map_map]
  rfl
theorem Ties.trs {zs : List Str} {H : Hp} {r : Addr} {L : SL} (h : Ties zs H r L) : Tp H r (rfs (trs L)) ∧ ∀ p ∈ trs L, AtT H p := by
  refine ⟨trs_rf L ▸ h.1, fun p hp => ?_⟩
  obtain ⟨q, hq, rfl⟩ := List.mem_map.mp hp
  obtain ⟨h1, x, y, e, _⟩ := h.2.1 q hq
  rw [e] at h1
  have e2 : prOf q = (x, y) := by
    unfold prOf
    rw [e]
  show H q.1 = some (.tup [.str (prOf q).1, .str (prOf q).2])
  rw [e2]
  exact h1
theorem Tp.keepL {H : Hp} {D t : Addr} {xs ys : List V} {o' : HO} (h : Tp H t ys) (e : H D = some (.lst xs)) : Tp (upd H D o') t ys := by
  obtain ⟨ob, h1, h2⟩ := h
  exact ⟨ob, keep_l e h1 (fun _ z => nomatch z), h2⟩
theorem AtT.keepL {H : Hp} {D : Addr} {p : TPr} {xs : List V} {o' : HO} (h : AtT H p) (e : H D = some (.lst xs)) : AtT (upd H D o') p := keep_l e h (fun _ z => nomatch z)

theorem fmap_take {α : Type} {f : α → Option V} {qs : List α} {i : Nat} {q : α} (h : qs[i]? = some q) : (qs.take (i + 1)).filterMap f = (qs.take i).filterMap f ++ (f q).toList := by
  rw [List.take_add_one, h, List.filterMap_append]
  cases e : f q <;> simp [e]
/-- a list made of pairs: each gives a value, or none -/
theorem lc_pr {K : PySem.W.Frag} {J : It} {r : Addr} {as : List Addr} {qs : List (Str × Str)} {H0 : Hp} (wk : Walk J (as.map V.ref).length (Kp K r H0) (YAt (as.map V.ref))) {g : TG} {tt : TT} {te : TE} {vs : List Nat} {σ : L2.St} {H : Hp} {D : Addr} {Qd : Hp → Prop} (nD : H D = none) (hl : as.length = qs.length) (few : qs.length ≤ 100000)
    (hG : ∀ H', Same H H' → Kp K r H0 H') (hat : ∀ (i : Nat) (a : Addr) (q : Str × Str), as[i]? = some a → qs[i]? = some q → Sq K H a [.str q.1, .str q.2]) (f : Str × Str → Option V)
    (hs : ∀ (a : Addr) (q : Str × Str) (H1 : Hp), q ∈ qs → Same H H1 → Sq K H1 a [.str q.1, .str q.2] → ∀ (T : V → Hp → Prop) (F : Hp → Prop), (∀ y H2, Same H1 H2 → f q = some y → T y H2) → (∀ H2, Same H1 H2 → f q = none → F H2) →
      g (.ref a) (wipe σ vs) H1 fun σ2 H5 => wipe σ2 vs = wipe σ vs ∧ tt σ2 H5 fun b H3 => if b = true then te σ2 H3 T else F H3)
    (hd : ∀ (H' : Hp), Same H H' → H' D = some (.lst (qs.filterMap f)) → Qd H') :
    ∃ W : Nat → Nat → Hp → Prop, (∃ m, W 0 m (upd H D (.lst []))) ∧ ∀ i m H, W i m H →
      (J.stop i H ∧ Qd H) ∨ (J.go i H ∧ ∃ Nx : Hp → Prop, (∀ H', Nx H' → ∃ m', m' < m ∧ W (i + 1) m' H') ∧ ∀ x H', J.yld i H x H' → g x (wipe σ vs) H' fun σ2 H2 => wipe σ2 vs = wipe σ vs ∧ tt σ2 H2 fun b H3 =>
        if b = true then te σ2 H3 fun y H4 => ∃ acc, H4 D = some (.lst acc) ∧ acc.length < sizeLine ∧ Nx (upd H4 D (.lst (acc ++ [y]))) else Nx H3) := by
  refine lc_it wk (fun i Hx => Same H Hx ∧ Hx D = some (.lst ((qs.take i).filterMap f))) ⟨same_upd nD, upd_same⟩ (fun i Hx _ h => hG _ h.1) ?_ ?_
  · rintro i x H4 H5 hi ⟨s4, hD⟩ ⟨rfl, hx⟩
    rw [List.getElem?_map] at hx
    obtain ⟨a, ha, rfl⟩ := Option.map_eq_some_iff.mp hx
    rw [List.length_map] at hi
    have hq : qs[i]? = some qs[i] := List.getElem?_eq_getElem (by omega)
    have hqa := hat i a _ ha hq
    have hqm := List.mem_of_getElem? hq
    generalize qs[i] = q at *
    refine hs a q H5 hqm s4 (sameQ s4 hqa) _ _ (fun y H2 s2 e => ?_) fun H2 s2 e => ?_
    · refine ⟨_, s2 _ _ hD, ?_, same_put (s4.trans s2) nD, ?_⟩
      · have := List.length_filterMap_le f (qs.take i)
        rw [List.length_take] at this
        rw [sizeLine_eq]
        omega
      · rw [upd_same, fmap_take hq, e]
        rfl
    · refine ⟨s4.trans s2, ?_⟩
      rw [fmap_take hq, e]
      exact (s2 _ _ hD).trans (by simp)
  · rintro H4 ⟨s4, hD⟩
    rw [List.length_map, hl, List.take_length] at hD
    exact hd H4 s4 hD
/-- the slots written out -/
theorem sl_cut {u : TS} {D : Ends} {σ : L2.St} {H : Hp} (σ' : L2.St) (e : σ = σ') (h : u D σ' H) : u D σ H := e ▸ h
end HF
/-! comprehensions over texts, told by what each text gives -/
namespace HF
open PySem PySem.Spec PyProof.Rows L2
/-- list(a list, or a tuple) -/
def rLof (K : PySem.W.Frag) : List V → Hp → VK → Prop := fun xs H Q => ∃ p ys, xs = [.ref p] ∧ (SqL K H p ys ∨ SqT K H p ys) ∧ ∀ l, H l = none → Q (.ref l) (upd H l (.lst ys))
theorem fmF {p : Str → Bool} : ∀ zs : List Str, zs.filterMap (fun z => if p z = true then some (V.str z) else none) = (zs.filter p).map V.str
  | [] => rfl
  | z :: r => by
    by_cases e : p z = true
    · rw [List.filterMap_cons, if_pos e, List.filter_cons_of_pos e, List.map_cons, fmF r]
    · rw [List.filterMap_cons, if_neg e, List.filter_cons_of_neg e, fmF r]
theorem fmM {f : Str → V} : ∀ zs : List Str, zs.filterMap (fun z => some (f z)) = zs.map f
  | [] => rfl
  | z :: r => by rw [List.filterMap_cons, List.map_cons, fmM r]
theorem lc_s {K : PySem.W.Frag} {J : It} {a : Addr} {zs : List Str} {H0 : Hp} (wk : Walk J (zs.map V.str).length (Kp K a H0) (YAt (zs.map V.str))) {g : TG} {tt : TT} {te : TE} {vs : List Nat} {σ : L2.St} {H : Hp} {D : Addr} {Qd : Hp → Prop} (nD : H D = none) (few : zs.length ≤ 100000)
    (hG : ∀ H', Same H H' → Kp K a H0 H') (f : Str → Option V)
    (hs : ∀ (i : Nat) (z : Str) (H1 : Hp), zs[i]? = some z → Same H H1 → ∀ (T : V → Hp → Prop) (F : Hp → Prop), (∀ y H4, Same H1 H4 → f z = some y → T y H4) → (∀ H3, Same H1 H3 → f z = none → F H3) →
      g (.str z) (wipe σ vs) H1 fun σ2 H5 => wipe σ2 vs = wipe σ vs ∧ tt σ2 H5 fun b H3 => if b = true then te σ2 H3 T else F H3)
    (hd : ∀ H', Same H H' → H' D = some (.lst (zs.filterMap f)) → Qd H') :
    ∃ W : Nat → Nat → Hp → Prop, (∃ m, W 0 m (upd H D (.lst []))) ∧ ∀ i m H, W i m H →
      (J.stop i H ∧ Qd H) ∨ (J.go i H ∧ ∃ Nx : Hp → Prop, (∀ H', Nx H' → ∃ m', m' < m ∧ W (i + 1) m' H') ∧ ∀ x H', J.yld i H x H' → g x (wipe σ vs) H' fun σ2 H2 => wipe σ2 vs = wipe σ vs ∧ tt σ2 H2 fun b H3 =>
        if b = true then te σ2 H3 fun y H4 => ∃ acc, H4 D = some (.lst acc) ∧ acc.length < sizeLine ∧ Nx (upd H4 D (.lst (acc ++ [y]))) else Nx H3) := by
  have eout : ∀ (i : Nat) (z : Str), zs[i]? = some z → (zs[i]?.bind f) = f z := fun i z e => by rw [e]; rfl
  refine lc_w wk nD (by rw [List.length_map]; exact few) hG (fun i x H1 H2 _ s y => ?_) (fun i => zs[i]?.bind f) (fun i x H1 H2 hi s y T F hT hF => ?_) (fun H' s e => hd H' s ?_)
  · obtain ⟨rfl, _⟩ := y
    exact Same.refl _
  · obtain ⟨rfl, hx⟩ := y
    rw [List.getElem?_map] at hx
    obtain ⟨z, hz, rfl⟩ := Option.map_eq_some_iff.mp hx
    exact hs i z _ hz s T F (fun y H4 s4 e => hT y H4 s4 ((eout i z hz).trans e)) (fun H3 s3 e => hF H3 s3 ((eout i z hz).trans e))
  · rw [List.length_map, fm_map eout] at e
    exact e
end HF
set_option maxHeartbeats 40000000
namespace HF
open PySem PySem.Spec PyProof.Rows L2
abbrev sAll : Stmt := topS 31
abbrev sFie : Stmt := topS 32
abbrev sKin : Stmt := topS 33
abbrev sBas : Stmt := topS 34
abbrev sX0 : Stmt := initOf (topS 2)
abbrev E0 (K : PySem.W.Frag) (mg : Str → Option Value) (C : Addr) := XT K mg "BadText" "BadText.__init__" sX0 "text" "ValueError" "ValueError.__new__" "ValueError.__init__" bmVE C
abbrev sX1 : Stmt := initOf (topS 3)
abbrev E1 (K : PySem.W.Frag) (mg : Str → Option Value) (C : Addr) := XT K mg "BadRow" "BadRow.__init__" sX1 "number" "ValueError" "ValueError.__new__" "ValueError.__init__" bmVE C
abbrev sX2 : Stmt := initOf (topS 4)
abbrev E2 (K : PySem.W.Frag) (mg : Str → Option Value) (C : Addr) := XT K mg "Own" "Own.__init__" sX2 "book" "ValueError" "ValueError.__new__" "ValueError.__init__" bmVE C
abbrev sX3 : Stmt := initOf (topS 5)
abbrev E3 (K : PySem.W.Frag) (mg : Str → Option Value) (C : Addr) := XT K mg "NoName" "NoName.__init__" sX3 "book" "ValueError" "ValueError.__new__" "ValueError.__init__" bmVE C
abbrev sX4 : Stmt := initOf (topS 6)
abbrev E4 (K : PySem.W.Frag) (mg : Str → Option Value) (C : Addr) := XT K mg "NoBook" "NoBook.__init__" sX4 "book" "LookupError" "LookupError.__new__" "LookupError.__init__" bmLE C
abbrev sX5 : Stmt := initOf (topS 7)
abbrev E5 (K : PySem.W.Frag) (mg : Str → Option Value) (C : Addr) := XT K mg "NoTie" "NoTie.__init__" sX5 "pair" "LookupError" "LookupError.__new__" "LookupError.__init__" bmLE C
abbrev sX6 : Stmt := initOf (topS 8)
abbrev E6 (K : PySem.W.Frag) (mg : Str → Option Value) (C : Addr) := XT K mg "NoPlace" "NoPlace.__init__" sX6 "at" "LookupError" "LookupError.__new__" "LookupError.__init__" bmLE C
abbrev sX7 : Stmt := initOf (topS 9)
abbrev E7 (K : PySem.W.Frag) (mg : Str → Option Value) (C : Addr) := XT K mg "NoDeed" "NoDeed.__init__" sX7 "many" "LookupError" "LookupError.__new__" "LookupError.__init__" bmLE C
abbrev sX8 : Stmt := initOf (topS 10)
abbrev E8 (K : PySem.W.Frag) (mg : Str → Option Value) (C : Addr) := XT K mg "MayNot" "MayNot.__init__" sX8 "book" "RuntimeError" "RuntimeError.__new__" "RuntimeError.__init__" bmRE C
abbrev sX9 : Stmt := initOf (topS 11)
abbrev E9 (K : PySem.W.Frag) (mg : Str → Option Value) (C : Addr) := XT K mg "Barred" "Barred.__init__" sX9 "ring" "RuntimeError" "RuntimeError.__new__" "RuntimeError.__init__" bmRE C
abbrev sX10 : Stmt := initOf (topS 12)
abbrev E10 (K : PySem.W.Frag) (mg : Str → Option Value) (C : Addr) := XT K mg "Lost" "Lost.__init__" sX10 "place" "RuntimeError" "RuntimeError.__new__" "RuntimeError.__init__" bmRE C
abbrev sX11 : Stmt := initOf (topS 15)
abbrev E11 (K : PySem.W.Frag) (mg : Str → Option Value) (C : Addr) := XT K mg "Stopped" "Stopped.__init__" sX11 "number" "RuntimeError" "RuntimeError.__new__" "RuntimeError.__init__" bmRE C
abbrev sX12 : Stmt := initOf (topS 16)
abbrev E12 (K : PySem.W.Frag) (mg : Str → Option Value) (C : Addr) := XT K mg "Shared" "Shared.__init__" sX12 "book" "RuntimeError" "RuntimeError.__new__" "RuntimeError.__init__" bmRE C
abbrev sX13 : Stmt := initOf (topS 17)
abbrev E13 (K : PySem.W.Frag) (mg : Str → Option Value) (C : Addr) := XT K mg "Tied" "Tied.__init__" sX13 "pair" "RuntimeError" "RuntimeError.__new__" "RuntimeError.__init__" bmRE C
abbrev sX14 : Stmt := initOf (topS 18)
abbrev E14 (K : PySem.W.Frag) (mg : Str → Option Value) (C : Addr) := XT K mg "Taken" "Taken.__init__" sX14 "book" "RuntimeError" "RuntimeError.__new__" "RuntimeError.__init__" bmRE C
abbrev sX15 : Stmt := initOf (topS 20)
abbrev E15 (K : PySem.W.Frag) (mg : Str → Option Value) (C : Addr) := XT K mg "TooMany" "TooMany.__init__" sX15 "many" "OverflowError" "OverflowError.__new__" "OverflowError.__init__" bmOE C
abbrev sX16 : Stmt := initOf (topS 21)
abbrev E16 (K : PySem.W.Frag) (mg : Str → Option Value) (C : Addr) := XT K mg "Full" "Full.__init__" sX16 "many" "OverflowError" "OverflowError.__new__" "OverflowError.__init__" bmOE C
abbrev E17 (K : PySem.W.Frag) (mg : Str → Option Value) (C : Addr) := XU K mg "Unlike" C bmVE "ValueError.__new__"
abbrev E18 (K : PySem.W.Frag) (mg : Str → Option Value) (C : Addr) := XU K mg "Last" C bmRE "RuntimeError.__new__"
abbrev sX19 : Stmt := initOf (topS 13)
abbrev E19 (K : PySem.W.Frag) (mg : Str → Option Value) (C : Addr) := XT2 K mg "Gap" "Gap.__init__" sX19 "place" "ring" "RuntimeError" "RuntimeError.__new__" "RuntimeError.__init__" bmRE C
abbrev sX20 : Stmt := initOf (topS 14)
abbrev E20 (K : PySem.W.Frag) (mg : Str → Option Value) (C : Addr) := XT2 K mg "Apart" "Apart.__init__" sX20 "one" "other" "RuntimeError" "RuntimeError.__new__" "RuntimeError.__init__" bmRE C
/-- the words of the classes' bases -/
def bsN : List Str := ["value", "value", "value", "value", "lookup", "lookup", "lookup", "lookup", "runtime", "runtime", "runtime", "runtime", "runtime", "runtime", "runtime", "overflow", "overflow", "value", "runtime", "runtime", "runtime"]
def bsT : List String := ["ValueError", "ValueError", "ValueError", "ValueError", "LookupError", "LookupError", "LookupError", "LookupError", "RuntimeError", "RuntimeError", "RuntimeError", "RuntimeError", "RuntimeError", "RuntimeError", "RuntimeError", "OverflowError", "OverflowError", "ValueError", "RuntimeError", "RuntimeError", "RuntimeError"]
def kitsE (K : PySem.W.Frag) (cs : List Addr) : Bool := (List.range 21).all fun i => (List.range 21).all fun j => decide (PySem.W.kitOne K (.ref (cs.getD i 0)) (.ref (cs.getD j 0)) = some (decide (i = j)))
def kitsT (K : PySem.W.Frag) (cs : List Addr) : Bool := (List.range 21).all fun i => ["ValueError", "LookupError", "RuntimeError", "OverflowError", "IndexError", "KeyError", "NotImplementedError"].all fun b => decide (PySem.W.kitOne K (.ref (cs.getD i 0)) (.type b) = some (decide (bsT.getD i "" = b)))
theorem kits_at {K : PySem.W.Frag} {cs : List Addr} (h : kitsE K cs = true) {i j : Nat} (hi : i < 21) (hj : j < 21) : PySem.W.kitOne K (.ref (cs.getD i 0)) (.ref (cs.getD j 0)) = some (decide (i = j)) :=
  of_decide_eq_true (List.all_eq_true.mp (List.all_eq_true.mp h i (List.mem_range.mpr hi)) j (List.mem_range.mpr hj))
theorem kits_ty {K : PySem.W.Frag} {cs : List Addr} (h : kitsT K cs = true) {i : Nat} (hi : i < 21) {b : String} (hb : b ∈ ["ValueError", "LookupError", "RuntimeError", "OverflowError", "IndexError", "KeyError", "NotImplementedError"]) : PySem.W.kitOne K (.ref (cs.getD i 0)) (.type b) = some (decide (bsT.getD i "" = b)) :=
  of_decide_eq_true (List.all_eq_true.mp (List.all_eq_true.mp h i (List.mem_range.mpr hi)) b hb)
theorem kit_any2 {K : PySem.W.Frag} {t c1 c2 : Value} {b1 b2 : Bool} (h1 : PySem.W.kitOne K t c1 = some b1) (h2 : PySem.W.kitOne K t c2 = some b2) : PySem.W.kitAny K t [c1, c2] = some (b1 || b2) := by
  cases b1 <;> cases b2 <;> simp [PySem.W.kitAny, h1, h2]
theorem kit_any3 {K : PySem.W.Frag} {t c1 c2 c3 : Value} {b1 b2 b3 : Bool} (h1 : PySem.W.kitOne K t c1 = some b1) (h2 : PySem.W.kitOne K t c2 = some b2) (h3 : PySem.W.kitOne K t c3 = some b3) : PySem.W.kitAny K t [c1, c2, c3] = some (b1 || b2 || b3) := by
  cases b1 <;> cases b2 <;> cases b3 <;> simp [PySem.W.kitAny, h1, h2, h3]
theorem vals_eq2 {a b : V} {ca cb : Value} (ha : ∀ u, RelV a u → u = ca) (hb : ∀ u, RelV b u → u = cb) : ∀ us, Vals [a, b] us → us = [ca, cb] := fun us h => by
  cases h with
  | cons r1 h =>
    cases h with
    | cons r2 h =>
      cases h
      rw [ha _ r1, hb _ r2]
theorem vals_eq3 {a b c : V} {ca cb cc : Value} (ha : ∀ u, RelV a u → u = ca) (hb : ∀ u, RelV b u → u = cb) (hc : ∀ u, RelV c u → u = cc) : ∀ us, Vals [a, b, c] us → us = [ca, cb, cc] := fun us h => by
  cases h with
  | cons r1 h =>
    cases h with
    | cons r2 h =>
      cases h with
      | cons r3 h =>
        cases h
        rw [ha _ r1, hb _ r2, hc _ r3]
/-- the fields of the i-th kind -/
def fsE (i : Nat) (m n : V) : List (Str × V) := match i with
  | 0 => [("text", m)]
  | 1 => [("number", m)]
  | 2 => [("book", m)]
  | 3 => [("book", m)]
  | 4 => [("book", m)]
  | 5 => [("pair", m)]
  | 6 => [("at", m)]
  | 7 => [("many", m)]
  | 8 => [("book", m)]
  | 9 => [("ring", m)]
  | 10 => [("place", m)]
  | 11 => [("number", m)]
  | 12 => [("book", m)]
  | 13 => [("pair", m)]
  | 14 => [("book", m)]
  | 15 => [("many", m)]
  | 16 => [("many", m)]
  | 19 => [("ring", n), ("place", m)]
  | 20 => [("other", n), ("one", m)]
  | _ => []
/-- what the top has written -/
structure TX (K : PySem.W.Frag) (mg : Str → Option Value) where
  fB : Addr
  dB : FuncData
  FB : Fun K "_law_box" "_law_box" sBox fB dB
  bB : Binds K dB ["_law_script", "_law_k"] []
  gB : mg "_law_box" = some (.ref fB)
  fT : Addr
  dT : FuncData
  FT : Fun K "_law_take" "_law_take" sTake fT dT
  bT : Binds K dT ["_law_box_here", "_law_bound"] []
  gT : mg "_law_take" = some (.ref fT)
  fP : Addr
  dP : FuncData
  FP : Fun K "_law_pick" "_law_pick" sPk fP dP
  bP : Binds K dP ["_law_box_here", "_law_some"] []
  gP : mg "_law_pick" = some (.ref fP)
  fG : Addr
  dG : FuncData
  FG : Fun K "_law_same" "_law_same" sSame fG dG
  bG : Binds K dG ["_law_found", "_law_due"] []
  gG : mg "_law_same" = some (.ref fG)
  fA : Addr
  dA : FuncData
  FA : Fun K "_law_all" "_law_all" sAll fA dA
  bA : Binds K dA ["_law_mine", "_law_its"] []
  gA : mg "_law_all" = some (.ref fA)
  fY : Addr
  dY : FuncData
  FY : Fun K "_law_fields" "_law_fields" sFie fY dY
  bY : Binds K dY ["_law_mine", "_law_its", "_law_error"] []
  gY : mg "_law_fields" = some (.ref fY)
  fN : Addr
  dN : FuncData
  FN : Fun K "_law_kinds" "_law_kinds" sKin fN dN
  bN : Binds K dN ["_law_error"] []
  gN : mg "_law_kinds" = some (.ref fN)
  fS : Addr
  dS : FuncData
  FS : Fun K "_law_bases" "_law_bases" sBas fS dS
  bS : Binds K dS ["_law_error"] []
  gS : mg "_law_bases" = some (.ref fS)
  m_ValueError : mg "ValueError" = none
  m_LookupError : mg "LookupError" = none
  m_RuntimeError : mg "RuntimeError" = none
  m_OverflowError : mg "OverflowError" = none
  m_IndexError : mg "IndexError" = none
  m_KeyError : mg "KeyError" = none
  m_NotImplementedError : mg "NotImplementedError" = none
  m_isinstance : mg "isinstance" = none
  m_len : mg "len" = none
  m_int : mg "int" = none
  m_list : mg "list" = none
  m_tuple : mg "tuple" = none
  m_bool : mg "bool" = none
  m_str : mg "str" = none
  m_all : mg "all" = none
  m_zip : mg "zip" = none
  m_abs : mg "abs" = none
  Cx0 : Addr
  tx0 : E0 K mg Cx0
  Cx1 : Addr
  tx1 : E1 K mg Cx1
  Cx2 : Addr
  tx2 : E2 K mg Cx2
  Cx3 : Addr
  tx3 : E3 K mg Cx3
  Cx4 : Addr
  tx4 : E4 K mg Cx4
  Cx5 : Addr
  tx5 : E5 K mg Cx5
  Cx6 : Addr
  tx6 : E6 K mg Cx6
  Cx7 : Addr
  tx7 : E7 K mg Cx7
  Cx8 : Addr
  tx8 : E8 K mg Cx8
  Cx9 : Addr
  tx9 : E9 K mg Cx9
  Cx10 : Addr
  tx10 : E10 K mg Cx10
  Cx11 : Addr
  tx11 : E11 K mg Cx11
  Cx12 : Addr
  tx12 : E12 K mg Cx12
  Cx13 : Addr
  tx13 : E13 K mg Cx13
  Cx14 : Addr
  tx14 : E14 K mg Cx14
  Cx15 : Addr
  tx15 : E15 K mg Cx15
  Cx16 : Addr
  tx16 : E16 K mg Cx16
  Cx17 : Addr
  tx17 : E17 K mg Cx17
  Cx18 : Addr
  tx18 : E18 K mg Cx18
  Cx19 : Addr
  tx19 : E19 K mg Cx19
  Cx20 : Addr
  tx20 : E20 K mg Cx20
  kit : kitsE K [Cx0, Cx1, Cx2, Cx3, Cx4, Cx5, Cx6, Cx7, Cx8, Cx9, Cx10, Cx11, Cx12, Cx13, Cx14, Cx15, Cx16, Cx17, Cx18, Cx19, Cx20] = true
  kin : kitsT K [Cx0, Cx1, Cx2, Cx3, Cx4, Cx5, Cx6, Cx7, Cx8, Cx9, Cx10, Cx11, Cx12, Cx13, Cx14, Cx15, Cx16, Cx17, Cx18, Cx19, Cx20] = true
  tkMOST_RINGS : Tok
  gMOST_RINGS : mg "MOST_RINGS" = some (.int 300 tkMOST_RINGS)
  tkMOST_KNOT : Tok
  gMOST_KNOT : mg "MOST_KNOT" = some (.int 6 tkMOST_KNOT)
  tkMOST_LED : Tok
  gMOST_LED : mg "MOST_LED" = some (.int 800 tkMOST_LED)
  tkMOST_GOINGS : Tok
  gMOST_GOINGS : mg "MOST_GOINGS" = some (.int 8 tkMOST_GOINGS)
abbrev TX.cs {K : PySem.W.Frag} {mg : Str → Option Value} (t : TX K mg) : List Addr := [t.Cx0, t.Cx1, t.Cx2, t.Cx3, t.Cx4, t.Cx5, t.Cx6, t.Cx7, t.Cx8, t.Cx9, t.Cx10, t.Cx11, t.Cx12, t.Cx13, t.Cx14, t.Cx15, t.Cx16, t.Cx17, t.Cx18, t.Cx19, t.Cx20]
theorem TX.xis {K : PySem.W.Frag} {mg : Str → Option Value} (t : TX K mg) : ∀ i, i < 21 → XIs K (t.cs.getD i 0) := fun i h => match i, h with
  | 0, _ => t.tx0.I
  | 1, _ => t.tx1.I
  | 2, _ => t.tx2.I
  | 3, _ => t.tx3.I
  | 4, _ => t.tx4.I
  | 5, _ => t.tx5.I
  | 6, _ => t.tx6.I
  | 7, _ => t.tx7.I
  | 8, _ => t.tx8.I
  | 9, _ => t.tx9.I
  | 10, _ => t.tx10.I
  | 11, _ => t.tx11.I
  | 12, _ => t.tx12.I
  | 13, _ => t.tx13.I
  | 14, _ => t.tx14.I
  | 15, _ => t.tx15.I
  | 16, _ => t.tx16.I
  | 17, _ => t.tx17.I
  | 18, _ => t.tx18.I
  | 19, _ => t.tx19.I
  | 20, _ => t.tx20.I
  | i + 21, h => absurd h (by omega)
section
variable {P : Program} {w : World} {K : PySem.W.Frag} {mg : Str → Option Value} {base : Heap}
theorem scX0 : FnScope ["self", "text"] ["self", "text"] (defScope sX0) := ⟨rfl, rfl, rfl, by decide +kernel, rfl, by decide +kernel, by decide +kernel⟩
theorem ok_E0 {C : Addr} {k : Nat} (t : E0 K mg C) (mB : mg "ValueError" = none) : FnOk P w K mg base CX0 (k + 1) t.fI t.dI ["self", "text"] (spXI C "text") := by
  refine t.F.ok scX0 (fun vs H Q E h => ?_) (fun cdv A outer s H vs Q E hr h => ?_)
  · obtain ⟨a, v, rfl, _⟩ := h
    rfl
  · obtain ⟨a, v, rfl, ha, q⟩ := h
    refine ⟨_, pss_cons (ps_expr (pe_binit (B := "ValueError") (newId := "ValueError.__new__") (initId := "ValueError.__init__") (bmB := bmVE) (by rfl) mB (by decide +kernel) (by decide) (by decide) (by kernel_rfl) (by decide +kernel) (by decide +kernel) t.vV (pa_cons (pv 0) (pa_cons pe_str pa_nil))))
      (pss_one (ps_xst (B := "ValueError") (newId := "ValueError.__new__") (initId := "ValueError.__init__") (bmB := bmVE) (pv 0) (pv 1))), ?_⟩
    refine ⟨.ref a, rfl, a, C, _, rfl, (by decide : (1 : Nat) ≤ 1000), t.T, ha, v, rfl, .ref a, rfl, a, C, rfl, t.T, t.no, ha, fun dx n1 n2 => ?_⟩
    exact q dx n1 n2
theorem kb_E0 {C : Addr} (t : E0 K mg C) : KBn K t.dI ["self", "text"] 1 ["text"] gkA gkA := by
  obtain ⟨oc, od, kV, doc, pm, an, cdv, ct, osl, e, lk, hcd⟩ := t.F.ex
  refine ⟨fun s us ws _ h1 h2 => ?_, fun h1 h2 => h1.append h2⟩
  rw [e]
  match us, ws, h1, h2 with
  | [_], [_], _, _ => exact .of_eq rfl
theorem scX1 : FnScope ["self", "number"] ["self", "number"] (defScope sX1) := ⟨rfl, rfl, rfl, by decide +kernel, rfl, by decide +kernel, by decide +kernel⟩
theorem ok_E1 {C : Addr} {k : Nat} (t : E1 K mg C) (mB : mg "ValueError" = none) : FnOk P w K mg base CX0 (k + 1) t.fI t.dI ["self", "number"] (spXI C "number") := by
  refine t.F.ok scX1 (fun vs H Q E h => ?_) (fun cdv A outer s H vs Q E hr h => ?_)
  · obtain ⟨a, v, rfl, _⟩ := h
    rfl
  · obtain ⟨a, v, rfl, ha, q⟩ := h
    refine ⟨_, pss_cons (ps_expr (pe_binit (B := "ValueError") (newId := "ValueError.__new__") (initId := "ValueError.__init__") (bmB := bmVE) (by rfl) mB (by decide +kernel) (by decide) (by decide) (by kernel_rfl) (by decide +kernel) (by decide +kernel) t.vV (pa_cons (pv 0) (pa_cons pe_str pa_nil))))
      (pss_one (ps_xst (B := "ValueError") (newId := "ValueError.__new__") (initId := "ValueError.__init__") (bmB := bmVE) (pv 0) (pv 1))), ?_⟩
    refine ⟨.ref a, rfl, a, C, _, rfl, (by decide : (1 : Nat) ≤ 1000), t.T, ha, v, rfl, .ref a, rfl, a, C, rfl, t.T, t.no, ha, fun dx n1 n2 => ?_⟩
    exact q dx n1 n2
theorem kb_E1 {C : Addr} (t : E1 K mg C) : KBn K t.dI ["self", "number"] 1 ["number"] gkA gkA := by
  obtain ⟨oc, od, kV, doc, pm, an, cdv, ct, osl, e, lk, hcd⟩ := t.F.ex
  refine ⟨fun s us ws _ h1 h2 => ?_, fun h1 h2 => h1.append h2⟩
  rw [e]
  match us, ws, h1, h2 with
  | [_], [_], _, _ => exact .of_eq rfl
theorem scX2 : FnScope ["self", "book"] ["self", "book"] (defScope sX2) := ⟨rfl, rfl, rfl, by decide +kernel, rfl, by decide +kernel, by decide +kernel⟩
theorem ok_E2 {C : Addr} {k : Nat} (t : E2 K mg C) (mB : mg "ValueError" = none) : FnOk P w K mg base CX0 (k + 1) t.fI t.dI ["self", "book"] (spXI C "book") := by
  refine t.F.ok scX2 (fun vs H Q E h => ?_) (fun cdv A outer s H vs Q E hr h => ?_)
  · obtain ⟨a, v, rfl, _⟩ := h
    rfl
  · obtain ⟨a, v, rfl, ha, q⟩ := h
    refine ⟨_, pss_cons (ps_expr (pe_binit (B := "ValueError") (newId := "ValueError.__new__") (initId := "ValueError.__init__") (bmB := bmVE) (by rfl) mB (by decide +kernel) (by decide) (by decide) (by kernel_rfl) (by decide +kernel) (by decide +kernel) t.vV (pa_cons (pv 0) (pa_cons pe_str pa_nil))))
      (pss_one (ps_xst (B := "ValueError") (newId := "ValueError.__new__") (initId := "ValueError.__init__") (bmB := bmVE) (pv 0) (pv 1))), ?_⟩
    refine ⟨.ref a, rfl, a, C, _, rfl, (by decide : (1 : Nat) ≤ 1000), t.T, ha, v, rfl, .ref a, rfl, a, C, rfl, t.T, t.no, ha, fun dx n1 n2 => ?_⟩
    exact q dx n1 n2
theorem kb_E2 {C : Addr} (t : E2 K mg C) : KBn K t.dI ["self", "book"] 1 ["book"] gkA gkA := by
  obtain ⟨oc, od, kV, doc, pm, an, cdv, ct, osl, e, lk, hcd⟩ := t.F.ex
  refine ⟨fun s us ws _ h1 h2 => ?_, fun h1 h2 => h1.append h2⟩
  rw [e]
  match us, ws, h1, h2 with
  | [_], [_], _, _ => exact .of_eq rfl
theorem scX3 : FnScope ["self", "book"] ["self", "book"] (defScope sX3) := ⟨rfl, rfl, rfl, by decide +kernel, rfl, by decide +kernel, by decide +kernel⟩
theorem ok_E3 {C : Addr} {k : Nat} (t : E3 K mg C) (mB : mg "ValueError" = none) : FnOk P w K mg base CX0 (k + 1) t.fI t.dI ["self", "book"] (spXI C "book") := by
  refine t.F.ok scX3 (fun vs H Q E h => ?_) (fun cdv A outer s H vs Q E hr h => ?_)
  · obtain ⟨a, v, rfl, _⟩ := h
    rfl
  · obtain ⟨a, v, rfl, ha, q⟩ := h
    refine ⟨_, pss_cons (ps_expr (pe_binit (B := "ValueError") (newId := "ValueError.__new__") (initId := "ValueError.__init__") (bmB := bmVE) (by rfl) mB (by decide +kernel) (by decide) (by decide) (by kernel_rfl) (by decide +kernel) (by decide +kernel) t.vV (pa_cons (pv 0) (pa_cons pe_str pa_nil))))
      (pss_one (ps_xst (B := "ValueError") (newId := "ValueError.__new__") (initId := "ValueError.__init__") (bmB := bmVE) (pv 0) (pv 1))), ?_⟩
    refine ⟨.ref a, rfl, a, C, _, rfl, (by decide : (1 : Nat) ≤ 1000), t.T, ha, v, rfl, .ref a, rfl, a, C, rfl, t.T, t.no, ha, fun dx n1 n2 => ?_⟩
    exact q dx n1 n2
theorem kb_E3 {C : Addr} (t : E3 K mg C) : KBn K t.dI ["self", "book"] 1 ["book"] gkA gkA := by
  obtain ⟨oc, od, kV, doc, pm, an, cdv, ct, osl, e, lk, hcd⟩ := t.F.ex
  refine ⟨fun s us ws _ h1 h2 => ?_, fun h1 h2 => h1.append h2⟩
  rw [e]
  match us, ws, h1, h2 with
  | [_], [_], _, _ => exact .of_eq rfl
theorem scX4 : FnScope ["self", "book"] ["self", "book"] (defScope sX4) := ⟨rfl, rfl, rfl, by decide +kernel, rfl, by decide +kernel, by decide +kernel⟩
theorem ok_E4 {C : Addr} {k : Nat} (t : E4 K mg C) (mB : mg "LookupError" = none) : FnOk P w K mg base CX0 (k + 1) t.fI t.dI ["self", "book"] (spXI C "book") := by
  refine t.F.ok scX4 (fun vs H Q E h => ?_) (fun cdv A outer s H vs Q E hr h => ?_)
  · obtain ⟨a, v, rfl, _⟩ := h
    rfl
  · obtain ⟨a, v, rfl, ha, q⟩ := h
    refine ⟨_, pss_cons (ps_expr (pe_binit (B := "LookupError") (newId := "LookupError.__new__") (initId := "LookupError.__init__") (bmB := bmLE) (by rfl) mB (by decide +kernel) (by decide) (by decide) (by kernel_rfl) (by decide +kernel) (by decide +kernel) t.vV (pa_cons (pv 0) (pa_cons pe_str pa_nil))))
      (pss_one (ps_xst (B := "LookupError") (newId := "LookupError.__new__") (initId := "LookupError.__init__") (bmB := bmLE) (pv 0) (pv 1))), ?_⟩
    refine ⟨.ref a, rfl, a, C, _, rfl, (by decide : (1 : Nat) ≤ 1000), t.T, ha, v, rfl, .ref a, rfl, a, C, rfl, t.T, t.no, ha, fun dx n1 n2 => ?_⟩
    exact q dx n1 n2
theorem kb_E4 {C : Addr} (t : E4 K mg C) : KBn K t.dI ["self", "book"] 1 ["book"] gkA gkA := by
  obtain ⟨oc, od, kV, doc, pm, an, cdv, ct, osl, e, lk, hcd⟩ := t.F.ex
  refine ⟨fun s us ws _ h1 h2 => ?_, fun h1 h2 => h1.append h2⟩
  rw [e]
  match us, ws, h1, h2 with
  | [_], [_], _, _ => exact .of_eq rfl
theorem scX5 : FnScope ["self", "pair"] ["self", "pair"] (defScope sX5) := ⟨rfl, rfl, rfl, by decide +kernel, rfl, by decide +kernel, by decide +kernel⟩
theorem ok_E5 {C : Addr} {k : Nat} (t : E5 K mg C) (mB : mg "LookupError" = none) : FnOk P w K mg base CX0 (k + 1) t.fI t.dI ["self", "pair"] (spXI C "pair") := by
  refine t.F.ok scX5 (fun vs H Q E h => ?_) (fun cdv A outer s H vs Q E hr h => ?_)
  · obtain ⟨a, v, rfl, _⟩ := h
    rfl
  · obtain ⟨a, v, rfl, ha, q⟩ := h
    refine ⟨_, pss_cons (ps_expr (pe_binit (B := "LookupError") (newId := "LookupError.__new__") (initId := "LookupError.__init__") (bmB := bmLE) (by rfl) mB (by decide +kernel) (by decide) (by decide) (by kernel_rfl) (by decide +kernel) (by decide +kernel) t.vV (pa_cons (pv 0) (pa_cons pe_str pa_nil))))
      (pss_one (ps_xst (B := "LookupError") (newId := "LookupError.__new__") (initId := "LookupError.__init__") (bmB := bmLE) (pv 0) (pv 1))), ?_⟩
    refine ⟨.ref a, rfl, a, C, _, rfl, (by decide : (1 : Nat) ≤ 1000), t.T, ha, v, rfl, .ref a, rfl, a, C, rfl, t.T, t.no, ha, fun dx n1 n2 => ?_⟩
    exact q dx n1 n2
theorem kb_E5 {C : Addr} (t : E5 K mg C) : KBn K t.dI ["self", "pair"] 1 ["pair"] gkA gkA := by
  obtain ⟨oc, od, kV, doc, pm, an, cdv, ct, osl, e, lk, hcd⟩ := t.F.ex
  refine ⟨fun s us ws _ h1 h2 => ?_, fun h1 h2 => h1.append h2⟩
  rw [e]
  match us, ws, h1, h2 with
  | [_], [_], _, _ => exact .of_eq rfl
theorem scX6 : FnScope ["self", "at"] ["self", "at"] (defScope sX6) := ⟨rfl, rfl, rfl, by decide +kernel, rfl, by decide +kernel, by decide +kernel⟩
theorem ok_E6 {C : Addr} {k : Nat} (t : E6 K mg C) (mB : mg "LookupError" = none) : FnOk P w K mg base CX0 (k + 1) t.fI t.dI ["self", "at"] (spXI C "at") := by
  refine t.F.ok scX6 (fun vs H Q E h => ?_) (fun cdv A outer s H vs Q E hr h => ?_)
  · obtain ⟨a, v, rfl, _⟩ := h
    rfl
  · obtain ⟨a, v, rfl, ha, q⟩ := h
    refine ⟨_, pss_cons (ps_expr (pe_binit (B := "LookupError") (newId := "LookupError.__new__") (initId := "LookupError.__init__") (bmB := bmLE) (by rfl) mB (by decide +kernel) (by decide) (by decide) (by kernel_rfl) (by decide +kernel) (by decide +kernel) t.vV (pa_cons (pv 0) (pa_cons pe_str pa_nil))))
      (pss_one (ps_xst (B := "LookupError") (newId := "LookupError.__new__") (initId := "LookupError.__init__") (bmB := bmLE) (pv 0) (pv 1))), ?_⟩
    refine ⟨.ref a, rfl, a, C, _, rfl, (by decide : (1 : Nat) ≤ 1000), t.T, ha, v, rfl, .ref a, rfl, a, C, rfl, t.T, t.no, ha, fun dx n1 n2 => ?_⟩
    exact q dx n1 n2
theorem kb_E6 {C : Addr} (t : E6 K mg C) : KBn K t.dI ["self", "at"] 1 ["at"] gkA gkA := by
  obtain ⟨oc, od, kV, doc, pm, an, cdv, ct, osl, e, lk, hcd⟩ := t.F.ex
  refine ⟨fun s us ws _ h1 h2 => ?_, fun h1 h2 => h1.append h2⟩
  rw [e]
  match us, ws, h1, h2 with
  | [_], [_], _, _ => exact .of_eq rfl
theorem scX7 : FnScope ["self", "many"] ["self", "many"] (defScope sX7) := ⟨rfl, rfl, rfl, by decide +kernel, rfl, by decide +kernel, by decide +kernel⟩
theorem ok_E7 {C : Addr} {k : Nat} (t : E7 K mg C) (mB : mg "LookupError" = none) : FnOk P w K mg base CX0 (k + 1) t.fI t.dI ["self", "many"] (spXI C "many") := by
  refine t.F.ok scX7 (fun vs H Q E h => ?_) (fun cdv A outer s H vs Q E hr h => ?_)
  · obtain ⟨a, v, rfl, _⟩ := h
    rfl
  · obtain ⟨a, v, rfl, ha, q⟩ := h
    refine ⟨_, pss_cons (ps_expr (pe_binit (B := "LookupError") (newId := "LookupError.__new__") (initId := "LookupError.__init__") (bmB := bmLE) (by rfl) mB (by decide +kernel) (by decide) (by decide) (by kernel_rfl) (by decide +kernel) (by decide +kernel) t.vV (pa_cons (pv 0) (pa_cons pe_str pa_nil))))
      (pss_one (ps_xst (B := "LookupError") (newId := "LookupError.__new__") (initId := "LookupError.__init__") (bmB := bmLE) (pv 0) (pv 1))), ?_⟩
    refine ⟨.ref a, rfl, a, C, _, rfl, (by decide : (1 : Nat) ≤ 1000), t.T, ha, v, rfl, .ref a, rfl, a, C, rfl, t.T, t.no, ha, fun dx n1 n2 => ?_⟩
    exact q dx n1 n2
theorem kb_E7 {C : Addr} (t : E7 K mg C) : KBn K t.dI ["self", "many"] 1 ["many"] gkA gkA := by
  obtain ⟨oc, od, kV, doc, pm, an, cdv, ct, osl, e, lk, hcd⟩ := t.F.ex
  refine ⟨fun s us ws _ h1 h2 => ?_, fun h1 h2 => h1.append h2⟩
  rw [e]
  match us, ws, h1, h2 with
  | [_], [_], _, _ => exact .of_eq rfl
theorem scX8 : FnScope ["self", "book"] ["self", "book"] (defScope sX8) := ⟨rfl, rfl, rfl, by decide +kernel, rfl, by decide +kernel, by decide +kernel⟩
theorem ok_E8 {C : Addr} {k : Nat} (t : E8 K mg C) (mB : mg "RuntimeError" = none) : FnOk P w K mg base CX0 (k + 1) t.fI t.dI ["self", "book"] (spXI C "book") := by
  refine t.F.ok scX8 (fun vs H Q E h => ?_) (fun cdv A outer s H vs Q E hr h => ?_)
  · obtain ⟨a, v, rfl, _⟩ := h
    rfl
  · obtain ⟨a, v, rfl, ha, q⟩ := h
    refine ⟨_, pss_cons (ps_expr (pe_binit (B := "RuntimeError") (newId := "RuntimeError.__new__") (initId := "RuntimeError.__init__") (bmB := bmRE) (by rfl) mB (by decide +kernel) (by decide) (by decide) (by kernel_rfl) (by decide +kernel) (by decide +kernel) t.vV (pa_cons (pv 0) (pa_cons pe_str pa_nil))))
      (pss_one (ps_xst (B := "RuntimeError") (newId := "RuntimeError.__new__") (initId := "RuntimeError.__init__") (bmB := bmRE) (pv 0) (pv 1))), ?_⟩
    refine ⟨.ref a, rfl, a, C, _, rfl, (by decide : (1 : Nat) ≤ 1000), t.T, ha, v, rfl, .ref a, rfl, a, C, rfl, t.T, t.no, ha, fun dx n1 n2 => ?_⟩
    exact q dx n1 n2
theorem kb_E8 {C : Addr} (t : E8 K mg C) : KBn K t.dI ["self", "book"] 1 ["book"] gkA gkA := by
  obtain ⟨oc, od, kV, doc, pm, an, cdv, ct, osl, e, lk, hcd⟩ := t.F.ex
  refine ⟨fun s us ws _ h1 h2 => ?_, fun h1 h2 => h1.append h2⟩
  rw [e]
  match us, ws, h1, h2 with
  | [_], [_], _, _ => exact .of_eq rfl
theorem scX9 : FnScope ["self", "ring"] ["self", "ring"] (defScope sX9) := ⟨rfl, rfl, rfl, by decide +kernel, rfl, by decide +kernel, by decide +kernel⟩
theorem ok_E9 {C : Addr} {k : Nat} (t : E9 K mg C) (mB : mg "RuntimeError" = none) : FnOk P w K mg base CX0 (k + 1) t.fI t.dI ["self", "ring"] (spXI C "ring") := by
  refine t.F.ok scX9 (fun vs H Q E h => ?_) (fun cdv A outer s H vs Q E hr h => ?_)
  · obtain ⟨a, v, rfl, _⟩ := h
    rfl
  · obtain ⟨a, v, rfl, ha, q⟩ := h
    refine ⟨_, pss_cons (ps_expr (pe_binit (B := "RuntimeError") (newId := "RuntimeError.__new__") (initId := "RuntimeError.__init__") (bmB := bmRE) (by rfl) mB (by decide +kernel) (by decide) (by decide) (by kernel_rfl) (by decide +kernel) (by decide +kernel) t.vV (pa_cons (pv 0) (pa_cons pe_str pa_nil))))
      (pss_one (ps_xst (B := "RuntimeError") (newId := "RuntimeError.__new__") (initId := "RuntimeError.__init__") (bmB := bmRE) (pv 0) (pv 1))), ?_⟩
    refine ⟨.ref a, rfl, a, C, _, rfl, (by decide : (1 : Nat) ≤ 1000), t.T, ha, v, rfl, .ref a, rfl, a, C, rfl, t.T, t.no, ha, fun dx n1 n2 => ?_⟩
    exact q dx n1 n2
theorem kb_E9 {C : Addr} (t : E9 K mg C) : KBn K t.dI ["self", "ring"] 1 ["ring"] gkA gkA := by
  obtain ⟨oc, od, kV, doc, pm, an, cdv, ct, osl, e, lk, hcd⟩ := t.F.ex
  refine ⟨fun s us ws _ h1 h2 => ?_, fun h1 h2 => h1.append h2⟩
  rw [e]
  match us, ws, h1, h2 with
  | [_], [_], _, _ => exact .of_eq rfl
theorem scX10 : FnScope ["self", "place"] ["self", "place"] (defScope sX10) := ⟨rfl, rfl, rfl, by decide +kernel, rfl, by decide +kernel, by decide +kernel⟩
theorem ok_E10 {C : Addr} {k : Nat} (t : E10 K mg C) (mB : mg "RuntimeError" = none) : FnOk P w K mg base CX0 (k + 1) t.fI t.dI ["self", "place"] (spXI C "place") := by
  refine t.F.ok scX10 (fun vs H Q E h => ?_) (fun cdv A outer s H vs Q E hr h => ?_)
  · obtain ⟨a, v, rfl, _⟩ := h
    rfl
  · obtain ⟨a, v, rfl, ha, q⟩ := h
    refine ⟨_, pss_cons (ps_expr (pe_binit (B := "RuntimeError") (newId := "RuntimeError.__new__") (initId := "RuntimeError.__init__") (bmB := bmRE) (by rfl) mB (by decide +kernel) (by decide) (by decide) (by kernel_rfl) (by decide +kernel) (by decide +kernel) t.vV (pa_cons (pv 0) (pa_cons pe_str pa_nil))))
      (pss_one (ps_xst (B := "RuntimeError") (newId := "RuntimeError.__new__") (initId := "RuntimeError.__init__") (bmB := bmRE) (pv 0) (pv 1))), ?_⟩
    refine ⟨.ref a, rfl, a, C, _, rfl, (by decide : (1 : Nat) ≤ 1000), t.T, ha, v, rfl, .ref a, rfl, a, C, rfl, t.T, t.no, ha, fun dx n1 n2 => ?_⟩
    exact q dx n1 n2
theorem kb_E10 {C : Addr} (t : E10 K mg C) : KBn K t.dI ["self", "place"] 1 ["place"] gkA gkA := by
  obtain ⟨oc, od, kV, doc, pm, an, cdv, ct, osl, e, lk, hcd⟩ := t.F.ex
  refine ⟨fun s us ws _ h1 h2 => ?_, fun h1 h2 => h1.append h2⟩
  rw [e]
  match us, ws, h1, h2 with
  | [_], [_], _, _ => exact .of_eq rfl
theorem scX11 : FnScope ["self", "number"] ["self", "number"] (defScope sX11) := ⟨rfl, rfl, rfl, by decide +kernel, rfl, by decide +kernel, by decide +kernel⟩
theorem ok_E11 {C : Addr} {k : Nat} (t : E11 K mg C) (mB : mg "RuntimeError" = none) : FnOk P w K mg base CX0 (k + 1) t.fI t.dI ["self", "number"] (spXI C "number") := by
  refine t.F.ok scX11 (fun vs H Q E h => ?_) (fun cdv A outer s H vs Q E hr h => ?_)
  · obtain ⟨a, v, rfl, _⟩ := h
    rfl
  · obtain ⟨a, v, rfl, ha, q⟩ := h
    refine ⟨_, pss_cons (ps_expr (pe_binit (B := "RuntimeError") (newId := "RuntimeError.__new__") (initId := "RuntimeError.__init__") (bmB := bmRE) (by rfl) mB (by decide +kernel) (by decide) (by decide) (by kernel_rfl) (by decide +kernel) (by decide +kernel) t.vV (pa_cons (pv 0) (pa_cons pe_str pa_nil))))
      (pss_one (ps_xst (B := "RuntimeError") (newId := "RuntimeError.__new__") (initId := "RuntimeError.__init__") (bmB := bmRE) (pv 0) (pv 1))), ?_⟩
    refine ⟨.ref a, rfl, a, C, _, rfl, (by decide : (1 : Nat) ≤ 1000), t.T, ha, v, rfl, .ref a, rfl, a, C, rfl, t.T, t.no, ha, fun dx n1 n2 => ?_⟩
    exact q dx n1 n2
theorem kb_E11 {C : Addr} (t : E11 K mg C) : KBn K t.dI ["self", "number"] 1 ["number"] gkA gkA := by
  obtain ⟨oc, od, kV, doc, pm, an, cdv, ct, osl, e, lk, hcd⟩ := t.F.ex
  refine ⟨fun s us ws _ h1 h2 => ?_, fun h1 h2 => h1.append h2⟩
  rw [e]
  match us, ws, h1, h2 with
  | [_], [_], _, _ => exact .of_eq rfl
theorem scX12 : FnScope ["self", "book"] ["self", "book"] (defScope sX12) := ⟨rfl, rfl, rfl, by decide +kernel, rfl, by decide +kernel, by decide +kernel⟩
theorem ok_E12 {C : Addr} {k : Nat} (t : E12 K mg C) (mB : mg "RuntimeError" = none) : FnOk P w K mg base CX0 (k + 1) t.fI t.dI ["self", "book"] (spXI C "book") := by
  refine t.F.ok scX12 (fun vs H Q E h => ?_) (fun cdv A outer s H vs Q E hr h => ?_)
  · obtain ⟨a, v, rfl, _⟩ := h
    rfl
  · obtain ⟨a, v, rfl, ha, q⟩ := h
    refine ⟨_, pss_cons (ps_expr (pe_binit (B := "RuntimeError") (newId := "RuntimeError.__new__") (initId := "RuntimeError.__init__") (bmB := bmRE) (by rfl) mB (by decide +kernel) (by decide) (by decide) (by kernel_rfl) (by decide +kernel) (by decide +kernel) t.vV (pa_cons (pv 0) (pa_cons pe_str pa_nil))))
      (pss_one (ps_xst (B := "RuntimeError") (newId := "RuntimeError.__new__") (initId := "RuntimeError.__init__") (bmB := bmRE) (pv 0) (pv 1))), ?_⟩
    refine ⟨.ref a, rfl, a, C, _, rfl, (by decide : (1 : Nat) ≤ 1000), t.T, ha, v, rfl, .ref a, rfl, a, C, rfl, t.T, t.no, ha, fun dx n1 n2 => ?_⟩
    exact q dx n1 n2
theorem kb_E12 {C : Addr} (t : E12 K mg C) : KBn K t.dI ["self", "book"] 1 ["book"] gkA gkA := by
  obtain ⟨oc, od, kV, doc, pm, an, cdv, ct, osl, e, lk, hcd⟩ := t.F.ex
  refine ⟨fun s us ws _ h1 h2 => ?_, fun h1 h2 => h1.append h2⟩
  rw [e]
  match us, ws, h1, h2 with
  | [_], [_], _, _ => exact .of_eq rfl
theorem scX13 : FnScope ["self", "pair"] ["self", "pair"] (defScope sX13) := ⟨rfl, rfl, rfl, by decide +kernel, rfl, by decide +kernel, by decide +kernel⟩
theorem ok_E13 {C : Addr} {k : Nat} (t : E13 K mg C) (mB : mg "RuntimeError" = none) : FnOk P w K mg base CX0 (k + 1) t.fI t.dI ["self", "pair"] (spXI C "pair") := by
  refine t.F.ok scX13 (fun vs H Q E h => ?_) (fun cdv A outer s H vs Q E hr h => ?_)
  · obtain ⟨a, v, rfl, _⟩ := h
    rfl
  · obtain ⟨a, v, rfl, ha, q⟩ := h
    refine ⟨_, pss_cons (ps_expr (pe_binit (B := "RuntimeError") (newId := "RuntimeError.__new__") (initId := "RuntimeError.__init__") (bmB := bmRE) (by rfl) mB (by decide +kernel) (by decide) (by decide) (by kernel_rfl) (by decide +kernel) (by decide +kernel) t.vV (pa_cons (pv 0) (pa_cons pe_str pa_nil))))
      (pss_one (ps_xst (B := "RuntimeError") (newId := "RuntimeError.__new__") (initId := "RuntimeError.__init__") (bmB := bmRE) (pv 0) (pv 1))), ?_⟩
    refine ⟨.ref a, rfl, a, C, _, rfl, (by decide : (1 : Nat) ≤ 1000), t.T, ha, v, rfl, .ref a, rfl, a, C, rfl, t.T, t.no, ha, fun dx n1 n2 => ?_⟩
    exact q dx n1 n2
theorem kb_E13 {C : Addr} (t : E13 K mg C) : KBn K t.dI ["self", "pair"] 1 ["pair"] gkA gkA := by
  obtain ⟨oc, od, kV, doc, pm, an, cdv, ct, osl, e, lk, hcd⟩ := t.F.ex
  refine ⟨fun s us ws _ h1 h2 => ?_, fun h1 h2 => h1.append h2⟩
  rw [e]
  match us, ws, h1, h2 with
  | [_], [_], _, _ => exact .of_eq rfl
theorem scX14 : FnScope ["self", "book"] ["self", "book"] (defScope sX14) := ⟨rfl, rfl, rfl, by decide +kernel, rfl, by decide +kernel, by decide +kernel⟩
theorem ok_E14 {C : Addr} {k : Nat} (t : E14 K mg C) (mB : mg "RuntimeError" = none) : FnOk P w K mg base CX0 (k + 1) t.fI t.dI ["self", "book"] (spXI C "book") := by
  refine t.F.ok scX14 (fun vs H Q E h => ?_) (fun cdv A outer s H vs Q E hr h => ?_)
  · obtain ⟨a, v, rfl, _⟩ := h
    rfl
  · obtain ⟨a, v, rfl, ha, q⟩ := h
    refine ⟨_, pss_cons (ps_expr (pe_binit (B := "RuntimeError") (newId := "RuntimeError.__new__") (initId := "RuntimeError.__init__") (bmB := bmRE) (by rfl) mB (by decide +kernel) (by decide) (by decide) (by kernel_rfl) (by decide +kernel) (by decide +kernel) t.vV (pa_cons (pv 0) (pa_cons pe_str pa_nil))))
      (pss_one (ps_xst (B := "RuntimeError") (newId := "RuntimeError.__new__") (initId := "RuntimeError.__init__") (bmB := bmRE) (pv 0) (pv 1))), ?_⟩
    refine ⟨.ref a, rfl, a, C, _, rfl, (by decide : (1 : Nat) ≤ 1000), t.T, ha, v, rfl, .ref a, rfl, a, C, rfl, t.T, t.no, ha, fun dx n1 n2 => ?_⟩
    exact q dx n1 n2
theorem kb_E14 {C : Addr} (t : E14 K mg C) : KBn K t.dI ["self", "book"] 1 ["book"] gkA gkA := by
  obtain ⟨oc, od, kV, doc, pm, an, cdv, ct, osl, e, lk, hcd⟩ := t.F.ex
  refine ⟨fun s us ws _ h1 h2 => ?_, fun h1 h2 => h1.append h2⟩
  rw [e]
  match us, ws, h1, h2 with
  | [_], [_], _, _ => exact .of_eq rfl
theorem scX15 : FnScope ["self", "many"] ["self", "many"] (defScope sX15) := ⟨rfl, rfl, rfl, by decide +kernel, rfl, by decide +kernel, by decide +kernel⟩
theorem ok_E15 {C : Addr} {k : Nat} (t : E15 K mg C) (mB : mg "OverflowError" = none) : FnOk P w K mg base CX0 (k + 1) t.fI t.dI ["self", "many"] (spXI C "many") := by
  refine t.F.ok scX15 (fun vs H Q E h => ?_) (fun cdv A outer s H vs Q E hr h => ?_)
  · obtain ⟨a, v, rfl, _⟩ := h
    rfl
  · obtain ⟨a, v, rfl, ha, q⟩ := h
    refine ⟨_, pss_cons (ps_expr (pe_binit (B := "OverflowError") (newId := "OverflowError.__new__") (initId := "OverflowError.__init__") (bmB := bmOE) (by rfl) mB (by decide +kernel) (by decide) (by decide) (by kernel_rfl) (by decide +kernel) (by decide +kernel) t.vV (pa_cons (pv 0) (pa_cons pe_str pa_nil))))
      (pss_one (ps_xst (B := "OverflowError") (newId := "OverflowError.__new__") (initId := "OverflowError.__init__") (bmB := bmOE) (pv 0) (pv 1))), ?_⟩
    refine ⟨.ref a, rfl, a, C, _, rfl, (by decide : (1 : Nat) ≤ 1000), t.T, ha, v, rfl, .ref a, rfl, a, C, rfl, t.T, t.no, ha, fun dx n1 n2 => ?_⟩
    exact q dx n1 n2
theorem kb_E15 {C : Addr} (t : E15 K mg C) : KBn K t.dI ["self", "many"] 1 ["many"] gkA gkA := by
  obtain ⟨oc, od, kV, doc, pm, an, cdv, ct, osl, e, lk, hcd⟩ := t.F.ex
  refine ⟨fun s us ws _ h1 h2 => ?_, fun h1 h2 => h1.append h2⟩
  rw [e]
  match us, ws, h1, h2 with
  | [_], [_], _, _ => exact .of_eq rfl
theorem scX16 : FnScope ["self", "many"] ["self", "many"] (defScope sX16) := ⟨rfl, rfl, rfl, by decide +kernel, rfl, by decide +kernel, by decide +kernel⟩
theorem ok_E16 {C : Addr} {k : Nat} (t : E16 K mg C) (mB : mg "OverflowError" = none) : FnOk P w K mg base CX0 (k + 1) t.fI t.dI ["self", "many"] (spXI C "many") := by
  refine t.F.ok scX16 (fun vs H Q E h => ?_) (fun cdv A outer s H vs Q E hr h => ?_)
  · obtain ⟨a, v, rfl, _⟩ := h
    rfl
  · obtain ⟨a, v, rfl, ha, q⟩ := h
    refine ⟨_, pss_cons (ps_expr (pe_binit (B := "OverflowError") (newId := "OverflowError.__new__") (initId := "OverflowError.__init__") (bmB := bmOE) (by rfl) mB (by decide +kernel) (by decide) (by decide) (by kernel_rfl) (by decide +kernel) (by decide +kernel) t.vV (pa_cons (pv 0) (pa_cons pe_str pa_nil))))
      (pss_one (ps_xst (B := "OverflowError") (newId := "OverflowError.__new__") (initId := "OverflowError.__init__") (bmB := bmOE) (pv 0) (pv 1))), ?_⟩
    refine ⟨.ref a, rfl, a, C, _, rfl, (by decide : (1 : Nat) ≤ 1000), t.T, ha, v, rfl, .ref a, rfl, a, C, rfl, t.T, t.no, ha, fun dx n1 n2 => ?_⟩
    exact q dx n1 n2
theorem kb_E16 {C : Addr} (t : E16 K mg C) : KBn K t.dI ["self", "many"] 1 ["many"] gkA gkA := by
  obtain ⟨oc, od, kV, doc, pm, an, cdv, ct, osl, e, lk, hcd⟩ := t.F.ex
  refine ⟨fun s us ws _ h1 h2 => ?_, fun h1 h2 => h1.append h2⟩
  rw [e]
  match us, ws, h1, h2 with
  | [_], [_], _, _ => exact .of_eq rfl
theorem scX19 : FnScope ["self", "place", "ring"] ["self", "place", "ring"] (defScope sX19) := ⟨rfl, rfl, rfl, by decide +kernel, rfl, by decide +kernel, by decide +kernel⟩
theorem ok_E19 {C : Addr} {k : Nat} (t : E19 K mg C) (mB : mg "RuntimeError" = none) : FnOk P w K mg base CX0 (k + 1) t.fI t.dI ["self", "place", "ring"] (spXI2 C "place" "ring") := by
  refine t.F.ok scX19 (fun vs H Q E h => ?_) (fun cdv A outer s H vs Q E hr h => ?_)
  · obtain ⟨a, v, v2, rfl, _⟩ := h
    rfl
  · obtain ⟨a, v, v2, rfl, ha, q⟩ := h
    refine ⟨_, pss_cons (ps_expr (pe_binit (B := "RuntimeError") (newId := "RuntimeError.__new__") (initId := "RuntimeError.__init__") (bmB := bmRE) (by rfl) mB (by decide +kernel) (by decide) (by decide) (by kernel_rfl) (by decide +kernel) (by decide +kernel) t.vV (pa_cons (pv 0) (pa_cons pe_str pa_nil))))
      (pss_cons (ps_xst (B := "RuntimeError") (newId := "RuntimeError.__new__") (initId := "RuntimeError.__init__") (bmB := bmRE) (pv 0) (pv 1))
      (pss_one (ps_xsu (B := "RuntimeError") (newId := "RuntimeError.__new__") (initId := "RuntimeError.__init__") (bmB := bmRE) (pv 0) (pv 2)))), ?_⟩
    refine ⟨.ref a, rfl, a, C, _, rfl, (by decide : (1 : Nat) ≤ 1000), t.T, ha, v, rfl, .ref a, rfl, a, C, rfl, t.T, t.no1, ha, fun dx n1 n2 => ?_⟩
    refine ⟨v2, rfl, .ref a, rfl, a, C, dx, [("place", v)], rfl, t.T, t.no2, upd_same, by rw [upd_ne n2, upd_same], (by decide : (1 : Nat) ≤ 900), ?_⟩
    exact q dx n1 n2
theorem kb_E19 {C : Addr} (t : E19 K mg C) : KBn K t.dI ["self", "place", "ring"] 1 ["ring", "place"] gkB gkB := by
  obtain ⟨oc, od, kV, doc, pm, an, cdv, ct, osl, e, lk, hcd⟩ := t.F.ex
  refine ⟨fun s us ws _ h1 h2 => ?_, fun h1 h2 => gkB_rel h1 h2⟩
  rw [e]
  match us, ws, h1, h2 with
  | [_], [_, _], _, _ => exact .of_eq rfl
theorem scX20 : FnScope ["self", "one", "other"] ["self", "one", "other"] (defScope sX20) := ⟨rfl, rfl, rfl, by decide +kernel, rfl, by decide +kernel, by decide +kernel⟩
theorem ok_E20 {C : Addr} {k : Nat} (t : E20 K mg C) (mB : mg "RuntimeError" = none) : FnOk P w K mg base CX0 (k + 1) t.fI t.dI ["self", "one", "other"] (spXI2 C "one" "other") := by
  refine t.F.ok scX20 (fun vs H Q E h => ?_) (fun cdv A outer s H vs Q E hr h => ?_)
  · obtain ⟨a, v, v2, rfl, _⟩ := h
    rfl
  · obtain ⟨a, v, v2, rfl, ha, q⟩ := h
    refine ⟨_, pss_cons (ps_expr (pe_binit (B := "RuntimeError") (newId := "RuntimeError.__new__") (initId := "RuntimeError.__init__") (bmB := bmRE) (by rfl) mB (by decide +kernel) (by decide) (by decide) (by kernel_rfl) (by decide +kernel) (by decide +kernel) t.vV (pa_cons (pv 0) (pa_cons pe_str pa_nil))))
      (pss_cons (ps_xst (B := "RuntimeError") (newId := "RuntimeError.__new__") (initId := "RuntimeError.__init__") (bmB := bmRE) (pv 0) (pv 1))
      (pss_one (ps_xsu (B := "RuntimeError") (newId := "RuntimeError.__new__") (initId := "RuntimeError.__init__") (bmB := bmRE) (pv 0) (pv 2)))), ?_⟩
    refine ⟨.ref a, rfl, a, C, _, rfl, (by decide : (1 : Nat) ≤ 1000), t.T, ha, v, rfl, .ref a, rfl, a, C, rfl, t.T, t.no1, ha, fun dx n1 n2 => ?_⟩
    refine ⟨v2, rfl, .ref a, rfl, a, C, dx, [("one", v)], rfl, t.T, t.no2, upd_same, by rw [upd_ne n2, upd_same], (by decide : (1 : Nat) ≤ 900), ?_⟩
    exact q dx n1 n2
theorem kb_E20 {C : Addr} (t : E20 K mg C) : KBn K t.dI ["self", "one", "other"] 1 ["other", "one"] gkB gkB := by
  obtain ⟨oc, od, kV, doc, pm, an, cdv, ct, osl, e, lk, hcd⟩ := t.F.ex
  refine ⟨fun s us ws _ h1 h2 => ?_, fun h1 h2 => gkB_rel h1 h2⟩
  rw [e]
  match us, ws, h1, h2 with
  | [_], [_, _], _, _ => exact .of_eq rfl
end
end HF
set_option maxHeartbeats 40000000
namespace HF
open PySem PySem.Spec PyProof.Rows L2
abbrev nKin : List Str := ["_law_error", "_law_found", "_law_fine"]
theorem scKin : FnScope nKin ["_law_error"] (defScope sKin) := ⟨rfl, rfl, rfl, by decide +kernel, rfl, by decide +kernel, by decide +kernel⟩
section
variable {P : Program} {w : World} {K : PySem.W.Frag} {mg : Str → Option Value} {base : Heap}
def spKin (cs : List Addr) : Sp := fun vs H Q _ => ∃ (v : V) (i : Nat) (fs : List (Str × V)), vs = [v] ∧ i < 21 ∧ Er H v (cs.getD i 0) fs ∧ ∀ H' : Hp, Same H H' → Q (.int 1) H'
theorem ok_Kin (t : TX K mg) : FnOk P w K mg base CX0 1 t.fN t.dN ["_law_error"] (spKin t.cs) := by
  refine t.FN.ok scKin (fun vs H Q E h => ?_) (fun cdv A outer s H vs Q E hr h => ?_)
  · obtain ⟨v, i, fs, rfl, _⟩ := h
    rfl
  · obtain ⟨v, i, fs, rfl, hi, er, q⟩ := h
    refine ⟨_, pss_cons (ps_set (i := 1) scKin.nd rfl (.inl rfl) (pe_lst (pa_cons (pe_callB (id := "isinstance") (r := rIsE1 K) call_isE1 (by rfl) t.m_isinstance (by decide +kernel) (pa_cons (pv 0) (pa_cons (pe_glob (v := .ref t.Cx20) (by rfl) t.tx20.gC rfl) pa_nil))) (pa_cons (pe_callB (id := "isinstance") (r := rIsE1 K) call_isE1 (by rfl) t.m_isinstance (by decide +kernel) (pa_cons (pv 0) (pa_cons (pe_glob (v := .ref t.Cx1) (by rfl) t.tx1.gC rfl) pa_nil))) (pa_cons (pe_callB (id := "isinstance") (r := rIsE1 K) call_isE1 (by rfl) t.m_isinstance (by decide +kernel) (pa_cons (pv 0) (pa_cons (pe_glob (v := .ref t.Cx0) (by rfl) t.tx0.gC rfl) pa_nil))) (pa_cons (pe_callB (id := "isinstance") (r := rIsE1 K) call_isE1 (by rfl) t.m_isinstance (by decide +kernel) (pa_cons (pv 0) (pa_cons (pe_glob (v := .ref t.Cx9) (by rfl) t.tx9.gC rfl) pa_nil))) pa_nil))))))
      (pss_cons (ps_set (i := 1) scKin.nd rfl (.inl rfl) (pe_op op_cat (pv 1) (pe_lst (pa_cons (pe_callB (id := "isinstance") (r := rIsE1 K) call_isE1 (by rfl) t.m_isinstance (by decide +kernel) (pa_cons (pv 0) (pa_cons (pe_glob (v := .ref t.Cx16) (by rfl) t.tx16.gC rfl) pa_nil))) (pa_cons (pe_callB (id := "isinstance") (r := rIsE1 K) call_isE1 (by rfl) t.m_isinstance (by decide +kernel) (pa_cons (pv 0) (pa_cons (pe_glob (v := .ref t.Cx19) (by rfl) t.tx19.gC rfl) pa_nil))) (pa_cons (pe_callB (id := "isinstance") (r := rIsE1 K) call_isE1 (by rfl) t.m_isinstance (by decide +kernel) (pa_cons (pv 0) (pa_cons (pe_glob (v := .ref t.Cx18) (by rfl) t.tx18.gC rfl) pa_nil))) (pa_cons (pe_callB (id := "isinstance") (r := rIsE1 K) call_isE1 (by rfl) t.m_isinstance (by decide +kernel) (pa_cons (pv 0) (pa_cons (pe_glob (v := .ref t.Cx10) (by rfl) t.tx10.gC rfl) pa_nil))) pa_nil)))))))
      (pss_cons (ps_set (i := 1) scKin.nd rfl (.inl rfl) (pe_op op_cat (pv 1) (pe_lst (pa_cons (pe_callB (id := "isinstance") (r := rIsE1 K) call_isE1 (by rfl) t.m_isinstance (by decide +kernel) (pa_cons (pv 0) (pa_cons (pe_glob (v := .ref t.Cx8) (by rfl) t.tx8.gC rfl) pa_nil))) (pa_cons (pe_callB (id := "isinstance") (r := rIsE1 K) call_isE1 (by rfl) t.m_isinstance (by decide +kernel) (pa_cons (pv 0) (pa_cons (pe_glob (v := .ref t.Cx4) (by rfl) t.tx4.gC rfl) pa_nil))) (pa_cons (pe_callB (id := "isinstance") (r := rIsE1 K) call_isE1 (by rfl) t.m_isinstance (by decide +kernel) (pa_cons (pv 0) (pa_cons (pe_glob (v := .ref t.Cx7) (by rfl) t.tx7.gC rfl) pa_nil))) pa_nil))))))
      (pss_cons (ps_set (i := 1) scKin.nd rfl (.inl rfl) (pe_op op_cat (pv 1) (pe_lst (pa_cons (pe_callB (id := "isinstance") (r := rIsE1 K) call_isE1 (by rfl) t.m_isinstance (by decide +kernel) (pa_cons (pv 0) (pa_cons (pe_glob (v := .ref t.Cx3) (by rfl) t.tx3.gC rfl) pa_nil))) (pa_cons (pe_callB (id := "isinstance") (r := rIsE1 K) call_isE1 (by rfl) t.m_isinstance (by decide +kernel) (pa_cons (pv 0) (pa_cons (pe_glob (v := .ref t.Cx6) (by rfl) t.tx6.gC rfl) pa_nil))) (pa_cons (pe_callB (id := "isinstance") (r := rIsE1 K) call_isE1 (by rfl) t.m_isinstance (by decide +kernel) (pa_cons (pv 0) (pa_cons (pe_glob (v := .ref t.Cx5) (by rfl) t.tx5.gC rfl) pa_nil))) pa_nil))))))
      (pss_cons (ps_set (i := 1) scKin.nd rfl (.inl rfl) (pe_op op_cat (pv 1) (pe_lst (pa_cons (pe_callB (id := "isinstance") (r := rIsE1 K) call_isE1 (by rfl) t.m_isinstance (by decide +kernel) (pa_cons (pv 0) (pa_cons (pe_glob (v := .ref t.Cx2) (by rfl) t.tx2.gC rfl) pa_nil))) (pa_cons (pe_callB (id := "isinstance") (r := rIsE1 K) call_isE1 (by rfl) t.m_isinstance (by decide +kernel) (pa_cons (pv 0) (pa_cons (pe_glob (v := .ref t.Cx12) (by rfl) t.tx12.gC rfl) pa_nil))) (pa_cons (pe_callB (id := "isinstance") (r := rIsE1 K) call_isE1 (by rfl) t.m_isinstance (by decide +kernel) (pa_cons (pv 0) (pa_cons (pe_glob (v := .ref t.Cx11) (by rfl) t.tx11.gC rfl) pa_nil))) pa_nil))))))
      (pss_cons (ps_set (i := 1) scKin.nd rfl (.inl rfl) (pe_op op_cat (pv 1) (pe_lst (pa_cons (pe_callB (id := "isinstance") (r := rIsE1 K) call_isE1 (by rfl) t.m_isinstance (by decide +kernel) (pa_cons (pv 0) (pa_cons (pe_glob (v := .ref t.Cx14) (by rfl) t.tx14.gC rfl) pa_nil))) (pa_cons (pe_callB (id := "isinstance") (r := rIsE1 K) call_isE1 (by rfl) t.m_isinstance (by decide +kernel) (pa_cons (pv 0) (pa_cons (pe_glob (v := .ref t.Cx13) (by rfl) t.tx13.gC rfl) pa_nil))) (pa_cons (pe_callB (id := "isinstance") (r := rIsE1 K) call_isE1 (by rfl) t.m_isinstance (by decide +kernel) (pa_cons (pv 0) (pa_cons (pe_glob (v := .ref t.Cx15) (by rfl) t.tx15.gC rfl) pa_nil))) pa_nil))))))
      (pss_one (ps_ret (pe_callB call_len_seq (by rfl) t.m_len PySem.boot_len (pa_cons (pe_lc (own := [("_law_fine", 2)]) (g := (gName 2))  rfl scKin.nd (pi_seq (pe_op op_cat (pv 1) (pe_lst (pa_cons (pe_callB (id := "isinstance") (r := rIsE1 K) call_isE1 (by rfl) t.m_isinstance (by decide +kernel) (pa_cons (pv 0) (pa_cons (pe_glob (v := .ref t.Cx17) (by rfl) t.tx17.gC rfl) pa_nil))) pa_nil)))) (blkOk_by (N := nKin) (sc := defScope sKin) (by decide +kernel)) (fun _ _ _ _ _ => pg_name (i := 2) scKin.nd rfl (.inl rfl)) (fun _ _ _ _ _ => pts_one (pt_val (pv 2))) (fun _ _ _ _ _ => pv 2)) pa_nil))))))))), ?_⟩
    have hx := t.xis i hi
    have hk : ∀ j, j < 21 → PySem.W.kitOne K (.ref (t.cs.getD i 0)) (.ref (t.cs.getD j 0)) = some (decide (i = j)) := fun j hj => kits_at t.kit hi hj
    refine ⟨v, rfl, v, .ref t.Cx20, _, _, .ref t.Cx20, _, rfl, er, hx, (fun u r => r), hk 20 (by decide), v, rfl, v, .ref t.Cx1, _, _, .ref t.Cx1, _, rfl, er, hx, (fun u r => r), hk 1 (by decide), v, rfl, v, .ref t.Cx0, _, _, .ref t.Cx0, _, rfl, er, hx, (fun u r => r), hk 0 (by decide), v, rfl, v, .ref t.Cx9, _, _, .ref t.Cx9, _, rfl, er, hx, (fun u r => r), hk 9 (by decide), (by decide : (4 : Nat) ≤ sizeLine), fun l0 nl0 => ?_⟩
    have s_l0 : Same H (upd H l0 (.lst [.bl (decide (i = 20)), .bl (decide (i = 1)), .bl (decide (i = 0)), .bl (decide (i = 9))])) := same_upd nl0
    have h_l0 : (upd H l0 (.lst [.bl (decide (i = 20)), .bl (decide (i = 1)), .bl (decide (i = 0)), .bl (decide (i = 9))])) l0 = some (.lst [.bl (decide (i = 20)), .bl (decide (i = 1)), .bl (decide (i = 0)), .bl (decide (i = 9))]) := upd_same
    generalize (upd H l0 (.lst [.bl (decide (i = 20)), .bl (decide (i = 1)), .bl (decide (i = 0)), .bl (decide (i = 9))])) = H_l0 at *
    try dsimp only [tNext, gName]
    refine sl_cut [some v, some (.ref l0), none] rfl ?_
    refine ⟨.ref l0, rfl, v, rfl, v, .ref t.Cx16, _, _, .ref t.Cx16, _, rfl, (er.same s_l0), hx, (fun u r => r), hk 16 (by decide), v, rfl, v, .ref t.Cx19, _, _, .ref t.Cx19, _, rfl, (er.same s_l0), hx, (fun u r => r), hk 19 (by decide), v, rfl, v, .ref t.Cx18, _, _, .ref t.Cx18, _, rfl, (er.same s_l0), hx, (fun u r => r), hk 18 (by decide), v, rfl, v, .ref t.Cx10, _, _, .ref t.Cx10, _, rfl, (er.same s_l0), hx, (fun u r => r), hk 10 (by decide), (by decide : (4 : Nat) ≤ sizeLine), fun l1 nl1 => ?_⟩
    have s_l1 : Same H_l0 (upd H_l0 l1 (.lst [.bl (decide (i = 16)), .bl (decide (i = 19)), .bl (decide (i = 18)), .bl (decide (i = 10))])) := same_upd nl1
    have h_l1 : (upd H_l0 l1 (.lst [.bl (decide (i = 16)), .bl (decide (i = 19)), .bl (decide (i = 18)), .bl (decide (i = 10))])) l1 = some (.lst [.bl (decide (i = 16)), .bl (decide (i = 19)), .bl (decide (i = 18)), .bl (decide (i = 10))]) := upd_same
    generalize (upd H_l0 l1 (.lst [.bl (decide (i = 16)), .bl (decide (i = 19)), .bl (decide (i = 18)), .bl (decide (i = 10))])) = H_l1 at *
    refine ⟨l0, l1, _, _, rfl, rfl, (s_l1 _ _ h_l0), h_l1, (by decide : (8 : Nat) ≤ sizeLine), fun m1 nm1 => ?_⟩
    have s_m1 : Same H_l1 (upd H_l1 m1 (.lst ([.bl (decide (i = 20)), .bl (decide (i = 1)), .bl (decide (i = 0)), .bl (decide (i = 9))] ++ [.bl (decide (i = 16)), .bl (decide (i = 19)), .bl (decide (i = 18)), .bl (decide (i = 10))]))) := same_upd nm1
    have h_m1 : (upd H_l1 m1 (.lst ([.bl (decide (i = 20)), .bl (decide (i = 1)), .bl (decide (i = 0)), .bl (decide (i = 9))] ++ [.bl (decide (i = 16)), .bl (decide (i = 19)), .bl (decide (i = 18)), .bl (decide (i = 10))]))) m1 = some (.lst [.bl (decide (i = 20)), .bl (decide (i = 1)), .bl (decide (i = 0)), .bl (decide (i = 9)), .bl (decide (i = 16)), .bl (decide (i = 19)), .bl (decide (i = 18)), .bl (decide (i = 10))]) := upd_same
    generalize (upd H_l1 m1 (.lst ([.bl (decide (i = 20)), .bl (decide (i = 1)), .bl (decide (i = 0)), .bl (decide (i = 9))] ++ [.bl (decide (i = 16)), .bl (decide (i = 19)), .bl (decide (i = 18)), .bl (decide (i = 10))]))) = H_m1 at *
    try dsimp only [tNext, gName]
    refine sl_cut [some v, some (.ref m1), none] rfl ?_
    refine ⟨.ref m1, rfl, v, rfl, v, .ref t.Cx8, _, _, .ref t.Cx8, _, rfl, (er.same ((s_l0.trans s_l1).trans s_m1)), hx, (fun u r => r), hk 8 (by decide), v, rfl, v, .ref t.Cx4, _, _, .ref t.Cx4, _, rfl, (er.same ((s_l0.trans s_l1).trans s_m1)), hx, (fun u r => r), hk 4 (by decide), v, rfl, v, .ref t.Cx7, _, _, .ref t.Cx7, _, rfl, (er.same ((s_l0.trans s_l1).trans s_m1)), hx, (fun u r => r), hk 7 (by decide), (by decide : (3 : Nat) ≤ sizeLine), fun l2 nl2 => ?_⟩
    have s_l2 : Same H_m1 (upd H_m1 l2 (.lst [.bl (decide (i = 8)), .bl (decide (i = 4)), .bl (decide (i = 7))])) := same_upd nl2
    have h_l2 : (upd H_m1 l2 (.lst [.bl (decide (i = 8)), .bl (decide (i = 4)), .bl (decide (i = 7))])) l2 = some (.lst [.bl (decide (i = 8)), .bl (decide (i = 4)), .bl (decide (i = 7))]) := upd_same
    generalize (upd H_m1 l2 (.lst [.bl (decide (i = 8)), .bl (decide (i = 4)), .bl (decide (i = 7))])) = H_l2 at *
    refine ⟨m1, l2, _, _, rfl, rfl, (s_l2 _ _ h_m1), h_l2, (by decide : (11 : Nat) ≤ sizeLine), fun m2 nm2 => ?_⟩
    have s_m2 : Same H_l2 (upd H_l2 m2 (.lst ([.bl (decide (i = 20)), .bl (decide (i = 1)), .bl (decide (i = 0)), .bl (decide (i = 9)), .bl (decide (i = 16)), .bl (decide (i = 19)), .bl (decide (i = 18)), .bl (decide (i = 10))] ++ [.bl (decide (i = 8)), .bl (decide (i = 4)), .bl (decide (i = 7))]))) := same_upd nm2
    have h_m2 : (upd H_l2 m2 (.lst ([.bl (decide (i = 20)), .bl (decide (i = 1)), .bl (decide (i = 0)), .bl (decide (i = 9)), .bl (decide (i = 16)), .bl (decide (i = 19)), .bl (decide (i = 18)), .bl (decide (i = 10))] ++ [.bl (decide (i = 8)), .bl (decide (i = 4)), .bl (decide (i = 7))]))) m2 = some (.lst [.bl (decide (i = 20)), .bl (decide (i = 1)), .bl (decide (i = 0)), .bl (decide (i = 9)), .bl (decide (i = 16)), .bl (decide (i = 19)), .bl (decide (i = 18)), .bl (decide (i = 10)), .bl (decide (i = 8)), .bl (decide (i = 4)), .bl (decide (i = 7))]) := upd_same
    generalize (upd H_l2 m2 (.lst ([.bl (decide (i = 20)), .bl (decide (i = 1)), .bl (decide (i = 0)), .bl (decide (i = 9)), .bl (decide (i = 16)), .bl (decide (i = 19)), .bl (decide (i = 18)), .bl (decide (i = 10))] ++ [.bl (decide (i = 8)), .bl (decide (i = 4)), .bl (decide (i = 7))]))) = H_m2 at *
    try dsimp only [tNext, gName]
    refine sl_cut [some v, some (.ref m2), none] rfl ?_
    refine ⟨.ref m2, rfl, v, rfl, v, .ref t.Cx3, _, _, .ref t.Cx3, _, rfl, (er.same ((((s_l0.trans s_l1).trans s_m1).trans s_l2).trans s_m2)), hx, (fun u r => r), hk 3 (by decide), v, rfl, v, .ref t.Cx6, _, _, .ref t.Cx6, _, rfl, (er.same ((((s_l0.trans s_l1).trans s_m1).trans s_l2).trans s_m2)), hx, (fun u r => r), hk 6 (by decide), v, rfl, v, .ref t.Cx5, _, _, .ref t.Cx5, _, rfl, (er.same ((((s_l0.trans s_l1).trans s_m1).trans s_l2).trans s_m2)), hx, (fun u r => r), hk 5 (by decide), (by decide : (3 : Nat) ≤ sizeLine), fun l3 nl3 => ?_⟩
    have s_l3 : Same H_m2 (upd H_m2 l3 (.lst [.bl (decide (i = 3)), .bl (decide (i = 6)), .bl (decide (i = 5))])) := same_upd nl3
    have h_l3 : (upd H_m2 l3 (.lst [.bl (decide (i = 3)), .bl (decide (i = 6)), .bl (decide (i = 5))])) l3 = some (.lst [.bl (decide (i = 3)), .bl (decide (i = 6)), .bl (decide (i = 5))]) := upd_same
    generalize (upd H_m2 l3 (.lst [.bl (decide (i = 3)), .bl (decide (i = 6)), .bl (decide (i = 5))])) = H_l3 at *
    refine ⟨m2, l3, _, _, rfl, rfl, (s_l3 _ _ h_m2), h_l3, (by decide : (14 : Nat) ≤ sizeLine), fun m3 nm3 => ?_⟩
    have s_m3 : Same H_l3 (upd H_l3 m3 (.lst ([.bl (decide (i = 20)), .bl (decide (i = 1)), .bl (decide (i = 0)), .bl (decide (i = 9)), .bl (decide (i = 16)), .bl (decide (i = 19)), .bl (decide (i = 18)), .bl (decide (i = 10)), .bl (decide (i = 8)), .bl (decide (i = 4)), .bl (decide (i = 7))] ++ [.bl (decide (i = 3)), .bl (decide (i = 6)), .bl (decide (i = 5))]))) := same_upd nm3
    have h_m3 : (upd H_l3 m3 (.lst ([.bl (decide (i = 20)), .bl (decide (i = 1)), .bl (decide (i = 0)), .bl (decide (i = 9)), .bl (decide (i = 16)), .bl (decide (i = 19)), .bl (decide (i = 18)), .bl (decide (i = 10)), .bl (decide (i = 8)), .bl (decide (i = 4)), .bl (decide (i = 7))] ++ [.bl (decide (i = 3)), .bl (decide (i = 6)), .bl (decide (i = 5))]))) m3 = some (.lst [.bl (decide (i = 20)), .bl (decide (i = 1)), .bl (decide (i = 0)), .bl (decide (i = 9)), .bl (decide (i = 16)), .bl (decide (i = 19)), .bl (decide (i = 18)), .bl (decide (i = 10)), .bl (decide (i = 8)), .bl (decide (i = 4)), .bl (decide (i = 7)), .bl (decide (i = 3)), .bl (decide (i = 6)), .bl (decide (i = 5))]) := upd_same
    generalize (upd H_l3 m3 (.lst ([.bl (decide (i = 20)), .bl (decide (i = 1)), .bl (decide (i = 0)), .bl (decide (i = 9)), .bl (decide (i = 16)), .bl (decide (i = 19)), .bl (decide (i = 18)), .bl (decide (i = 10)), .bl (decide (i = 8)), .bl (decide (i = 4)), .bl (decide (i = 7))] ++ [.bl (decide (i = 3)), .bl (decide (i = 6)), .bl (decide (i = 5))]))) = H_m3 at *
    try dsimp only [tNext, gName]
    refine sl_cut [some v, some (.ref m3), none] rfl ?_
    refine ⟨.ref m3, rfl, v, rfl, v, .ref t.Cx2, _, _, .ref t.Cx2, _, rfl, (er.same ((((((s_l0.trans s_l1).trans s_m1).trans s_l2).trans s_m2).trans s_l3).trans s_m3)), hx, (fun u r => r), hk 2 (by decide), v, rfl, v, .ref t.Cx12, _, _, .ref t.Cx12, _, rfl, (er.same ((((((s_l0.trans s_l1).trans s_m1).trans s_l2).trans s_m2).trans s_l3).trans s_m3)), hx, (fun u r => r), hk 12 (by decide), v, rfl, v, .ref t.Cx11, _, _, .ref t.Cx11, _, rfl, (er.same ((((((s_l0.trans s_l1).trans s_m1).trans s_l2).trans s_m2).trans s_l3).trans s_m3)), hx, (fun u r => r), hk 11 (by decide), (by decide : (3 : Nat) ≤ sizeLine), fun l4 nl4 => ?_⟩
    have s_l4 : Same H_m3 (upd H_m3 l4 (.lst [.bl (decide (i = 2)), .bl (decide (i = 12)), .bl (decide (i = 11))])) := same_upd nl4
    have h_l4 : (upd H_m3 l4 (.lst [.bl (decide (i = 2)), .bl (decide (i = 12)), .bl (decide (i = 11))])) l4 = some (.lst [.bl (decide (i = 2)), .bl (decide (i = 12)), .bl (decide (i = 11))]) := upd_same
    generalize (upd H_m3 l4 (.lst [.bl (decide (i = 2)), .bl (decide (i = 12)), .bl (decide (i = 11))])) = H_l4 at *
    refine ⟨m3, l4, _, _, rfl, rfl, (s_l4 _ _ h_m3), h_l4, (by decide : (17 : Nat) ≤ sizeLine), fun m4 nm4 => ?_⟩
    have s_m4 : Same H_l4 (upd H_l4 m4 (.lst ([.bl (decide (i = 20)), .bl (decide (i = 1)), .bl (decide (i = 0)), .bl (decide (i = 9)), .bl (decide (i = 16)), .bl (decide (i = 19)), .bl (decide (i = 18)), .bl (decide (i = 10)), .bl (decide (i = 8)), .bl (decide (i = 4)), .bl (decide (i = 7)), .bl (decide (i = 3)), .bl (decide (i = 6)), .bl (decide (i = 5))] ++ [.bl (decide (i = 2)), .bl (decide (i = 12)), .bl (decide (i = 11))]))) := same_upd nm4
    have h_m4 : (upd H_l4 m4 (.lst ([.bl (decide (i = 20)), .bl (decide (i = 1)), .bl (decide (i = 0)), .bl (decide (i = 9)), .bl (decide (i = 16)), .bl (decide (i = 19)), .bl (decide (i = 18)), .bl (decide (i = 10)), .bl (decide (i = 8)), .bl (decide (i = 4)), .bl (decide (i = 7)), .bl (decide (i = 3)), .bl (decide (i = 6)), .bl (decide (i = 5))] ++ [.bl (decide (i = 2)), .bl (decide (i = 12)), .bl (decide (i = 11))]))) m4 = some (.lst [.bl (decide (i = 20)), .bl (decide (i = 1)), .bl (decide (i = 0)), .bl (decide (i = 9)), .bl (decide (i = 16)), .bl (decide (i = 19)), .bl (decide (i = 18)), .bl (decide (i = 10)), .bl (decide (i = 8)), .bl (decide (i = 4)), .bl (decide (i = 7)), .bl (decide (i = 3)), .bl (decide (i = 6)), .bl (decide (i = 5)), .bl (decide (i = 2)), .bl (decide (i = 12)), .bl (decide (i = 11))]) := upd_same
    generalize (upd H_l4 m4 (.lst ([.bl (decide (i = 20)), .bl (decide (i = 1)), .bl (decide (i = 0)), .bl (decide (i = 9)), .bl (decide (i = 16)), .bl (decide (i = 19)), .bl (decide (i = 18)), .bl (decide (i = 10)), .bl (decide (i = 8)), .bl (decide (i = 4)), .bl (decide (i = 7)), .bl (decide (i = 3)), .bl (decide (i = 6)), .bl (decide (i = 5))] ++ [.bl (decide (i = 2)), .bl (decide (i = 12)), .bl (decide (i = 11))]))) = H_m4 at *
    try dsimp only [tNext, gName]
    refine sl_cut [some v, some (.ref m4), none] rfl ?_
    refine ⟨.ref m4, rfl, v, rfl, v, .ref t.Cx14, _, _, .ref t.Cx14, _, rfl, (er.same ((((((((s_l0.trans s_l1).trans s_m1).trans s_l2).trans s_m2).trans s_l3).trans s_m3).trans s_l4).trans s_m4)), hx, (fun u r => r), hk 14 (by decide), v, rfl, v, .ref t.Cx13, _, _, .ref t.Cx13, _, rfl, (er.same ((((((((s_l0.trans s_l1).trans s_m1).trans s_l2).trans s_m2).trans s_l3).trans s_m3).trans s_l4).trans s_m4)), hx, (fun u r => r), hk 13 (by decide), v, rfl, v, .ref t.Cx15, _, _, .ref t.Cx15, _, rfl, (er.same ((((((((s_l0.trans s_l1).trans s_m1).trans s_l2).trans s_m2).trans s_l3).trans s_m3).trans s_l4).trans s_m4)), hx, (fun u r => r), hk 15 (by decide), (by decide : (3 : Nat) ≤ sizeLine), fun l5 nl5 => ?_⟩
    have s_l5 : Same H_m4 (upd H_m4 l5 (.lst [.bl (decide (i = 14)), .bl (decide (i = 13)), .bl (decide (i = 15))])) := same_upd nl5
    have h_l5 : (upd H_m4 l5 (.lst [.bl (decide (i = 14)), .bl (decide (i = 13)), .bl (decide (i = 15))])) l5 = some (.lst [.bl (decide (i = 14)), .bl (decide (i = 13)), .bl (decide (i = 15))]) := upd_same
    generalize (upd H_m4 l5 (.lst [.bl (decide (i = 14)), .bl (decide (i = 13)), .bl (decide (i = 15))])) = H_l5 at *
    refine ⟨m4, l5, _, _, rfl, rfl, (s_l5 _ _ h_m4), h_l5, (by decide : (20 : Nat) ≤ sizeLine), fun m5 nm5 => ?_⟩
    have s_m5 : Same H_l5 (upd H_l5 m5 (.lst ([.bl (decide (i = 20)), .bl (decide (i = 1)), .bl (decide (i = 0)), .bl (decide (i = 9)), .bl (decide (i = 16)), .bl (decide (i = 19)), .bl (decide (i = 18)), .bl (decide (i = 10)), .bl (decide (i = 8)), .bl (decide (i = 4)), .bl (decide (i = 7)), .bl (decide (i = 3)), .bl (decide (i = 6)), .bl (decide (i = 5)), .bl (decide (i = 2)), .bl (decide (i = 12)), .bl (decide (i = 11))] ++ [.bl (decide (i = 14)), .bl (decide (i = 13)), .bl (decide (i = 15))]))) := same_upd nm5
    have h_m5 : (upd H_l5 m5 (.lst ([.bl (decide (i = 20)), .bl (decide (i = 1)), .bl (decide (i = 0)), .bl (decide (i = 9)), .bl (decide (i = 16)), .bl (decide (i = 19)), .bl (decide (i = 18)), .bl (decide (i = 10)), .bl (decide (i = 8)), .bl (decide (i = 4)), .bl (decide (i = 7)), .bl (decide (i = 3)), .bl (decide (i = 6)), .bl (decide (i = 5)), .bl (decide (i = 2)), .bl (decide (i = 12)), .bl (decide (i = 11))] ++ [.bl (decide (i = 14)), .bl (decide (i = 13)), .bl (decide (i = 15))]))) m5 = some (.lst [.bl (decide (i = 20)), .bl (decide (i = 1)), .bl (decide (i = 0)), .bl (decide (i = 9)), .bl (decide (i = 16)), .bl (decide (i = 19)), .bl (decide (i = 18)), .bl (decide (i = 10)), .bl (decide (i = 8)), .bl (decide (i = 4)), .bl (decide (i = 7)), .bl (decide (i = 3)), .bl (decide (i = 6)), .bl (decide (i = 5)), .bl (decide (i = 2)), .bl (decide (i = 12)), .bl (decide (i = 11)), .bl (decide (i = 14)), .bl (decide (i = 13)), .bl (decide (i = 15))]) := upd_same
    generalize (upd H_l5 m5 (.lst ([.bl (decide (i = 20)), .bl (decide (i = 1)), .bl (decide (i = 0)), .bl (decide (i = 9)), .bl (decide (i = 16)), .bl (decide (i = 19)), .bl (decide (i = 18)), .bl (decide (i = 10)), .bl (decide (i = 8)), .bl (decide (i = 4)), .bl (decide (i = 7)), .bl (decide (i = 3)), .bl (decide (i = 6)), .bl (decide (i = 5)), .bl (decide (i = 2)), .bl (decide (i = 12)), .bl (decide (i = 11))] ++ [.bl (decide (i = 14)), .bl (decide (i = 13)), .bl (decide (i = 15))]))) = H_m5 at *
    try dsimp only [tNext, gName]
    refine sl_cut [some v, some (.ref m5), none] rfl ?_
    refine ⟨.ref m5, rfl, v, rfl, v, .ref t.Cx17, _, _, .ref t.Cx17, _, rfl, (er.same ((((((((((s_l0.trans s_l1).trans s_m1).trans s_l2).trans s_m2).trans s_l3).trans s_m3).trans s_l4).trans s_m4).trans s_l5).trans s_m5)), hx, (fun u r => r), hk 17 (by decide), (by decide : (1 : Nat) ≤ sizeLine), fun l6 nl6 => ?_⟩
    have s_l6 : Same H_m5 (upd H_m5 l6 (.lst [.bl (decide (i = 17))])) := same_upd nl6
    have h_l6 : (upd H_m5 l6 (.lst [.bl (decide (i = 17))])) l6 = some (.lst [.bl (decide (i = 17))]) := upd_same
    generalize (upd H_m5 l6 (.lst [.bl (decide (i = 17))])) = H_l6 at *
    refine ⟨m5, l6, _, _, rfl, rfl, (s_l6 _ _ h_m5), h_l6, (by decide : (21 : Nat) ≤ sizeLine), fun m6 nm6 => ?_⟩
    have s_m6 : Same H_l6 (upd H_l6 m6 (.lst ([.bl (decide (i = 20)), .bl (decide (i = 1)), .bl (decide (i = 0)), .bl (decide (i = 9)), .bl (decide (i = 16)), .bl (decide (i = 19)), .bl (decide (i = 18)), .bl (decide (i = 10)), .bl (decide (i = 8)), .bl (decide (i = 4)), .bl (decide (i = 7)), .bl (decide (i = 3)), .bl (decide (i = 6)), .bl (decide (i = 5)), .bl (decide (i = 2)), .bl (decide (i = 12)), .bl (decide (i = 11)), .bl (decide (i = 14)), .bl (decide (i = 13)), .bl (decide (i = 15))] ++ [.bl (decide (i = 17))]))) := same_upd nm6
    have h_m6 : (upd H_l6 m6 (.lst ([.bl (decide (i = 20)), .bl (decide (i = 1)), .bl (decide (i = 0)), .bl (decide (i = 9)), .bl (decide (i = 16)), .bl (decide (i = 19)), .bl (decide (i = 18)), .bl (decide (i = 10)), .bl (decide (i = 8)), .bl (decide (i = 4)), .bl (decide (i = 7)), .bl (decide (i = 3)), .bl (decide (i = 6)), .bl (decide (i = 5)), .bl (decide (i = 2)), .bl (decide (i = 12)), .bl (decide (i = 11)), .bl (decide (i = 14)), .bl (decide (i = 13)), .bl (decide (i = 15))] ++ [.bl (decide (i = 17))]))) m6 = some (.lst [.bl (decide (i = 20)), .bl (decide (i = 1)), .bl (decide (i = 0)), .bl (decide (i = 9)), .bl (decide (i = 16)), .bl (decide (i = 19)), .bl (decide (i = 18)), .bl (decide (i = 10)), .bl (decide (i = 8)), .bl (decide (i = 4)), .bl (decide (i = 7)), .bl (decide (i = 3)), .bl (decide (i = 6)), .bl (decide (i = 5)), .bl (decide (i = 2)), .bl (decide (i = 12)), .bl (decide (i = 11)), .bl (decide (i = 14)), .bl (decide (i = 13)), .bl (decide (i = 15)), .bl (decide (i = 17))]) := upd_same
    generalize (upd H_l6 m6 (.lst ([.bl (decide (i = 20)), .bl (decide (i = 1)), .bl (decide (i = 0)), .bl (decide (i = 9)), .bl (decide (i = 16)), .bl (decide (i = 19)), .bl (decide (i = 18)), .bl (decide (i = 10)), .bl (decide (i = 8)), .bl (decide (i = 4)), .bl (decide (i = 7)), .bl (decide (i = 3)), .bl (decide (i = 6)), .bl (decide (i = 5)), .bl (decide (i = 2)), .bl (decide (i = 12)), .bl (decide (i = 11)), .bl (decide (i = 14)), .bl (decide (i = 13)), .bl (decide (i = 15))] ++ [.bl (decide (i = 17))]))) = H_m6 at *
    obtain ⟨bs, ebs⟩ : ∃ bs : List Bool, bs = [decide (i = 20), decide (i = 1), decide (i = 0), decide (i = 9), decide (i = 16), decide (i = 19), decide (i = 18), decide (i = 10), decide (i = 8), decide (i = 4), decide (i = 7), decide (i = 3), decide (i = 6), decide (i = 5), decide (i = 2), decide (i = 12), decide (i = 11), decide (i = 14), decide (i = 13), decide (i = 15), decide (i = 17)] := ⟨_, rfl⟩
    have hbs : H_m6 m6 = some (.lst (bs.map V.bl)) := by rw [ebs]; exact h_m6
    have lbs : bs.length = 21 := by rw [ebs]; rfl
    have one : (bs.filter id).length = 1 := by
      rw [ebs]
      have : i = 0 ∨ i = 1 ∨ i = 2 ∨ i = 3 ∨ i = 4 ∨ i = 5 ∨ i = 6 ∨ i = 7 ∨ i = 8 ∨ i = 9 ∨ i = 10 ∨ i = 11 ∨ i = 12 ∨ i = 13 ∨ i = 14 ∨ i = 15 ∨ i = 16 ∨ i = 17 ∨ i = 18 ∨ i = 19 ∨ i = 20 := by omega
      rcases this with rfl | rfl | rfl | rfl | rfl | rfl | rfl | rfl | rfl | rfl | rfl | rfl | rfl | rfl | rfl | rfl | rfl | rfl | rfl | rfl | rfl <;> rfl
    clear ebs
    refine ⟨m6, rfl, iseq (.inl (.inl (.inl hbs))) fun J wk D nD => lc_it wk (fun k Hx => Same H_m6 Hx ∧ ∃ xs : List V, Hx D = some (.lst xs) ∧ xs.length = ((bs.take k).filter id).length) ⟨same_upd nD, [], upd_same, rfl⟩ (fun i Hx _ h => Kp.of h.1) ?_ ?_⟩
    · rintro k x Hu Hz hk2 ⟨su, xs, hxs, lxs⟩ ⟨rfl, hx2⟩
      rw [List.getElem?_map] at hx2
      obtain ⟨b, hb, rfl⟩ := Option.map_eq_some_iff.mp hx2
      have e1 : (bs.take (k + 1)).filter id = (bs.take k).filter id ++ if b then [b] else [] := by
        rw [List.take_add_one, hb, List.filter_append]
        cases b <;> rfl
      have few : ((bs.take k).filter id).length ≤ 21 := Nat.le_trans (List.length_filter_le _ _) (by rw [List.length_take]; omega)
      dsimp only [gName]
      refine ⟨rfl, .bl b, rfl, b, rfl, ?_⟩
      cases b with
      | true =>
        refine iteT ⟨.bl true, rfl, xs, hxs, by rw [lxs, sizeLine_eq]; omega, same_put su nD, xs ++ [.bl true], upd_same, ?_⟩
        rw [e1, List.length_append, List.length_append, lxs]
        rfl
      | false =>
        refine iteF ⟨su, xs, hxs, ?_⟩
        rw [e1, lxs, List.length_append]
        rfl
    rintro Hv ⟨sv, xs, hxs, lxs⟩
    rw [List.length_map, List.take_length, one] at lxs
    refine ⟨D, xs, rfl, .inl (.inl (.inl hxs)), ?_⟩
    rw [lxs]
    exact q Hv (((((((((((((s_l0.trans s_l1).trans s_m1).trans s_l2).trans s_m2).trans s_l3).trans s_m3).trans s_l4).trans s_m4).trans s_l5).trans s_m5).trans s_l6).trans s_m6).trans sv)
end
end HF
set_option maxHeartbeats 40000000
namespace HF
open PySem PySem.Spec PyProof.Rows L2
abbrev nBas : List Str := ["_law_error", "_law_found"]
theorem scBas : FnScope nBas ["_law_error"] (defScope sBas) := ⟨rfl, rfl, rfl, by decide +kernel, rfl, by decide +kernel, by decide +kernel⟩
section
variable {P : Program} {w : World} {K : PySem.W.Frag} {mg : Str → Option Value} {base : Heap}
def spBas (cs : List Addr) : Sp := fun vs H Q _ => ∃ (v : V) (i : Nat) (fs : List (Str × V)), vs = [v] ∧ i < 21 ∧ Er H v (cs.getD i 0) fs ∧ ∀ (H' : Hp) (D : Addr), Same H H' → H' D = some (.lst [.str (bsN.getD i "")]) → Q (.ref D) H'
theorem ok_Bas (t : TX K mg) : FnOk P w K mg base CX0 1 t.fS t.dS ["_law_error"] (spBas t.cs) := by
  refine t.FS.ok scBas (fun vs H Q E h => ?_) (fun cdv A outer s H vs Q E hr h => ?_)
  · obtain ⟨v, i, fs, rfl, _⟩ := h
    rfl
  · obtain ⟨v, i, fs, rfl, hi, er, q⟩ := h
    refine ⟨_, pss_cons (ps_set (i := 1) scBas.nd rfl (.inl rfl) (pe_op op_cat (pe_op op_rep (pe_lst (pa_cons pe_str pa_nil)) (pe_callTy call_int1 (by rfl) t.m_int (by decide +kernel) (pa_cons (pe_callB (id := "isinstance") (r := rIsE1 K) call_isE1 (by rfl) t.m_isinstance (by decide +kernel) (pa_cons (pv 0) (pa_cons (pe_bltn (v := .ty "ValueError") (by rfl) t.m_ValueError (by decide +kernel) rfl) pa_nil))) pa_nil))) (pe_op op_rep (pe_lst (pa_cons pe_str pa_nil)) (pe_callTy call_int1 (by rfl) t.m_int (by decide +kernel) (pa_cons (pe_callB (id := "isinstance") (r := rIsE1 K) call_isE1 (by rfl) t.m_isinstance (by decide +kernel) (pa_cons (pv 0) (pa_cons (pe_bltn (v := .ty "LookupError") (by rfl) t.m_LookupError (by decide +kernel) rfl) pa_nil))) pa_nil)))))
      (pss_cons (ps_set (i := 1) scBas.nd rfl (.inl rfl) (pe_op op_cat (pv 1) (pe_op op_rep (pe_lst (pa_cons pe_str pa_nil)) (pe_callTy call_int1 (by rfl) t.m_int (by decide +kernel) (pa_cons (pe_callB (id := "isinstance") (r := rIsE1 K) call_isE1 (by rfl) t.m_isinstance (by decide +kernel) (pa_cons (pv 0) (pa_cons (pe_bltn (v := .ty "RuntimeError") (by rfl) t.m_RuntimeError (by decide +kernel) rfl) pa_nil))) pa_nil)))))
      (pss_cons (ps_set (i := 1) scBas.nd rfl (.inl rfl) (pe_op op_cat (pv 1) (pe_op op_rep (pe_lst (pa_cons pe_str pa_nil)) (pe_callTy call_int1 (by rfl) t.m_int (by decide +kernel) (pa_cons (pe_callB (id := "isinstance") (r := rIsE1 K) call_isE1 (by rfl) t.m_isinstance (by decide +kernel) (pa_cons (pv 0) (pa_cons (pe_bltn (v := .ty "OverflowError") (by rfl) t.m_OverflowError (by decide +kernel) rfl) pa_nil))) pa_nil)))))
      (pss_one (ps_ret (pe_op op_cat (pv 1) (pe_op op_rep (pe_lst (pa_cons pe_str pa_nil)) (pe_callTy call_int1 (by rfl) t.m_int (by decide +kernel) (pa_cons (pe_callB (id := "isinstance") (r := rIsEn K) call_isEn (by rfl) t.m_isinstance (by decide +kernel) (pa_cons (pv 0) (pa_cons (pe_tup (pa_cons (pe_bltn (v := .ty "IndexError") (by rfl) t.m_IndexError (by decide +kernel) rfl) (pa_cons (pe_bltn (v := .ty "KeyError") (by rfl) t.m_KeyError (by decide +kernel) rfl) (pa_cons (pe_bltn (v := .ty "NotImplementedError") (by rfl) t.m_NotImplementedError (by decide +kernel) rfl) pa_nil)))) pa_nil))) pa_nil)))))))), ?_⟩
    have hx := t.xis i hi
    have hk : ∀ b ∈ (["ValueError", "LookupError", "RuntimeError", "OverflowError", "IndexError", "KeyError", "NotImplementedError"] : List String), PySem.W.kitOne K (.ref (t.cs.getD i 0)) (.type b) = some (decide (bsT.getD i "" = b)) := fun b hb => kits_ty t.kin hi hb
    have cases4 : (bsT.getD i "" = "ValueError" ∧ bsN.getD i "" = "value") ∨ (bsT.getD i "" = "LookupError" ∧ bsN.getD i "" = "lookup") ∨ (bsT.getD i "" = "RuntimeError" ∧ bsN.getD i "" = "runtime") ∨ (bsT.getD i "" = "OverflowError" ∧ bsN.getD i "" = "overflow") := by
      have : i = 0 ∨ i = 1 ∨ i = 2 ∨ i = 3 ∨ i = 4 ∨ i = 5 ∨ i = 6 ∨ i = 7 ∨ i = 8 ∨ i = 9 ∨ i = 10 ∨ i = 11 ∨ i = 12 ∨ i = 13 ∨ i = 14 ∨ i = 15 ∨ i = 16 ∨ i = 17 ∨ i = 18 ∨ i = 19 ∨ i = 20 := by omega
      rcases this with rfl | rfl | rfl | rfl | rfl | rfl | rfl | rfl | rfl | rfl | rfl | rfl | rfl | rfl | rfl | rfl | rfl | rfl | rfl | rfl | rfl <;> decide +kernel
    rcases cases4 with ⟨e1, e2⟩ | ⟨e1, e2⟩ | ⟨e1, e2⟩ | ⟨e1, e2⟩
    · skip
      refine ⟨(by decide : (1 : Nat) ≤ sizeLine), fun a0 na0 => ?_⟩
      have s_a0 : Same H (upd H a0 (.lst [.str "value"])) := same_upd na0
      have h_a0 : (upd H a0 (.lst [.str "value"])) a0 = some (.lst [.str "value"]) := upd_same
      generalize (upd H a0 (.lst [.str "value"])) = H_a0 at *
      refine ⟨v, rfl, v, .ty "ValueError", _, _, .type "ValueError", _, rfl, (er.same s_a0), hx, (fun u r => r), hk "ValueError" (by decide), .inr ⟨_, rfl, ?_⟩⟩
      rw [show (if decide (bsT.getD i "" = "ValueError") = true then (1 : Int) else 0) = ((1 : Nat) : Int) from by rw [e1]; decide]
      refine ⟨a0, 1, _, rfl, rfl, h_a0, by decide, by decide, (by decide : (1 : Nat) ≤ sizeLine), fun b0 nb0 => ?_⟩
      have s_b0 : Same H_a0 (upd H_a0 b0 (.lst (List.replicate (1 : Int).toNat [V.str "value"]).flatten)) := same_upd nb0
      have h_b0 : (upd H_a0 b0 (.lst (List.replicate (1 : Int).toNat [V.str "value"]).flatten)) b0 = some (.lst [.str "value"]) := upd_same
      generalize (upd H_a0 b0 (.lst (List.replicate (1 : Int).toNat [V.str "value"]).flatten)) = H_b0 at *
      refine ⟨(by decide : (1 : Nat) ≤ sizeLine), fun a1 na1 => ?_⟩
      have s_a1 : Same H_b0 (upd H_b0 a1 (.lst [.str "lookup"])) := same_upd na1
      have h_a1 : (upd H_b0 a1 (.lst [.str "lookup"])) a1 = some (.lst [.str "lookup"]) := upd_same
      generalize (upd H_b0 a1 (.lst [.str "lookup"])) = H_a1 at *
      refine ⟨v, rfl, v, .ty "LookupError", _, _, .type "LookupError", _, rfl, (er.same ((s_a0.trans s_b0).trans s_a1)), hx, (fun u r => r), hk "LookupError" (by decide), .inr ⟨_, rfl, ?_⟩⟩
      rw [show (if decide (bsT.getD i "" = "LookupError") = true then (1 : Int) else 0) = ((0 : Nat) : Int) from by rw [e1]; decide]
      refine ⟨a1, 0, _, rfl, rfl, h_a1, by decide, by decide, (by decide : (0 : Nat) ≤ sizeLine), fun b1 nb1 => ?_⟩
      have s_b1 : Same H_a1 (upd H_a1 b1 (.lst (List.replicate (0 : Int).toNat [V.str "lookup"]).flatten)) := same_upd nb1
      have h_b1 : (upd H_a1 b1 (.lst (List.replicate (0 : Int).toNat [V.str "lookup"]).flatten)) b1 = some (.lst []) := upd_same
      generalize (upd H_a1 b1 (.lst (List.replicate (0 : Int).toNat [V.str "lookup"]).flatten)) = H_b1 at *
      refine ⟨b0, b1, _, _, rfl, rfl, ((s_a1.trans s_b1) _ _ h_b0), h_b1, (by decide : (1 : Nat) ≤ sizeLine), fun c1 nc1 => ?_⟩
      have s_c1 : Same H_b1 (upd H_b1 c1 (.lst ([.str "value"] ++ []))) := same_upd nc1
      have h_c1 : (upd H_b1 c1 (.lst ([.str "value"] ++ []))) c1 = some (.lst [.str "value"]) := upd_same
      generalize (upd H_b1 c1 (.lst ([.str "value"] ++ []))) = H_c1 at *
      try dsimp only [tNext, gName]
      refine sl_cut [some v, some (.ref c1)] rfl ?_
      refine ⟨.ref c1, rfl, (by decide : (1 : Nat) ≤ sizeLine), fun a2 na2 => ?_⟩
      have s_a2 : Same H_c1 (upd H_c1 a2 (.lst [.str "runtime"])) := same_upd na2
      have h_a2 : (upd H_c1 a2 (.lst [.str "runtime"])) a2 = some (.lst [.str "runtime"]) := upd_same
      generalize (upd H_c1 a2 (.lst [.str "runtime"])) = H_a2 at *
      refine ⟨v, rfl, v, .ty "RuntimeError", _, _, .type "RuntimeError", _, rfl, (er.same (((((s_a0.trans s_b0).trans s_a1).trans s_b1).trans s_c1).trans s_a2)), hx, (fun u r => r), hk "RuntimeError" (by decide), .inr ⟨_, rfl, ?_⟩⟩
      rw [show (if decide (bsT.getD i "" = "RuntimeError") = true then (1 : Int) else 0) = ((0 : Nat) : Int) from by rw [e1]; decide]
      refine ⟨a2, 0, _, rfl, rfl, h_a2, by decide, by decide, (by decide : (0 : Nat) ≤ sizeLine), fun b2 nb2 => ?_⟩
      have s_b2 : Same H_a2 (upd H_a2 b2 (.lst (List.replicate (0 : Int).toNat [V.str "runtime"]).flatten)) := same_upd nb2
      have h_b2 : (upd H_a2 b2 (.lst (List.replicate (0 : Int).toNat [V.str "runtime"]).flatten)) b2 = some (.lst []) := upd_same
      generalize (upd H_a2 b2 (.lst (List.replicate (0 : Int).toNat [V.str "runtime"]).flatten)) = H_b2 at *
      refine ⟨c1, b2, _, _, rfl, rfl, ((s_a2.trans s_b2) _ _ h_c1), h_b2, (by decide : (1 : Nat) ≤ sizeLine), fun c2 nc2 => ?_⟩
      have s_c2 : Same H_b2 (upd H_b2 c2 (.lst ([.str "value"] ++ []))) := same_upd nc2
      have h_c2 : (upd H_b2 c2 (.lst ([.str "value"] ++ []))) c2 = some (.lst [.str "value"]) := upd_same
      generalize (upd H_b2 c2 (.lst ([.str "value"] ++ []))) = H_c2 at *
      try dsimp only [tNext, gName]
      refine sl_cut [some v, some (.ref c2)] rfl ?_
      refine ⟨.ref c2, rfl, (by decide : (1 : Nat) ≤ sizeLine), fun a3 na3 => ?_⟩
      have s_a3 : Same H_c2 (upd H_c2 a3 (.lst [.str "overflow"])) := same_upd na3
      have h_a3 : (upd H_c2 a3 (.lst [.str "overflow"])) a3 = some (.lst [.str "overflow"]) := upd_same
      generalize (upd H_c2 a3 (.lst [.str "overflow"])) = H_a3 at *
      refine ⟨v, rfl, v, .ty "OverflowError", _, _, .type "OverflowError", _, rfl, (er.same ((((((((s_a0.trans s_b0).trans s_a1).trans s_b1).trans s_c1).trans s_a2).trans s_b2).trans s_c2).trans s_a3)), hx, (fun u r => r), hk "OverflowError" (by decide), .inr ⟨_, rfl, ?_⟩⟩
      rw [show (if decide (bsT.getD i "" = "OverflowError") = true then (1 : Int) else 0) = ((0 : Nat) : Int) from by rw [e1]; decide]
      refine ⟨a3, 0, _, rfl, rfl, h_a3, by decide, by decide, (by decide : (0 : Nat) ≤ sizeLine), fun b3 nb3 => ?_⟩
      have s_b3 : Same H_a3 (upd H_a3 b3 (.lst (List.replicate (0 : Int).toNat [V.str "overflow"]).flatten)) := same_upd nb3
      have h_b3 : (upd H_a3 b3 (.lst (List.replicate (0 : Int).toNat [V.str "overflow"]).flatten)) b3 = some (.lst []) := upd_same
      generalize (upd H_a3 b3 (.lst (List.replicate (0 : Int).toNat [V.str "overflow"]).flatten)) = H_b3 at *
      refine ⟨c2, b3, _, _, rfl, rfl, ((s_a3.trans s_b3) _ _ h_c2), h_b3, (by decide : (1 : Nat) ≤ sizeLine), fun c3 nc3 => ?_⟩
      have s_c3 : Same H_b3 (upd H_b3 c3 (.lst ([.str "value"] ++ []))) := same_upd nc3
      have h_c3 : (upd H_b3 c3 (.lst ([.str "value"] ++ []))) c3 = some (.lst [.str "value"]) := upd_same
      generalize (upd H_b3 c3 (.lst ([.str "value"] ++ []))) = H_c3 at *
      try dsimp only [tNext, gName]
      refine sl_cut [some v, some (.ref c3)] rfl ?_
      refine ⟨.ref c3, rfl, (by decide : (1 : Nat) ≤ sizeLine), fun a4 na4 => ?_⟩
      have s_a4 : Same H_c3 (upd H_c3 a4 (.lst [.str "other"])) := same_upd na4
      have h_a4 : (upd H_c3 a4 (.lst [.str "other"])) a4 = some (.lst [.str "other"]) := upd_same
      generalize (upd H_c3 a4 (.lst [.str "other"])) = H_a4 at *
      refine ⟨v, rfl, (by decide : (3 : Nat) ≤ sizeLine), fun tt ntt => ?_⟩
      have s_tt : Same H_a4 (upd H_a4 tt (.tup [.ty "IndexError", .ty "KeyError", .ty "NotImplementedError"])) := same_upd ntt
      have h_tt : (upd H_a4 tt (.tup [.ty "IndexError", .ty "KeyError", .ty "NotImplementedError"])) tt = some (.tup [.ty "IndexError", .ty "KeyError", .ty "NotImplementedError"]) := upd_same
      generalize (upd H_a4 tt (.tup [.ty "IndexError", .ty "KeyError", .ty "NotImplementedError"])) = H_tt at *
      refine ⟨v, tt, _, _, _, _, _, rfl, (er.same ((((((((((((s_a0.trans s_b0).trans s_a1).trans s_b1).trans s_c1).trans s_a2).trans s_b2).trans s_c2).trans s_a3).trans s_b3).trans s_c3).trans s_a4).trans s_tt)), hx, h_tt, vals_eq3 (fun u r => r) (fun u r => r) (fun u r => r), kit_any3 (hk "IndexError" (by decide)) (hk "KeyError" (by decide)) (hk "NotImplementedError" (by decide)), .inr ⟨_, rfl, ?_⟩⟩
      rw [show (if (decide (bsT.getD i "" = "IndexError") || decide (bsT.getD i "" = "KeyError") || decide (bsT.getD i "" = "NotImplementedError")) = true then (1 : Int) else 0) = ((0 : Nat) : Int) from by rw [e1]; decide]
      refine ⟨a4, 0, _, rfl, rfl, (s_tt _ _ h_a4), by decide, by decide, (by decide : (0 : Nat) ≤ sizeLine), fun b4 nb4 => ?_⟩
      have s_b4 : Same H_tt (upd H_tt b4 (.lst (List.replicate (0 : Int).toNat [V.str "other"]).flatten)) := same_upd nb4
      have h_b4 : (upd H_tt b4 (.lst (List.replicate (0 : Int).toNat [V.str "other"]).flatten)) b4 = some (.lst []) := upd_same
      generalize (upd H_tt b4 (.lst (List.replicate (0 : Int).toNat [V.str "other"]).flatten)) = H_b4 at *
      refine ⟨c3, b4, _, _, rfl, rfl, (((s_a4.trans s_tt).trans s_b4) _ _ h_c3), h_b4, (by decide : (1 : Nat) ≤ sizeLine), fun c4 nc4 => ?_⟩
      have s_c4 : Same H_b4 (upd H_b4 c4 (.lst ([.str "value"] ++ []))) := same_upd nc4
      have h_c4 : (upd H_b4 c4 (.lst ([.str "value"] ++ []))) c4 = some (.lst [.str "value"]) := upd_same
      generalize (upd H_b4 c4 (.lst ([.str "value"] ++ []))) = H_c4 at *
      exact q _ c4 ((((((((((((((s_a0.trans s_b0).trans s_a1).trans s_b1).trans s_c1).trans s_a2).trans s_b2).trans s_c2).trans s_a3).trans s_b3).trans s_c3).trans s_a4).trans s_tt).trans s_b4).trans s_c4) (by rw [e2]; exact h_c4)
    · skip
      refine ⟨(by decide : (1 : Nat) ≤ sizeLine), fun a0 na0 => ?_⟩
      have s_a0 : Same H (upd H a0 (.lst [.str "value"])) := same_upd na0
      have h_a0 : (upd H a0 (.lst [.str "value"])) a0 = some (.lst [.str "value"]) := upd_same
      generalize (upd H a0 (.lst [.str "value"])) = H_a0 at *
      refine ⟨v, rfl, v, .ty "ValueError", _, _, .type "ValueError", _, rfl, (er.same s_a0), hx, (fun u r => r), hk "ValueError" (by decide), .inr ⟨_, rfl, ?_⟩⟩
      rw [show (if decide (bsT.getD i "" = "ValueError") = true then (1 : Int) else 0) = ((0 : Nat) : Int) from by rw [e1]; decide]
      refine ⟨a0, 0, _, rfl, rfl, h_a0, by decide, by decide, (by decide : (0 : Nat) ≤ sizeLine), fun b0 nb0 => ?_⟩
      have s_b0 : Same H_a0 (upd H_a0 b0 (.lst (List.replicate (0 : Int).toNat [V.str "value"]).flatten)) := same_upd nb0
      have h_b0 : (upd H_a0 b0 (.lst (List.replicate (0 : Int).toNat [V.str "value"]).flatten)) b0 = some (.lst []) := upd_same
      generalize (upd H_a0 b0 (.lst (List.replicate (0 : Int).toNat [V.str "value"]).flatten)) = H_b0 at *
      refine ⟨(by decide : (1 : Nat) ≤ sizeLine), fun a1 na1 => ?_⟩
      have s_a1 : Same H_b0 (upd H_b0 a1 (.lst [.str "lookup"])) := same_upd na1
      have h_a1 : (upd H_b0 a1 (.lst [.str "lookup"])) a1 = some (.lst [.str "lookup"]) := upd_same
      generalize (upd H_b0 a1 (.lst [.str "lookup"])) = H_a1 at *
      refine ⟨v, rfl, v, .ty "LookupError", _, _, .type "LookupError", _, rfl, (er.same ((s_a0.trans s_b0).trans s_a1)), hx, (fun u r => r), hk "LookupError" (by decide), .inr ⟨_, rfl, ?_⟩⟩
      rw [show (if decide (bsT.getD i "" = "LookupError") = true then (1 : Int) else 0) = ((1 : Nat) : Int) from by rw [e1]; decide]
      refine ⟨a1, 1, _, rfl, rfl, h_a1, by decide, by decide, (by decide : (1 : Nat) ≤ sizeLine), fun b1 nb1 => ?_⟩
      have s_b1 : Same H_a1 (upd H_a1 b1 (.lst (List.replicate (1 : Int).toNat [V.str "lookup"]).flatten)) := same_upd nb1
      have h_b1 : (upd H_a1 b1 (.lst (List.replicate (1 : Int).toNat [V.str "lookup"]).flatten)) b1 = some (.lst [.str "lookup"]) := upd_same
      generalize (upd H_a1 b1 (.lst (List.replicate (1 : Int).toNat [V.str "lookup"]).flatten)) = H_b1 at *
      refine ⟨b0, b1, _, _, rfl, rfl, ((s_a1.trans s_b1) _ _ h_b0), h_b1, (by decide : (1 : Nat) ≤ sizeLine), fun c1 nc1 => ?_⟩
      have s_c1 : Same H_b1 (upd H_b1 c1 (.lst ([] ++ [.str "lookup"]))) := same_upd nc1
      have h_c1 : (upd H_b1 c1 (.lst ([] ++ [.str "lookup"]))) c1 = some (.lst [.str "lookup"]) := upd_same
      generalize (upd H_b1 c1 (.lst ([] ++ [.str "lookup"]))) = H_c1 at *
      try dsimp only [tNext, gName]
      refine sl_cut [some v, some (.ref c1)] rfl ?_
      refine ⟨.ref c1, rfl, (by decide : (1 : Nat) ≤ sizeLine), fun a2 na2 => ?_⟩
      have s_a2 : Same H_c1 (upd H_c1 a2 (.lst [.str "runtime"])) := same_upd na2
      have h_a2 : (upd H_c1 a2 (.lst [.str "runtime"])) a2 = some (.lst [.str "runtime"]) := upd_same
      generalize (upd H_c1 a2 (.lst [.str "runtime"])) = H_a2 at *
      refine ⟨v, rfl, v, .ty "RuntimeError", _, _, .type "RuntimeError", _, rfl, (er.same (((((s_a0.trans s_b0).trans s_a1).trans s_b1).trans s_c1).trans s_a2)), hx, (fun u r => r), hk "RuntimeError" (by decide), .inr ⟨_, rfl, ?_⟩⟩
      rw [show (if decide (bsT.getD i "" = "RuntimeError") = true then (1 : Int) else 0) = ((0 : Nat) : Int) from by rw [e1]; decide]
      refine ⟨a2, 0, _, rfl, rfl, h_a2, by decide, by decide, (by decide : (0 : Nat) ≤ sizeLine), fun b2 nb2 => ?_⟩
      have s_b2 : Same H_a2 (upd H_a2 b2 (.lst (List.replicate (0 : Int).toNat [V.str "runtime"]).flatten)) := same_upd nb2
      have h_b2 : (upd H_a2 b2 (.lst (List.replicate (0 : Int).toNat [V.str "runtime"]).flatten)) b2 = some (.lst []) := upd_same
      generalize (upd H_a2 b2 (.lst (List.replicate (0 : Int).toNat [V.str "runtime"]).flatten)) = H_b2 at *
      refine ⟨c1, b2, _, _, rfl, rfl, ((s_a2.trans s_b2) _ _ h_c1), h_b2, (by decide : (1 : Nat) ≤ sizeLine), fun c2 nc2 => ?_⟩
      have s_c2 : Same H_b2 (upd H_b2 c2 (.lst ([.str "lookup"] ++ []))) := same_upd nc2
      have h_c2 : (upd H_b2 c2 (.lst ([.str "lookup"] ++ []))) c2 = some (.lst [.str "lookup"]) := upd_same
      generalize (upd H_b2 c2 (.lst ([.str "lookup"] ++ []))) = H_c2 at *
      try dsimp only [tNext, gName]
      refine sl_cut [some v, some (.ref c2)] rfl ?_
      refine ⟨.ref c2, rfl, (by decide : (1 : Nat) ≤ sizeLine), fun a3 na3 => ?_⟩
      have s_a3 : Same H_c2 (upd H_c2 a3 (.lst [.str "overflow"])) := same_upd na3
      have h_a3 : (upd H_c2 a3 (.lst [.str "overflow"])) a3 = some (.lst [.str "overflow"]) := upd_same
      generalize (upd H_c2 a3 (.lst [.str "overflow"])) = H_a3 at *
      refine ⟨v, rfl, v, .ty "OverflowError", _, _, .type "OverflowError", _, rfl, (er.same ((((((((s_a0.trans s_b0).trans s_a1).trans s_b1).trans s_c1).trans s_a2).trans s_b2).trans s_c2).trans s_a3)), hx, (fun u r => r), hk "OverflowError" (by decide), .inr ⟨_, rfl, ?_⟩⟩
      rw [show (if decide (bsT.getD i "" = "OverflowError") = true then (1 : Int) else 0) = ((0 : Nat) : Int) from by rw [e1]; decide]
      refine ⟨a3, 0, _, rfl, rfl, h_a3, by decide, by decide, (by decide : (0 : Nat) ≤ sizeLine), fun b3 nb3 => ?_⟩
      have s_b3 : Same H_a3 (upd H_a3 b3 (.lst (List.replicate (0 : Int).toNat [V.str "overflow"]).flatten)) := same_upd nb3
      have h_b3 : (upd H_a3 b3 (.lst (List.replicate (0 : Int).toNat [V.str "overflow"]).flatten)) b3 = some (.lst []) := upd_same
      generalize (upd H_a3 b3 (.lst (List.replicate (0 : Int).toNat [V.str "overflow"]).flatten)) = H_b3 at *
      refine ⟨c2, b3, _, _, rfl, rfl, ((s_a3.trans s_b3) _ _ h_c2), h_b3, (by decide : (1 : Nat) ≤ sizeLine), fun c3 nc3 => ?_⟩
      have s_c3 : Same H_b3 (upd H_b3 c3 (.lst ([.str "lookup"] ++ []))) := same_upd nc3
      have h_c3 : (upd H_b3 c3 (.lst ([.str "lookup"] ++ []))) c3 = some (.lst [.str "lookup"]) := upd_same
      generalize (upd H_b3 c3 (.lst ([.str "lookup"] ++ []))) = H_c3 at *
      try dsimp only [tNext, gName]
      refine sl_cut [some v, some (.ref c3)] rfl ?_
      refine ⟨.ref c3, rfl, (by decide : (1 : Nat) ≤ sizeLine), fun a4 na4 => ?_⟩
      have s_a4 : Same H_c3 (upd H_c3 a4 (.lst [.str "other"])) := same_upd na4
      have h_a4 : (upd H_c3 a4 (.lst [.str "other"])) a4 = some (.lst [.str "other"]) := upd_same
      generalize (upd H_c3 a4 (.lst [.str "other"])) = H_a4 at *
      refine ⟨v, rfl, (by decide : (3 : Nat) ≤ sizeLine), fun tt ntt => ?_⟩
      have s_tt : Same H_a4 (upd H_a4 tt (.tup [.ty "IndexError", .ty "KeyError", .ty "NotImplementedError"])) := same_upd ntt
      have h_tt : (upd H_a4 tt (.tup [.ty "IndexError", .ty "KeyError", .ty "NotImplementedError"])) tt = some (.tup [.ty "IndexError", .ty "KeyError", .ty "NotImplementedError"]) := upd_same
      generalize (upd H_a4 tt (.tup [.ty "IndexError", .ty "KeyError", .ty "NotImplementedError"])) = H_tt at *
      refine ⟨v, tt, _, _, _, _, _, rfl, (er.same ((((((((((((s_a0.trans s_b0).trans s_a1).trans s_b1).trans s_c1).trans s_a2).trans s_b2).trans s_c2).trans s_a3).trans s_b3).trans s_c3).trans s_a4).trans s_tt)), hx, h_tt, vals_eq3 (fun u r => r) (fun u r => r) (fun u r => r), kit_any3 (hk "IndexError" (by decide)) (hk "KeyError" (by decide)) (hk "NotImplementedError" (by decide)), .inr ⟨_, rfl, ?_⟩⟩
      rw [show (if (decide (bsT.getD i "" = "IndexError") || decide (bsT.getD i "" = "KeyError") || decide (bsT.getD i "" = "NotImplementedError")) = true then (1 : Int) else 0) = ((0 : Nat) : Int) from by rw [e1]; decide]
      refine ⟨a4, 0, _, rfl, rfl, (s_tt _ _ h_a4), by decide, by decide, (by decide : (0 : Nat) ≤ sizeLine), fun b4 nb4 => ?_⟩
      have s_b4 : Same H_tt (upd H_tt b4 (.lst (List.replicate (0 : Int).toNat [V.str "other"]).flatten)) := same_upd nb4
      have h_b4 : (upd H_tt b4 (.lst (List.replicate (0 : Int).toNat [V.str "other"]).flatten)) b4 = some (.lst []) := upd_same
      generalize (upd H_tt b4 (.lst (List.replicate (0 : Int).toNat [V.str "other"]).flatten)) = H_b4 at *
      refine ⟨c3, b4, _, _, rfl, rfl, (((s_a4.trans s_tt).trans s_b4) _ _ h_c3), h_b4, (by decide : (1 : Nat) ≤ sizeLine), fun c4 nc4 => ?_⟩
      have s_c4 : Same H_b4 (upd H_b4 c4 (.lst ([.str "lookup"] ++ []))) := same_upd nc4
      have h_c4 : (upd H_b4 c4 (.lst ([.str "lookup"] ++ []))) c4 = some (.lst [.str "lookup"]) := upd_same
      generalize (upd H_b4 c4 (.lst ([.str "lookup"] ++ []))) = H_c4 at *
      exact q _ c4 ((((((((((((((s_a0.trans s_b0).trans s_a1).trans s_b1).trans s_c1).trans s_a2).trans s_b2).trans s_c2).trans s_a3).trans s_b3).trans s_c3).trans s_a4).trans s_tt).trans s_b4).trans s_c4) (by rw [e2]; exact h_c4)
    · skip
      refine ⟨(by decide : (1 : Nat) ≤ sizeLine), fun a0 na0 => ?_⟩
      have s_a0 : Same H (upd H a0 (.lst [.str "value"])) := same_upd na0
      have h_a0 : (upd H a0 (.lst [.str "value"])) a0 = some (.lst [.str "value"]) := upd_same
      generalize (upd H a0 (.lst [.str "value"])) = H_a0 at *
      refine ⟨v, rfl, v, .ty "ValueError", _, _, .type "ValueError", _, rfl, (er.same s_a0), hx, (fun u r => r), hk "ValueError" (by decide), .inr ⟨_, rfl, ?_⟩⟩
      rw [show (if decide (bsT.getD i "" = "ValueError") = true then (1 : Int) else 0) = ((0 : Nat) : Int) from by rw [e1]; decide]
      refine ⟨a0, 0, _, rfl, rfl, h_a0, by decide, by decide, (by decide : (0 : Nat) ≤ sizeLine), fun b0 nb0 => ?_⟩
      have s_b0 : Same H_a0 (upd H_a0 b0 (.lst (List.replicate (0 : Int).toNat [V.str "value"]).flatten)) := same_upd nb0
      have h_b0 : (upd H_a0 b0 (.lst (List.replicate (0 : Int).toNat [V.str "value"]).flatten)) b0 = some (.lst []) := upd_same
      generalize (upd H_a0 b0 (.lst (List.replicate (0 : Int).toNat [V.str "value"]).flatten)) = H_b0 at *
      refine ⟨(by decide : (1 : Nat) ≤ sizeLine), fun a1 na1 => ?_⟩
      have s_a1 : Same H_b0 (upd H_b0 a1 (.lst [.str "lookup"])) := same_upd na1
      have h_a1 : (upd H_b0 a1 (.lst [.str "lookup"])) a1 = some (.lst [.str "lookup"]) := upd_same
      generalize (upd H_b0 a1 (.lst [.str "lookup"])) = H_a1 at *
      refine ⟨v, rfl, v, .ty "LookupError", _, _, .type "LookupError", _, rfl, (er.same ((s_a0.trans s_b0).trans s_a1)), hx, (fun u r => r), hk "LookupError" (by decide), .inr ⟨_, rfl, ?_⟩⟩
      rw [show (if decide (bsT.getD i "" = "LookupError") = true then (1 : Int) else 0) = ((0 : Nat) : Int) from by rw [e1]; decide]
      refine ⟨a1, 0, _, rfl, rfl, h_a1, by decide, by decide, (by decide : (0 : Nat) ≤ sizeLine), fun b1 nb1 => ?_⟩
      have s_b1 : Same H_a1 (upd H_a1 b1 (.lst (List.replicate (0 : Int).toNat [V.str "lookup"]).flatten)) := same_upd nb1
      have h_b1 : (upd H_a1 b1 (.lst (List.replicate (0 : Int).toNat [V.str "lookup"]).flatten)) b1 = some (.lst []) := upd_same
      generalize (upd H_a1 b1 (.lst (List.replicate (0 : Int).toNat [V.str "lookup"]).flatten)) = H_b1 at *
      refine ⟨b0, b1, _, _, rfl, rfl, ((s_a1.trans s_b1) _ _ h_b0), h_b1, (by decide : (0 : Nat) ≤ sizeLine), fun c1 nc1 => ?_⟩
      have s_c1 : Same H_b1 (upd H_b1 c1 (.lst ([] ++ []))) := same_upd nc1
      have h_c1 : (upd H_b1 c1 (.lst ([] ++ []))) c1 = some (.lst []) := upd_same
      generalize (upd H_b1 c1 (.lst ([] ++ []))) = H_c1 at *
      try dsimp only [tNext, gName]
      refine sl_cut [some v, some (.ref c1)] rfl ?_
      refine ⟨.ref c1, rfl, (by decide : (1 : Nat) ≤ sizeLine), fun a2 na2 => ?_⟩
      have s_a2 : Same H_c1 (upd H_c1 a2 (.lst [.str "runtime"])) := same_upd na2
      have h_a2 : (upd H_c1 a2 (.lst [.str "runtime"])) a2 = some (.lst [.str "runtime"]) := upd_same
      generalize (upd H_c1 a2 (.lst [.str "runtime"])) = H_a2 at *
      refine ⟨v, rfl, v, .ty "RuntimeError", _, _, .type "RuntimeError", _, rfl, (er.same (((((s_a0.trans s_b0).trans s_a1).trans s_b1).trans s_c1).trans s_a2)), hx, (fun u r => r), hk "RuntimeError" (by decide), .inr ⟨_, rfl, ?_⟩⟩
      rw [show (if decide (bsT.getD i "" = "RuntimeError") = true then (1 : Int) else 0) = ((1 : Nat) : Int) from by rw [e1]; decide]
      refine ⟨a2, 1, _, rfl, rfl, h_a2, by decide, by decide, (by decide : (1 : Nat) ≤ sizeLine), fun b2 nb2 => ?_⟩
      have s_b2 : Same H_a2 (upd H_a2 b2 (.lst (List.replicate (1 : Int).toNat [V.str "runtime"]).flatten)) := same_upd nb2
      have h_b2 : (upd H_a2 b2 (.lst (List.replicate (1 : Int).toNat [V.str "runtime"]).flatten)) b2 = some (.lst [.str "runtime"]) := upd_same
      generalize (upd H_a2 b2 (.lst (List.replicate (1 : Int).toNat [V.str "runtime"]).flatten)) = H_b2 at *
      refine ⟨c1, b2, _, _, rfl, rfl, ((s_a2.trans s_b2) _ _ h_c1), h_b2, (by decide : (1 : Nat) ≤ sizeLine), fun c2 nc2 => ?_⟩
      have s_c2 : Same H_b2 (upd H_b2 c2 (.lst ([] ++ [.str "runtime"]))) := same_upd nc2
      have h_c2 : (upd H_b2 c2 (.lst ([] ++ [.str "runtime"]))) c2 = some (.lst [.str "runtime"]) := upd_same
      generalize (upd H_b2 c2 (.lst ([] ++ [.str "runtime"]))) = H_c2 at *
      try dsimp only [tNext, gName]
      refine sl_cut [some v, some (.ref c2)] rfl ?_
      refine ⟨.ref c2, rfl, (by decide : (1 : Nat) ≤ sizeLine), fun a3 na3 => ?_⟩
      have s_a3 : Same H_c2 (upd H_c2 a3 (.lst [.str "overflow"])) := same_upd na3
      have h_a3 : (upd H_c2 a3 (.lst [.str "overflow"])) a3 = some (.lst [.str "overflow"]) := upd_same
      generalize (upd H_c2 a3 (.lst [.str "overflow"])) = H_a3 at *
      refine ⟨v, rfl, v, .ty "OverflowError", _, _, .type "OverflowError", _, rfl, (er.same ((((((((s_a0.trans s_b0).trans s_a1).trans s_b1).trans s_c1).trans s_a2).trans s_b2).trans s_c2).trans s_a3)), hx, (fun u r => r), hk "OverflowError" (by decide), .inr ⟨_, rfl, ?_⟩⟩
      rw [show (if decide (bsT.getD i "" = "OverflowError") = true then (1 : Int) else 0) = ((0 : Nat) : Int) from by rw [e1]; decide]
      refine ⟨a3, 0, _, rfl, rfl, h_a3, by decide, by decide, (by decide : (0 : Nat) ≤ sizeLine), fun b3 nb3 => ?_⟩
      have s_b3 : Same H_a3 (upd H_a3 b3 (.lst (List.replicate (0 : Int).toNat [V.str "overflow"]).flatten)) := same_upd nb3
      have h_b3 : (upd H_a3 b3 (.lst (List.replicate (0 : Int).toNat [V.str "overflow"]).flatten)) b3 = some (.lst []) := upd_same
      generalize (upd H_a3 b3 (.lst (List.replicate (0 : Int).toNat [V.str "overflow"]).flatten)) = H_b3 at *
      refine ⟨c2, b3, _, _, rfl, rfl, ((s_a3.trans s_b3) _ _ h_c2), h_b3, (by decide : (1 : Nat) ≤ sizeLine), fun c3 nc3 => ?_⟩
      have s_c3 : Same H_b3 (upd H_b3 c3 (.lst ([.str "runtime"] ++ []))) := same_upd nc3
      have h_c3 : (upd H_b3 c3 (.lst ([.str "runtime"] ++ []))) c3 = some (.lst [.str "runtime"]) := upd_same
      generalize (upd H_b3 c3 (.lst ([.str "runtime"] ++ []))) = H_c3 at *
      try dsimp only [tNext, gName]
      refine sl_cut [some v, some (.ref c3)] rfl ?_
      refine ⟨.ref c3, rfl, (by decide : (1 : Nat) ≤ sizeLine), fun a4 na4 => ?_⟩
      have s_a4 : Same H_c3 (upd H_c3 a4 (.lst [.str "other"])) := same_upd na4
      have h_a4 : (upd H_c3 a4 (.lst [.str "other"])) a4 = some (.lst [.str "other"]) := upd_same
      generalize (upd H_c3 a4 (.lst [.str "other"])) = H_a4 at *
      refine ⟨v, rfl, (by decide : (3 : Nat) ≤ sizeLine), fun tt ntt => ?_⟩
      have s_tt : Same H_a4 (upd H_a4 tt (.tup [.ty "IndexError", .ty "KeyError", .ty "NotImplementedError"])) := same_upd ntt
      have h_tt : (upd H_a4 tt (.tup [.ty "IndexError", .ty "KeyError", .ty "NotImplementedError"])) tt = some (.tup [.ty "IndexError", .ty "KeyError", .ty "NotImplementedError"]) := upd_same
      generalize (upd H_a4 tt (.tup [.ty "IndexError", .ty "KeyError", .ty "NotImplementedError"])) = H_tt at *
      refine ⟨v, tt, _, _, _, _, _, rfl, (er.same ((((((((((((s_a0.trans s_b0).trans s_a1).trans s_b1).trans s_c1).trans s_a2).trans s_b2).trans s_c2).trans s_a3).trans s_b3).trans s_c3).trans s_a4).trans s_tt)), hx, h_tt, vals_eq3 (fun u r => r) (fun u r => r) (fun u r => r), kit_any3 (hk "IndexError" (by decide)) (hk "KeyError" (by decide)) (hk "NotImplementedError" (by decide)), .inr ⟨_, rfl, ?_⟩⟩
      rw [show (if (decide (bsT.getD i "" = "IndexError") || decide (bsT.getD i "" = "KeyError") || decide (bsT.getD i "" = "NotImplementedError")) = true then (1 : Int) else 0) = ((0 : Nat) : Int) from by rw [e1]; decide]
      refine ⟨a4, 0, _, rfl, rfl, (s_tt _ _ h_a4), by decide, by decide, (by decide : (0 : Nat) ≤ sizeLine), fun b4 nb4 => ?_⟩
      have s_b4 : Same H_tt (upd H_tt b4 (.lst (List.replicate (0 : Int).toNat [V.str "other"]).flatten)) := same_upd nb4
      have h_b4 : (upd H_tt b4 (.lst (List.replicate (0 : Int).toNat [V.str "other"]).flatten)) b4 = some (.lst []) := upd_same
      generalize (upd H_tt b4 (.lst (List.replicate (0 : Int).toNat [V.str "other"]).flatten)) = H_b4 at *
      refine ⟨c3, b4, _, _, rfl, rfl, (((s_a4.trans s_tt).trans s_b4) _ _ h_c3), h_b4, (by decide : (1 : Nat) ≤ sizeLine), fun c4 nc4 => ?_⟩
      have s_c4 : Same H_b4 (upd H_b4 c4 (.lst ([.str "runtime"] ++ []))) := same_upd nc4
      have h_c4 : (upd H_b4 c4 (.lst ([.str "runtime"] ++ []))) c4 = some (.lst [.str "runtime"]) := upd_same
      generalize (upd H_b4 c4 (.lst ([.str "runtime"] ++ []))) = H_c4 at *
      exact q _ c4 ((((((((((((((s_a0.trans s_b0).trans s_a1).trans s_b1).trans s_c1).trans s_a2).trans s_b2).trans s_c2).trans s_a3).trans s_b3).trans s_c3).trans s_a4).trans s_tt).trans s_b4).trans s_c4) (by rw [e2]; exact h_c4)
    · skip
      refine ⟨(by decide : (1 : Nat) ≤ sizeLine), fun a0 na0 => ?_⟩
      have s_a0 : Same H (upd H a0 (.lst [.str "value"])) := same_upd na0
      have h_a0 : (upd H a0 (.lst [.str "value"])) a0 = some (.lst [.str "value"]) := upd_same
      generalize (upd H a0 (.lst [.str "value"])) = H_a0 at *
      refine ⟨v, rfl, v, .ty "ValueError", _, _, .type "ValueError", _, rfl, (er.same s_a0), hx, (fun u r => r), hk "ValueError" (by decide), .inr ⟨_, rfl, ?_⟩⟩
      rw [show (if decide (bsT.getD i "" = "ValueError") = true then (1 : Int) else 0) = ((0 : Nat) : Int) from by rw [e1]; decide]
      refine ⟨a0, 0, _, rfl, rfl, h_a0, by decide, by decide, (by decide : (0 : Nat) ≤ sizeLine), fun b0 nb0 => ?_⟩
      have s_b0 : Same H_a0 (upd H_a0 b0 (.lst (List.replicate (0 : Int).toNat [V.str "value"]).flatten)) := same_upd nb0
      have h_b0 : (upd H_a0 b0 (.lst (List.replicate (0 : Int).toNat [V.str "value"]).flatten)) b0 = some (.lst []) := upd_same
      generalize (upd H_a0 b0 (.lst (List.replicate (0 : Int).toNat [V.str "value"]).flatten)) = H_b0 at *
      refine ⟨(by decide : (1 : Nat) ≤ sizeLine), fun a1 na1 => ?_⟩
      have s_a1 : Same H_b0 (upd H_b0 a1 (.lst [.str "lookup"])) := same_upd na1
      have h_a1 : (upd H_b0 a1 (.lst [.str "lookup"])) a1 = some (.lst [.str "lookup"]) := upd_same
      generalize (upd H_b0 a1 (.lst [.str "lookup"])) = H_a1 at *
      refine ⟨v, rfl, v, .ty "LookupError", _, _, .type "LookupError", _, rfl, (er.same ((s_a0.trans s_b0).trans s_a1)), hx, (fun u r => r), hk "LookupError" (by decide), .inr ⟨_, rfl, ?_⟩⟩
      rw [show (if decide (bsT.getD i "" = "LookupError") = true then (1 : Int) else 0) = ((0 : Nat) : Int) from by rw [e1]; decide]
      refine ⟨a1, 0, _, rfl, rfl, h_a1, by decide, by decide, (by decide : (0 : Nat) ≤ sizeLine), fun b1 nb1 => ?_⟩
      have s_b1 : Same H_a1 (upd H_a1 b1 (.lst (List.replicate (0 : Int).toNat [V.str "lookup"]).flatten)) := same_upd nb1
      have h_b1 : (upd H_a1 b1 (.lst (List.replicate (0 : Int).toNat [V.str "lookup"]).flatten)) b1 = some (.lst []) := upd_same
      generalize (upd H_a1 b1 (.lst (List.replicate (0 : Int).toNat [V.str "lookup"]).flatten)) = H_b1 at *
      refine ⟨b0, b1, _, _, rfl, rfl, ((s_a1.trans s_b1) _ _ h_b0), h_b1, (by decide : (0 : Nat) ≤ sizeLine), fun c1 nc1 => ?_⟩
      have s_c1 : Same H_b1 (upd H_b1 c1 (.lst ([] ++ []))) := same_upd nc1
      have h_c1 : (upd H_b1 c1 (.lst ([] ++ []))) c1 = some (.lst []) := upd_same
      generalize (upd H_b1 c1 (.lst ([] ++ []))) = H_c1 at *
      try dsimp only [tNext, gName]
      refine sl_cut [some v, some (.ref c1)] rfl ?_
      refine ⟨.ref c1, rfl, (by decide : (1 : Nat) ≤ sizeLine), fun a2 na2 => ?_⟩
      have s_a2 : Same H_c1 (upd H_c1 a2 (.lst [.str "runtime"])) := same_upd na2
      have h_a2 : (upd H_c1 a2 (.lst [.str "runtime"])) a2 = some (.lst [.str "runtime"]) := upd_same
      generalize (upd H_c1 a2 (.lst [.str "runtime"])) = H_a2 at *
      refine ⟨v, rfl, v, .ty "RuntimeError", _, _, .type "RuntimeError", _, rfl, (er.same (((((s_a0.trans s_b0).trans s_a1).trans s_b1).trans s_c1).trans s_a2)), hx, (fun u r => r), hk "RuntimeError" (by decide), .inr ⟨_, rfl, ?_⟩⟩
      rw [show (if decide (bsT.getD i "" = "RuntimeError") = true then (1 : Int) else 0) = ((0 : Nat) : Int) from by rw [e1]; decide]
      refine ⟨a2, 0, _, rfl, rfl, h_a2, by decide, by decide, (by decide : (0 : Nat) ≤ sizeLine), fun b2 nb2 => ?_⟩
      have s_b2 : Same H_a2 (upd H_a2 b2 (.lst (List.replicate (0 : Int).toNat [V.str "runtime"]).flatten)) := same_upd nb2
      have h_b2 : (upd H_a2 b2 (.lst (List.replicate (0 : Int).toNat [V.str "runtime"]).flatten)) b2 = some (.lst []) := upd_same
      generalize (upd H_a2 b2 (.lst (List.replicate (0 : Int).toNat [V.str "runtime"]).flatten)) = H_b2 at *
      refine ⟨c1, b2, _, _, rfl, rfl, ((s_a2.trans s_b2) _ _ h_c1), h_b2, (by decide : (0 : Nat) ≤ sizeLine), fun c2 nc2 => ?_⟩
      have s_c2 : Same H_b2 (upd H_b2 c2 (.lst ([] ++ []))) := same_upd nc2
      have h_c2 : (upd H_b2 c2 (.lst ([] ++ []))) c2 = some (.lst []) := upd_same
      generalize (upd H_b2 c2 (.lst ([] ++ []))) = H_c2 at *
      try dsimp only [tNext, gName]
      refine sl_cut [some v, some (.ref c2)] rfl ?_
      refine ⟨.ref c2, rfl, (by decide : (1 : Nat) ≤ sizeLine), fun a3 na3 => ?_⟩
      have s_a3 : Same H_c2 (upd H_c2 a3 (.lst [.str "overflow"])) := same_upd na3
      have h_a3 : (upd H_c2 a3 (.lst [.str "overflow"])) a3 = some (.lst [.str "overflow"]) := upd_same
      generalize (upd H_c2 a3 (.lst [.str "overflow"])) = H_a3 at *
      refine ⟨v, rfl, v, .ty "OverflowError", _, _, .type "OverflowError", _, rfl, (er.same ((((((((s_a0.trans s_b0).trans s_a1).trans s_b1).trans s_c1).trans s_a2).trans s_b2).trans s_c2).trans s_a3)), hx, (fun u r => r), hk "OverflowError" (by decide), .inr ⟨_, rfl, ?_⟩⟩
      rw [show (if decide (bsT.getD i "" = "OverflowError") = true then (1 : Int) else 0) = ((1 : Nat) : Int) from by rw [e1]; decide]
      refine ⟨a3, 1, _, rfl, rfl, h_a3, by decide, by decide, (by decide : (1 : Nat) ≤ sizeLine), fun b3 nb3 => ?_⟩
      have s_b3 : Same H_a3 (upd H_a3 b3 (.lst (List.replicate (1 : Int).toNat [V.str "overflow"]).flatten)) := same_upd nb3
      have h_b3 : (upd H_a3 b3 (.lst (List.replicate (1 : Int).toNat [V.str "overflow"]).flatten)) b3 = some (.lst [.str "overflow"]) := upd_same
      generalize (upd H_a3 b3 (.lst (List.replicate (1 : Int).toNat [V.str "overflow"]).flatten)) = H_b3 at *
      refine ⟨c2, b3, _, _, rfl, rfl, ((s_a3.trans s_b3) _ _ h_c2), h_b3, (by decide : (1 : Nat) ≤ sizeLine), fun c3 nc3 => ?_⟩
      have s_c3 : Same H_b3 (upd H_b3 c3 (.lst ([] ++ [.str "overflow"]))) := same_upd nc3
      have h_c3 : (upd H_b3 c3 (.lst ([] ++ [.str "overflow"]))) c3 = some (.lst [.str "overflow"]) := upd_same
      generalize (upd H_b3 c3 (.lst ([] ++ [.str "overflow"]))) = H_c3 at *
      try dsimp only [tNext, gName]
      refine sl_cut [some v, some (.ref c3)] rfl ?_
      refine ⟨.ref c3, rfl, (by decide : (1 : Nat) ≤ sizeLine), fun a4 na4 => ?_⟩
      have s_a4 : Same H_c3 (upd H_c3 a4 (.lst [.str "other"])) := same_upd na4
      have h_a4 : (upd H_c3 a4 (.lst [.str "other"])) a4 = some (.lst [.str "other"]) := upd_same
      generalize (upd H_c3 a4 (.lst [.str "other"])) = H_a4 at *
      refine ⟨v, rfl, (by decide : (3 : Nat) ≤ sizeLine), fun tt ntt => ?_⟩
      have s_tt : Same H_a4 (upd H_a4 tt (.tup [.ty "IndexError", .ty "KeyError", .ty "NotImplementedError"])) := same_upd ntt
      have h_tt : (upd H_a4 tt (.tup [.ty "IndexError", .ty "KeyError", .ty "NotImplementedError"])) tt = some (.tup [.ty "IndexError", .ty "KeyError", .ty "NotImplementedError"]) := upd_same
      generalize (upd H_a4 tt (.tup [.ty "IndexError", .ty "KeyError", .ty "NotImplementedError"])) = H_tt at *
      refine ⟨v, tt, _, _, _, _, _, rfl, (er.same ((((((((((((s_a0.trans s_b0).trans s_a1).trans s_b1).trans s_c1).trans s_a2).trans s_b2).trans s_c2).trans s_a3).trans s_b3).trans s_c3).trans s_a4).trans s_tt)), hx, h_tt, vals_eq3 (fun u r => r) (fun u r => r) (fun u r => r), kit_any3 (hk "IndexError" (by decide)) (hk "KeyError" (by decide)) (hk "NotImplementedError" (by decide)), .inr ⟨_, rfl, ?_⟩⟩
      rw [show (if (decide (bsT.getD i "" = "IndexError") || decide (bsT.getD i "" = "KeyError") || decide (bsT.getD i "" = "NotImplementedError")) = true then (1 : Int) else 0) = ((0 : Nat) : Int) from by rw [e1]; decide]
      refine ⟨a4, 0, _, rfl, rfl, (s_tt _ _ h_a4), by decide, by decide, (by decide : (0 : Nat) ≤ sizeLine), fun b4 nb4 => ?_⟩
      have s_b4 : Same H_tt (upd H_tt b4 (.lst (List.replicate (0 : Int).toNat [V.str "other"]).flatten)) := same_upd nb4
      have h_b4 : (upd H_tt b4 (.lst (List.replicate (0 : Int).toNat [V.str "other"]).flatten)) b4 = some (.lst []) := upd_same
      generalize (upd H_tt b4 (.lst (List.replicate (0 : Int).toNat [V.str "other"]).flatten)) = H_b4 at *
      refine ⟨c3, b4, _, _, rfl, rfl, (((s_a4.trans s_tt).trans s_b4) _ _ h_c3), h_b4, (by decide : (1 : Nat) ≤ sizeLine), fun c4 nc4 => ?_⟩
      have s_c4 : Same H_b4 (upd H_b4 c4 (.lst ([.str "overflow"] ++ []))) := same_upd nc4
      have h_c4 : (upd H_b4 c4 (.lst ([.str "overflow"] ++ []))) c4 = some (.lst [.str "overflow"]) := upd_same
      generalize (upd H_b4 c4 (.lst ([.str "overflow"] ++ []))) = H_c4 at *
      exact q _ c4 ((((((((((((((s_a0.trans s_b0).trans s_a1).trans s_b1).trans s_c1).trans s_a2).trans s_b2).trans s_c2).trans s_a3).trans s_b3).trans s_c3).trans s_a4).trans s_tt).trans s_b4).trans s_c4) (by rw [e2]; exact h_c4)
end
end HF
set_option maxHeartbeats 40000000
namespace HF
open PySem PySem.Spec PyProof.Rows L2
abbrev nFie : List Str := ["_law_mine", "_law_its", "_law_error"]
theorem scFie : FnScope nFie ["_law_mine", "_law_its", "_law_error"] (defScope sFie) := ⟨rfl, rfl, rfl, by decide +kernel, rfl, by decide +kernel, by decide +kernel⟩
section
variable {P : Program} {w : World} {K : PySem.W.Frag} {mg : Str → Option Value} {base : Heap}
theorem Er.get {H : Hp} {v : V} {C : Addr} {f : Str × V} {fs : List (Str × V)} (h : Er H v C (f :: fs)) : ∃ a dd, v = .ref a ∧ H a = some (ExH (.ref C) (some dd) a) ∧ H dd = some (.xd (f :: fs)) := by
  obtain ⟨a, e, h⟩ := h
  rcases h with ⟨h, _⟩ | ⟨dd, h1, h2⟩
  · exact nomatch h
  · exact ⟨a, dd, e, h1, h2⟩
theorem lay_two {a b : PyData} (c1 : a.canLay0 = true) (c2 : b.canLay0 = true) (p1 : a.depth ≤ 1) (p2 : b.depth ≤ 1) (w1 : wide a ≤ 1000) (w2 : wide b ≤ 1000) : (PyData.list [a, b]).canLay0 = true ∧ (PyData.list [a, b]).depth ≤ 2 ∧ wide (.list [a, b]) ≤ 1000 := by
  refine ⟨?_, Nat.succ_le_succ (Nat.max_le.mpr ⟨p1, Nat.max_le.mpr ⟨p2, Nat.zero_le _⟩⟩), Nat.max_le.mpr ⟨(by decide : 2 ≤ 1000), Nat.max_le.mpr ⟨w1, Nat.max_le.mpr ⟨w2, Nat.zero_le _⟩⟩⟩⟩
  show (a.canLay0 && (b.canLay0 && true)) = true
  rw [c1, c2]
  rfl
def spFie (K : PySem.W.Frag) (cs : List Addr) : Sp := fun vs H Q _ => ∃ (m n v : V) (dm dn : PyData) (i : Nat), vs = [m, n, v] ∧ i < 21 ∧ Er H v (cs.getD i 0) (fsE i m n) ∧ Dp K H m dm ∧ Dp K H n dn ∧ dm.canLay0 = true ∧ dn.canLay0 = true ∧ dm.depth ≤ 1 ∧ dn.depth ≤ 1 ∧ wide dm ≤ 1000 ∧ wide dn ≤ 1000 ∧ ∀ H' : Hp, Same H H' → Q (.bl true) H'
theorem ok_Fie (t : TX K mg) : FnOk P w K mg base CX0 5 t.fY t.dY ["_law_mine", "_law_its", "_law_error"] (spFie K t.cs) := by
  have GS : FnOk P w K mg base CX0 4 t.fG t.dG ["_law_found", "_law_due"] (spSame K 3) := ok_same t.FG t.bG t.gG t.m_isinstance t.m_list t.m_tuple t.m_bool t.m_str t.m_int t.m_len t.m_all t.m_zip 3
  refine t.FY.ok scFie (fun vs H Q E h => ?_) (fun cdv A outer s H vs Q E hr h => ?_)
  · obtain ⟨m, n, v, dm, dn, i, rfl, _⟩ := h
    rfl
  · obtain ⟨m, n, v, dm, dn, i, rfl, hi, er, hm, hn, c1, c2, p1, p2, w1, w2, q⟩ := h
    refine ⟨_, pss_cons (ps_if (pt_val (pe_callB (id := "isinstance") (r := rIsEn K) call_isEn (by rfl) t.m_isinstance (by decide +kernel) (pa_cons (pv 2) (pa_cons (pe_tup (pa_cons (pe_glob (v := .ref t.Cx17) (by rfl) t.tx17.gC rfl) (pa_cons (pe_glob (v := .ref t.Cx18) (by rfl) t.tx18.gC rfl) pa_nil))) pa_nil)))) (pss_one (ps_ret pe_bl)) pss_nil)
      (pss_cons (ps_if (pt_val (pe_callB (id := "isinstance") (r := rIsE1 K) call_isE1 (by rfl) t.m_isinstance (by decide +kernel) (pa_cons (pv 2) (pa_cons (pe_glob (v := .ref t.Cx19) (by rfl) t.tx19.gC rfl) pa_nil)))) (pss_one (ps_ret (pe_call GS hr (by rfl) t.gG t.FG.kp t.bG .nil pass0 (pa_cons (pe_lst (pa_cons (pe_xfH (pv 2)) (pa_cons (pe_xfH (pv 2)) pa_nil))) (pa_cons (pe_lst (pa_cons (pv 0) (pa_cons (pv 1) pa_nil))) pa_nil))))) pss_nil)
      (pss_cons (ps_if (pt_val (pe_callB (id := "isinstance") (r := rIsE1 K) call_isE1 (by rfl) t.m_isinstance (by decide +kernel) (pa_cons (pv 2) (pa_cons (pe_glob (v := .ref t.Cx20) (by rfl) t.tx20.gC rfl) pa_nil)))) (pss_one (ps_ret (pe_call GS hr (by rfl) t.gG t.FG.kp t.bG .nil pass0 (pa_cons (pe_lst (pa_cons (pe_xfH (pv 2)) (pa_cons (pe_xfH (pv 2)) pa_nil))) (pa_cons (pe_lst (pa_cons (pv 0) (pa_cons (pv 1) pa_nil))) pa_nil))))) pss_nil)
      (pss_cons (ps_if (pt_val (pe_callB (id := "isinstance") (r := rIsE1 K) call_isE1 (by rfl) t.m_isinstance (by decide +kernel) (pa_cons (pv 2) (pa_cons (pe_glob (v := .ref t.Cx0) (by rfl) t.tx0.gC rfl) pa_nil)))) (pss_one (ps_ret (pe_call GS hr (by rfl) t.gG t.FG.kp t.bG .nil pass0 (pa_cons (pe_xfH (pv 2)) (pa_cons (pv 0) pa_nil))))) pss_nil)
      (pss_cons (ps_if (pt_val (pe_callB (id := "isinstance") (r := rIsEn K) call_isEn (by rfl) t.m_isinstance (by decide +kernel) (pa_cons (pv 2) (pa_cons (pe_tup (pa_cons (pe_glob (v := .ref t.Cx1) (by rfl) t.tx1.gC rfl) (pa_cons (pe_glob (v := .ref t.Cx11) (by rfl) t.tx11.gC rfl) pa_nil))) pa_nil)))) (pss_one (ps_ret (pe_call GS hr (by rfl) t.gG t.FG.kp t.bG .nil pass0 (pa_cons (pe_xfH (pv 2)) (pa_cons (pv 0) pa_nil))))) pss_nil)
      (pss_cons (ps_if (pt_val (pe_callB (id := "isinstance") (r := rIsEn K) call_isEn (by rfl) t.m_isinstance (by decide +kernel) (pa_cons (pv 2) (pa_cons (pe_tup (pa_cons (pe_glob (v := .ref t.Cx5) (by rfl) t.tx5.gC rfl) (pa_cons (pe_glob (v := .ref t.Cx13) (by rfl) t.tx13.gC rfl) pa_nil))) pa_nil)))) (pss_one (ps_ret (pe_call GS hr (by rfl) t.gG t.FG.kp t.bG .nil pass0 (pa_cons (pe_xfH (pv 2)) (pa_cons (pv 0) pa_nil))))) pss_nil)
      (pss_cons (ps_if (pt_val (pe_callB (id := "isinstance") (r := rIsE1 K) call_isE1 (by rfl) t.m_isinstance (by decide +kernel) (pa_cons (pv 2) (pa_cons (pe_glob (v := .ref t.Cx6) (by rfl) t.tx6.gC rfl) pa_nil)))) (pss_one (ps_ret (pe_call GS hr (by rfl) t.gG t.FG.kp t.bG .nil pass0 (pa_cons (pe_xfH (pv 2)) (pa_cons (pv 0) pa_nil))))) pss_nil)
      (pss_cons (ps_if (pt_val (pe_callB (id := "isinstance") (r := rIsEn K) call_isEn (by rfl) t.m_isinstance (by decide +kernel) (pa_cons (pv 2) (pa_cons (pe_tup (pa_cons (pe_glob (v := .ref t.Cx7) (by rfl) t.tx7.gC rfl) (pa_cons (pe_glob (v := .ref t.Cx15) (by rfl) t.tx15.gC rfl) (pa_cons (pe_glob (v := .ref t.Cx16) (by rfl) t.tx16.gC rfl) pa_nil)))) pa_nil)))) (pss_one (ps_ret (pe_call GS hr (by rfl) t.gG t.FG.kp t.bG .nil pass0 (pa_cons (pe_xfH (pv 2)) (pa_cons (pv 0) pa_nil))))) pss_nil)
      (pss_cons (ps_if (pt_val (pe_callB (id := "isinstance") (r := rIsE1 K) call_isE1 (by rfl) t.m_isinstance (by decide +kernel) (pa_cons (pv 2) (pa_cons (pe_glob (v := .ref t.Cx9) (by rfl) t.tx9.gC rfl) pa_nil)))) (pss_one (ps_ret (pe_call GS hr (by rfl) t.gG t.FG.kp t.bG .nil pass0 (pa_cons (pe_xfH (pv 2)) (pa_cons (pv 0) pa_nil))))) pss_nil)
      (pss_cons (ps_if (pt_val (pe_callB (id := "isinstance") (r := rIsE1 K) call_isE1 (by rfl) t.m_isinstance (by decide +kernel) (pa_cons (pv 2) (pa_cons (pe_glob (v := .ref t.Cx10) (by rfl) t.tx10.gC rfl) pa_nil)))) (pss_one (ps_ret (pe_call GS hr (by rfl) t.gG t.FG.kp t.bG .nil pass0 (pa_cons (pe_xfH (pv 2)) (pa_cons (pv 0) pa_nil))))) pss_nil)
      (pss_one (ps_ret (pe_call GS hr (by rfl) t.gG t.FG.kp t.bG .nil pass0 (pa_cons (pe_xfH (pv 2)) (pa_cons (pv 0) pa_nil)))))))))))))), ?_⟩
    have hx := t.xis i hi
    have hk : ∀ j, j < 21 → PySem.W.kitOne K (.ref (t.cs.getD i 0)) (.ref (t.cs.getD j 0)) = some (decide (i = j)) := fun j hj => kits_at t.kit hi hj
    refine ⟨v, rfl, (by decide : (2 : Nat) ≤ sizeLine), fun t0 nt0 => ?_⟩
    have s_t0 : Same H (upd H t0 (.tup [.ref t.Cx17, .ref t.Cx18])) := same_upd nt0
    have h_t0 : (upd H t0 (.tup [.ref t.Cx17, .ref t.Cx18])) t0 = some (.tup [.ref t.Cx17, .ref t.Cx18]) := upd_same
    generalize (upd H t0 (.tup [.ref t.Cx17, .ref t.Cx18])) = H_t0 at *
    refine ⟨v, t0, _, _, _, _, _, rfl, (er.same s_t0), hx, h_t0, vals_eq2 (fun u r => r) (fun u r => r), kit_any2 (hk 17 (by decide)) (hk 18 (by decide)), _, rfl, ?_⟩
    by_cases c0x : i = 17 ∨ i = 18
    · rw [show (decide (i = 17) || decide (i = 18)) = true from by simpa [or_assoc, and_assoc] using c0x]
      refine iteT ?_
      exact q _ s_t0
    rw [show (decide (i = 17) || decide (i = 18)) = false from by simpa [or_assoc, and_assoc] using c0x]
    refine iteF ?_
    refine ⟨v, rfl, v, .ref t.Cx19, _, _, .ref t.Cx19, _, rfl, (er.same s_t0), hx, (fun u r => r), hk 19 (by decide), _, rfl, ?_⟩
    by_cases c1x : i = 19
    · rw [show (decide (i = 19)) = true from by simpa [or_assoc, and_assoc] using c1x]
      refine iteT ?_
      subst c1x
      obtain ⟨a, dd, rfl, ha, hd⟩ := Er.get (show Er H_t0 v t.Cx19 [("ring", n), ("place", m)] from (er.same s_t0))
      refine ⟨.ref a, rfl, a, t.Cx19, dd, _, m, rfl, ha, hd, rfl, hx, t.tx19.no1, .ref a, rfl, a, t.Cx19, dd, _, n, rfl, ha, hd, rfl, hx, t.tx19.no2, (by decide : (2 : Nat) ≤ sizeLine), fun l19 nl19 => ?_⟩
      have s_l19 : Same H_t0 (upd H_t0 l19 (.lst [m, n])) := same_upd nl19
      have h_l19 : (upd H_t0 l19 (.lst [m, n])) l19 = some (.lst [m, n]) := upd_same
      generalize (upd H_t0 l19 (.lst [m, n])) = H_l19 at *
      refine ⟨m, rfl, n, rfl, (by decide : (2 : Nat) ≤ sizeLine), fun k19 nk19 => ?_⟩
      have s_k19 : Same H_l19 (upd H_l19 k19 (.lst [m, n])) := same_upd nk19
      have h_k19 : (upd H_l19 k19 (.lst [m, n])) k19 = some (.lst [m, n]) := upd_same
      generalize (upd H_l19 k19 (.lst [m, n])) = H_k19 at *
      obtain ⟨g1, g2, g3⟩ := lay_two c1 c2 p1 p2 w1 w2
      exact ⟨.ref l19, .ref k19, .list [dm, dn], rfl, .lst (.inl (.inl (s_k19 _ _ h_l19))) (.cons (Dp.up ((s_t0.trans s_l19).trans s_k19) hm) (.cons (Dp.up ((s_t0.trans s_l19).trans s_k19) hn) .nil)), .lst (.inl (.inl h_k19)) (.cons (Dp.up ((s_t0.trans s_l19).trans s_k19) hm) (.cons (Dp.up ((s_t0.trans s_l19).trans s_k19) hn) .nil)), g1, by omega, by omega, by omega, fun H1 s1 => q _ (((s_t0.trans s_l19).trans s_k19).trans s1)⟩
    rw [show (decide (i = 19)) = false from by simpa [or_assoc, and_assoc] using c1x]
    refine iteF ?_
    refine ⟨v, rfl, v, .ref t.Cx20, _, _, .ref t.Cx20, _, rfl, (er.same s_t0), hx, (fun u r => r), hk 20 (by decide), _, rfl, ?_⟩
    by_cases c2x : i = 20
    · rw [show (decide (i = 20)) = true from by simpa [or_assoc, and_assoc] using c2x]
      refine iteT ?_
      subst c2x
      obtain ⟨a, dd, rfl, ha, hd⟩ := Er.get (show Er H_t0 v t.Cx20 [("other", n), ("one", m)] from (er.same s_t0))
      refine ⟨.ref a, rfl, a, t.Cx20, dd, _, m, rfl, ha, hd, rfl, hx, t.tx20.no1, .ref a, rfl, a, t.Cx20, dd, _, n, rfl, ha, hd, rfl, hx, t.tx20.no2, (by decide : (2 : Nat) ≤ sizeLine), fun l20 nl20 => ?_⟩
      have s_l20 : Same H_t0 (upd H_t0 l20 (.lst [m, n])) := same_upd nl20
      have h_l20 : (upd H_t0 l20 (.lst [m, n])) l20 = some (.lst [m, n]) := upd_same
      generalize (upd H_t0 l20 (.lst [m, n])) = H_l20 at *
      refine ⟨m, rfl, n, rfl, (by decide : (2 : Nat) ≤ sizeLine), fun k20 nk20 => ?_⟩
      have s_k20 : Same H_l20 (upd H_l20 k20 (.lst [m, n])) := same_upd nk20
      have h_k20 : (upd H_l20 k20 (.lst [m, n])) k20 = some (.lst [m, n]) := upd_same
      generalize (upd H_l20 k20 (.lst [m, n])) = H_k20 at *
      obtain ⟨g1, g2, g3⟩ := lay_two c1 c2 p1 p2 w1 w2
      exact ⟨.ref l20, .ref k20, .list [dm, dn], rfl, .lst (.inl (.inl (s_k20 _ _ h_l20))) (.cons (Dp.up ((s_t0.trans s_l20).trans s_k20) hm) (.cons (Dp.up ((s_t0.trans s_l20).trans s_k20) hn) .nil)), .lst (.inl (.inl h_k20)) (.cons (Dp.up ((s_t0.trans s_l20).trans s_k20) hm) (.cons (Dp.up ((s_t0.trans s_l20).trans s_k20) hn) .nil)), g1, by omega, by omega, by omega, fun H1 s1 => q _ (((s_t0.trans s_l20).trans s_k20).trans s1)⟩
    rw [show (decide (i = 20)) = false from by simpa [or_assoc, and_assoc] using c2x]
    refine iteF ?_
    refine ⟨v, rfl, v, .ref t.Cx0, _, _, .ref t.Cx0, _, rfl, (er.same s_t0), hx, (fun u r => r), hk 0 (by decide), _, rfl, ?_⟩
    by_cases c3x : i = 0
    · rw [show (decide (i = 0)) = true from by simpa [or_assoc, and_assoc] using c3x]
      refine iteT ?_
      subst c3x
      obtain ⟨a, dd, rfl, ha, hd⟩ := Er.get (show Er H_t0 v t.Cx0 [("text", m)] from (er.same s_t0))
      exact ⟨.ref a, rfl, a, t.Cx0, dd, _, m, rfl, ha, hd, rfl, hx, t.tx0.no, m, rfl, m, m, dm, rfl, Dp.up s_t0 hm, Dp.up s_t0 hm, c1, by omega, by omega, by omega, fun H1 s1 => q _ (s_t0.trans s1)⟩
    rw [show (decide (i = 0)) = false from by simpa [or_assoc, and_assoc] using c3x]
    refine iteF ?_
    refine ⟨v, rfl, (by decide : (2 : Nat) ≤ sizeLine), fun t4 nt4 => ?_⟩
    have s_t4 : Same H_t0 (upd H_t0 t4 (.tup [.ref t.Cx1, .ref t.Cx11])) := same_upd nt4
    have h_t4 : (upd H_t0 t4 (.tup [.ref t.Cx1, .ref t.Cx11])) t4 = some (.tup [.ref t.Cx1, .ref t.Cx11]) := upd_same
    generalize (upd H_t0 t4 (.tup [.ref t.Cx1, .ref t.Cx11])) = H_t4 at *
    refine ⟨v, t4, _, _, _, _, _, rfl, (er.same (s_t0.trans s_t4)), hx, h_t4, vals_eq2 (fun u r => r) (fun u r => r), kit_any2 (hk 1 (by decide)) (hk 11 (by decide)), _, rfl, ?_⟩
    by_cases c4x : i = 1 ∨ i = 11
    · rw [show (decide (i = 1) || decide (i = 11)) = true from by simpa [or_assoc, and_assoc] using c4x]
      refine iteT ?_
      rcases c4x with rfl | rfl
      · obtain ⟨a, dd, rfl, ha, hd⟩ := Er.get (show Er H_t4 v t.Cx1 [("number", m)] from (er.same (s_t0.trans s_t4)))
        exact ⟨.ref a, rfl, a, t.Cx1, dd, _, m, rfl, ha, hd, rfl, hx, t.tx1.no, m, rfl, m, m, dm, rfl, Dp.up (s_t0.trans s_t4) hm, Dp.up (s_t0.trans s_t4) hm, c1, by omega, by omega, by omega, fun H1 s1 => q _ ((s_t0.trans s_t4).trans s1)⟩
      · obtain ⟨a, dd, rfl, ha, hd⟩ := Er.get (show Er H_t4 v t.Cx11 [("number", m)] from (er.same (s_t0.trans s_t4)))
        exact ⟨.ref a, rfl, a, t.Cx11, dd, _, m, rfl, ha, hd, rfl, hx, t.tx11.no, m, rfl, m, m, dm, rfl, Dp.up (s_t0.trans s_t4) hm, Dp.up (s_t0.trans s_t4) hm, c1, by omega, by omega, by omega, fun H1 s1 => q _ ((s_t0.trans s_t4).trans s1)⟩
    rw [show (decide (i = 1) || decide (i = 11)) = false from by simpa [or_assoc, and_assoc] using c4x]
    refine iteF ?_
    refine ⟨v, rfl, (by decide : (2 : Nat) ≤ sizeLine), fun t5 nt5 => ?_⟩
    have s_t5 : Same H_t4 (upd H_t4 t5 (.tup [.ref t.Cx5, .ref t.Cx13])) := same_upd nt5
    have h_t5 : (upd H_t4 t5 (.tup [.ref t.Cx5, .ref t.Cx13])) t5 = some (.tup [.ref t.Cx5, .ref t.Cx13]) := upd_same
    generalize (upd H_t4 t5 (.tup [.ref t.Cx5, .ref t.Cx13])) = H_t5 at *
    refine ⟨v, t5, _, _, _, _, _, rfl, (er.same ((s_t0.trans s_t4).trans s_t5)), hx, h_t5, vals_eq2 (fun u r => r) (fun u r => r), kit_any2 (hk 5 (by decide)) (hk 13 (by decide)), _, rfl, ?_⟩
    by_cases c5x : i = 5 ∨ i = 13
    · rw [show (decide (i = 5) || decide (i = 13)) = true from by simpa [or_assoc, and_assoc] using c5x]
      refine iteT ?_
      rcases c5x with rfl | rfl
      · obtain ⟨a, dd, rfl, ha, hd⟩ := Er.get (show Er H_t5 v t.Cx5 [("pair", m)] from (er.same ((s_t0.trans s_t4).trans s_t5)))
        exact ⟨.ref a, rfl, a, t.Cx5, dd, _, m, rfl, ha, hd, rfl, hx, t.tx5.no, m, rfl, m, m, dm, rfl, Dp.up ((s_t0.trans s_t4).trans s_t5) hm, Dp.up ((s_t0.trans s_t4).trans s_t5) hm, c1, by omega, by omega, by omega, fun H1 s1 => q _ (((s_t0.trans s_t4).trans s_t5).trans s1)⟩
      · obtain ⟨a, dd, rfl, ha, hd⟩ := Er.get (show Er H_t5 v t.Cx13 [("pair", m)] from (er.same ((s_t0.trans s_t4).trans s_t5)))
        exact ⟨.ref a, rfl, a, t.Cx13, dd, _, m, rfl, ha, hd, rfl, hx, t.tx13.no, m, rfl, m, m, dm, rfl, Dp.up ((s_t0.trans s_t4).trans s_t5) hm, Dp.up ((s_t0.trans s_t4).trans s_t5) hm, c1, by omega, by omega, by omega, fun H1 s1 => q _ (((s_t0.trans s_t4).trans s_t5).trans s1)⟩
    rw [show (decide (i = 5) || decide (i = 13)) = false from by simpa [or_assoc, and_assoc] using c5x]
    refine iteF ?_
    refine ⟨v, rfl, v, .ref t.Cx6, _, _, .ref t.Cx6, _, rfl, (er.same ((s_t0.trans s_t4).trans s_t5)), hx, (fun u r => r), hk 6 (by decide), _, rfl, ?_⟩
    by_cases c6x : i = 6
    · rw [show (decide (i = 6)) = true from by simpa [or_assoc, and_assoc] using c6x]
      refine iteT ?_
      subst c6x
      obtain ⟨a, dd, rfl, ha, hd⟩ := Er.get (show Er H_t5 v t.Cx6 [("at", m)] from (er.same ((s_t0.trans s_t4).trans s_t5)))
      exact ⟨.ref a, rfl, a, t.Cx6, dd, _, m, rfl, ha, hd, rfl, hx, t.tx6.no, m, rfl, m, m, dm, rfl, Dp.up ((s_t0.trans s_t4).trans s_t5) hm, Dp.up ((s_t0.trans s_t4).trans s_t5) hm, c1, by omega, by omega, by omega, fun H1 s1 => q _ (((s_t0.trans s_t4).trans s_t5).trans s1)⟩
    rw [show (decide (i = 6)) = false from by simpa [or_assoc, and_assoc] using c6x]
    refine iteF ?_
    refine ⟨v, rfl, (by decide : (3 : Nat) ≤ sizeLine), fun t7 nt7 => ?_⟩
    have s_t7 : Same H_t5 (upd H_t5 t7 (.tup [.ref t.Cx7, .ref t.Cx15, .ref t.Cx16])) := same_upd nt7
    have h_t7 : (upd H_t5 t7 (.tup [.ref t.Cx7, .ref t.Cx15, .ref t.Cx16])) t7 = some (.tup [.ref t.Cx7, .ref t.Cx15, .ref t.Cx16]) := upd_same
    generalize (upd H_t5 t7 (.tup [.ref t.Cx7, .ref t.Cx15, .ref t.Cx16])) = H_t7 at *
    refine ⟨v, t7, _, _, _, _, _, rfl, (er.same (((s_t0.trans s_t4).trans s_t5).trans s_t7)), hx, h_t7, vals_eq3 (fun u r => r) (fun u r => r) (fun u r => r), kit_any3 (hk 7 (by decide)) (hk 15 (by decide)) (hk 16 (by decide)), _, rfl, ?_⟩
    by_cases c7x : i = 7 ∨ i = 15 ∨ i = 16
    · rw [show (decide (i = 7) || decide (i = 15) || decide (i = 16)) = true from by simpa [or_assoc, and_assoc] using c7x]
      refine iteT ?_
      rcases c7x with rfl | rfl | rfl
      · obtain ⟨a, dd, rfl, ha, hd⟩ := Er.get (show Er H_t7 v t.Cx7 [("many", m)] from (er.same (((s_t0.trans s_t4).trans s_t5).trans s_t7)))
        exact ⟨.ref a, rfl, a, t.Cx7, dd, _, m, rfl, ha, hd, rfl, hx, t.tx7.no, m, rfl, m, m, dm, rfl, Dp.up (((s_t0.trans s_t4).trans s_t5).trans s_t7) hm, Dp.up (((s_t0.trans s_t4).trans s_t5).trans s_t7) hm, c1, by omega, by omega, by omega, fun H1 s1 => q _ ((((s_t0.trans s_t4).trans s_t5).trans s_t7).trans s1)⟩
      · obtain ⟨a, dd, rfl, ha, hd⟩ := Er.get (show Er H_t7 v t.Cx15 [("many", m)] from (er.same (((s_t0.trans s_t4).trans s_t5).trans s_t7)))
        exact ⟨.ref a, rfl, a, t.Cx15, dd, _, m, rfl, ha, hd, rfl, hx, t.tx15.no, m, rfl, m, m, dm, rfl, Dp.up (((s_t0.trans s_t4).trans s_t5).trans s_t7) hm, Dp.up (((s_t0.trans s_t4).trans s_t5).trans s_t7) hm, c1, by omega, by omega, by omega, fun H1 s1 => q _ ((((s_t0.trans s_t4).trans s_t5).trans s_t7).trans s1)⟩
      · obtain ⟨a, dd, rfl, ha, hd⟩ := Er.get (show Er H_t7 v t.Cx16 [("many", m)] from (er.same (((s_t0.trans s_t4).trans s_t5).trans s_t7)))
        exact ⟨.ref a, rfl, a, t.Cx16, dd, _, m, rfl, ha, hd, rfl, hx, t.tx16.no, m, rfl, m, m, dm, rfl, Dp.up (((s_t0.trans s_t4).trans s_t5).trans s_t7) hm, Dp.up (((s_t0.trans s_t4).trans s_t5).trans s_t7) hm, c1, by omega, by omega, by omega, fun H1 s1 => q _ ((((s_t0.trans s_t4).trans s_t5).trans s_t7).trans s1)⟩
    rw [show (decide (i = 7) || decide (i = 15) || decide (i = 16)) = false from by simpa [or_assoc, and_assoc] using c7x]
    refine iteF ?_
    refine ⟨v, rfl, v, .ref t.Cx9, _, _, .ref t.Cx9, _, rfl, (er.same (((s_t0.trans s_t4).trans s_t5).trans s_t7)), hx, (fun u r => r), hk 9 (by decide), _, rfl, ?_⟩
    by_cases c8x : i = 9
    · rw [show (decide (i = 9)) = true from by simpa [or_assoc, and_assoc] using c8x]
      refine iteT ?_
      subst c8x
      obtain ⟨a, dd, rfl, ha, hd⟩ := Er.get (show Er H_t7 v t.Cx9 [("ring", m)] from (er.same (((s_t0.trans s_t4).trans s_t5).trans s_t7)))
      exact ⟨.ref a, rfl, a, t.Cx9, dd, _, m, rfl, ha, hd, rfl, hx, t.tx9.no, m, rfl, m, m, dm, rfl, Dp.up (((s_t0.trans s_t4).trans s_t5).trans s_t7) hm, Dp.up (((s_t0.trans s_t4).trans s_t5).trans s_t7) hm, c1, by omega, by omega, by omega, fun H1 s1 => q _ ((((s_t0.trans s_t4).trans s_t5).trans s_t7).trans s1)⟩
    rw [show (decide (i = 9)) = false from by simpa [or_assoc, and_assoc] using c8x]
    refine iteF ?_
    refine ⟨v, rfl, v, .ref t.Cx10, _, _, .ref t.Cx10, _, rfl, (er.same (((s_t0.trans s_t4).trans s_t5).trans s_t7)), hx, (fun u r => r), hk 10 (by decide), _, rfl, ?_⟩
    by_cases c9x : i = 10
    · rw [show (decide (i = 10)) = true from by simpa [or_assoc, and_assoc] using c9x]
      refine iteT ?_
      subst c9x
      obtain ⟨a, dd, rfl, ha, hd⟩ := Er.get (show Er H_t7 v t.Cx10 [("place", m)] from (er.same (((s_t0.trans s_t4).trans s_t5).trans s_t7)))
      exact ⟨.ref a, rfl, a, t.Cx10, dd, _, m, rfl, ha, hd, rfl, hx, t.tx10.no, m, rfl, m, m, dm, rfl, Dp.up (((s_t0.trans s_t4).trans s_t5).trans s_t7) hm, Dp.up (((s_t0.trans s_t4).trans s_t5).trans s_t7) hm, c1, by omega, by omega, by omega, fun H1 s1 => q _ ((((s_t0.trans s_t4).trans s_t5).trans s_t7).trans s1)⟩
    rw [show (decide (i = 10)) = false from by simpa [or_assoc, and_assoc] using c9x]
    refine iteF ?_
    have last : i = 2 ∨ i = 3 ∨ i = 4 ∨ i = 8 ∨ i = 12 ∨ i = 14 := by omega
    rcases last with rfl | rfl | rfl | rfl | rfl | rfl
    · obtain ⟨a, dd, rfl, ha, hd⟩ := Er.get (show Er H_t7 v t.Cx2 [("book", m)] from (er.same (((s_t0.trans s_t4).trans s_t5).trans s_t7)))
      exact ⟨.ref a, rfl, a, t.Cx2, dd, _, m, rfl, ha, hd, rfl, hx, t.tx2.no, m, rfl, m, m, dm, rfl, Dp.up (((s_t0.trans s_t4).trans s_t5).trans s_t7) hm, Dp.up (((s_t0.trans s_t4).trans s_t5).trans s_t7) hm, c1, by omega, by omega, by omega, fun H1 s1 => q _ ((((s_t0.trans s_t4).trans s_t5).trans s_t7).trans s1)⟩
    · obtain ⟨a, dd, rfl, ha, hd⟩ := Er.get (show Er H_t7 v t.Cx3 [("book", m)] from (er.same (((s_t0.trans s_t4).trans s_t5).trans s_t7)))
      exact ⟨.ref a, rfl, a, t.Cx3, dd, _, m, rfl, ha, hd, rfl, hx, t.tx3.no, m, rfl, m, m, dm, rfl, Dp.up (((s_t0.trans s_t4).trans s_t5).trans s_t7) hm, Dp.up (((s_t0.trans s_t4).trans s_t5).trans s_t7) hm, c1, by omega, by omega, by omega, fun H1 s1 => q _ ((((s_t0.trans s_t4).trans s_t5).trans s_t7).trans s1)⟩
    · obtain ⟨a, dd, rfl, ha, hd⟩ := Er.get (show Er H_t7 v t.Cx4 [("book", m)] from (er.same (((s_t0.trans s_t4).trans s_t5).trans s_t7)))
      exact ⟨.ref a, rfl, a, t.Cx4, dd, _, m, rfl, ha, hd, rfl, hx, t.tx4.no, m, rfl, m, m, dm, rfl, Dp.up (((s_t0.trans s_t4).trans s_t5).trans s_t7) hm, Dp.up (((s_t0.trans s_t4).trans s_t5).trans s_t7) hm, c1, by omega, by omega, by omega, fun H1 s1 => q _ ((((s_t0.trans s_t4).trans s_t5).trans s_t7).trans s1)⟩
    · obtain ⟨a, dd, rfl, ha, hd⟩ := Er.get (show Er H_t7 v t.Cx8 [("book", m)] from (er.same (((s_t0.trans s_t4).trans s_t5).trans s_t7)))
      exact ⟨.ref a, rfl, a, t.Cx8, dd, _, m, rfl, ha, hd, rfl, hx, t.tx8.no, m, rfl, m, m, dm, rfl, Dp.up (((s_t0.trans s_t4).trans s_t5).trans s_t7) hm, Dp.up (((s_t0.trans s_t4).trans s_t5).trans s_t7) hm, c1, by omega, by omega, by omega, fun H1 s1 => q _ ((((s_t0.trans s_t4).trans s_t5).trans s_t7).trans s1)⟩
    · obtain ⟨a, dd, rfl, ha, hd⟩ := Er.get (show Er H_t7 v t.Cx12 [("book", m)] from (er.same (((s_t0.trans s_t4).trans s_t5).trans s_t7)))
      exact ⟨.ref a, rfl, a, t.Cx12, dd, _, m, rfl, ha, hd, rfl, hx, t.tx12.no, m, rfl, m, m, dm, rfl, Dp.up (((s_t0.trans s_t4).trans s_t5).trans s_t7) hm, Dp.up (((s_t0.trans s_t4).trans s_t5).trans s_t7) hm, c1, by omega, by omega, by omega, fun H1 s1 => q _ ((((s_t0.trans s_t4).trans s_t5).trans s_t7).trans s1)⟩
    · obtain ⟨a, dd, rfl, ha, hd⟩ := Er.get (show Er H_t7 v t.Cx14 [("book", m)] from (er.same (((s_t0.trans s_t4).trans s_t5).trans s_t7)))
      exact ⟨.ref a, rfl, a, t.Cx14, dd, _, m, rfl, ha, hd, rfl, hx, t.tx14.no, m, rfl, m, m, dm, rfl, Dp.up (((s_t0.trans s_t4).trans s_t5).trans s_t7) hm, Dp.up (((s_t0.trans s_t4).trans s_t5).trans s_t7) hm, c1, by omega, by omega, by omega, fun H1 s1 => q _ ((((s_t0.trans s_t4).trans s_t5).trans s_t7).trans s1)⟩
end
end HF
set_option maxHeartbeats 40000000
namespace HF
open PySem PySem.Spec PyProof.Rows L2
abbrev nAll : List Str := ["_law_mine", "_law_its", "_law_found"]
theorem scAll : FnScope nAll ["_law_mine", "_law_its"] (defScope sAll) := ⟨rfl, rfl, rfl, by decide +kernel, rfl, by decide +kernel, by decide +kernel⟩
section
variable {P : Program} {w : World} {K : PySem.W.Frag} {mg : Str → Option Value} {base : Heap}
/-- a row of the told ones: the refusal, its twin, the word of its base -/
def TrE (cs : List Addr) (H : Hp) (a : Addr) (i : Nat) (m n : V) : Prop := ∃ e e' : V, H a = some (.tup [e, e', .str (bsN.getD i "")]) ∧ Er H e (cs.getD i 0) (fsE i m n) ∧ Er H e' (cs.getD i 0) (fsE i m n)
theorem TrE.same {cs : List Addr} {H H' : Hp} {a : Addr} {i : Nat} {m n : V} (h : TrE cs H a i m n) (s : Same H H') : TrE cs H' a i m n := by
  obtain ⟨e, e', h1, h2, h3⟩ := h
  exact ⟨e, e', s _ _ h1, h2.same s, h3.same s⟩
def AtE (cs : List Addr) (H : Hp) (F : Addr) (as : List Addr) (m n : V) (k : Nat) : Prop := H F = some (.lst (as.map V.ref)) ∧ as.length = k ∧ ∀ (i : Nat) (a : Addr), as[i]? = some a → TrE cs H a i m n
theorem AtE.same {cs : List Addr} {H H' : Hp} {F : Addr} {as : List Addr} {m n : V} {k : Nat} (h : AtE cs H F as m n k) (s : Same H H') : AtE cs H' F as m n k := ⟨s _ _ h.1, h.2.1, fun i a e => (h.2.2 i a e).same s⟩
theorem AtE.two {cs : List Addr} {H H' : Hp} {F G x y : Addr} {as : List Addr} {m n : V} {k : Nat} (h : AtE cs H F as m n k) (s : Same H H') (e : H' G = some (.lst (as.map V.ref ++ [.ref x, .ref y]))) (hx : TrE cs H' x k m n) (hy : TrE cs H' y (k + 1) m n) : AtE cs H' G (as ++ [x, y]) m n (k + 2) := by
  refine ⟨by rw [List.map_append]; exact e, by rw [List.length_append, h.2.1]; rfl, fun i a ea => ?_⟩
  by_cases hi : i < as.length
  · rw [List.getElem?_append_left hi] at ea
    exact (h.2.2 i a ea).same s
  · rw [List.getElem?_append_right (by omega)] at ea
    have h2 := h.2.1
    obtain ⟨j, hj⟩ : ∃ j, i - as.length = j := ⟨_, rfl⟩
    rw [hj] at ea
    match j, ea, hj with
    | 0, ea, hj =>
      cases ea
      rw [show i = k by omega]
      exact hx
    | 1, ea, hj =>
      cases ea
      rw [show i = k + 1 by omega]
      exact hy
    | j + 2, ea, hj => simp at ea
theorem AtE.one {cs : List Addr} {H H' : Hp} {F G x : Addr} {as : List Addr} {m n : V} {k : Nat} (h : AtE cs H F as m n k) (s : Same H H') (e : H' G = some (.lst (as.map V.ref ++ [.ref x]))) (hx : TrE cs H' x k m n) : AtE cs H' G (as ++ [x]) m n (k + 1) := by
  refine ⟨by rw [List.map_append]; exact e, by rw [List.length_append, h.2.1]; rfl, fun i a ea => ?_⟩
  by_cases hi : i < as.length
  · rw [List.getElem?_append_left hi] at ea
    exact (h.2.2 i a ea).same s
  · rw [List.getElem?_append_right (by omega)] at ea
    have h2 := h.2.1
    obtain ⟨j, hj⟩ : ∃ j, i - as.length = j := ⟨_, rfl⟩
    rw [hj] at ea
    match j, ea, hj with
    | 0, ea, hj =>
      cases ea
      rw [show i = k by omega]
      exact hx
    | j + 1, ea, hj => simp at ea
def spAll (cs : List Addr) : Sp := fun vs H Q _ => ∃ m n : V, vs = [m, n] ∧ ∀ (H' : Hp) (D : Addr) (as : List Addr), Same H H' → AtE cs H' D as m n 21 → Q (.ref D) H'
theorem ok_All (t : TX K mg) : FnOk P w K mg base CX0 3 t.fA t.dA ["_law_mine", "_law_its"] (spAll t.cs) := by
  refine t.FA.ok scAll (fun vs H Q E h => ?_) (fun cdv A outer s H vs Q E hr h => ?_)
  · obtain ⟨m, n, rfl, _⟩ := h
    rfl
  · obtain ⟨m, n, rfl, q⟩ := h
    have r2 := hr.mono (show 2 ≤ 2 by decide)
    refine ⟨_, pss_cons (ps_set (i := 2) scAll.nd rfl (.inl rfl) (pe_lst (pa_cons (pe_tup (pa_cons (pe_new1 t.tx0 (ok_E0 (k := 0) t.tx0 t.m_ValueError) r2 (by rfl) (pv 0)) (pa_cons (pe_new1K t.tx0 (ok_E0 (k := 0) t.tx0 t.m_ValueError) (kb_E0 t.tx0) r2 (by rfl) (pv 0)) (pa_cons pe_str pa_nil)))) (pa_cons (pe_tup (pa_cons (pe_new1 t.tx1 (ok_E1 (k := 0) t.tx1 t.m_ValueError) r2 (by rfl) (pv 0)) (pa_cons (pe_new1K t.tx1 (ok_E1 (k := 0) t.tx1 t.m_ValueError) (kb_E1 t.tx1) r2 (by rfl) (pv 0)) (pa_cons pe_str pa_nil)))) pa_nil))))
      (pss_cons (ps_set (i := 2) scAll.nd rfl (.inl rfl) (pe_op op_cat (pv 2) (pe_lst (pa_cons (pe_tup (pa_cons (pe_new1 t.tx2 (ok_E2 (k := 0) t.tx2 t.m_ValueError) r2 (by rfl) (pv 0)) (pa_cons (pe_new1K t.tx2 (ok_E2 (k := 0) t.tx2 t.m_ValueError) (kb_E2 t.tx2) r2 (by rfl) (pv 0)) (pa_cons pe_str pa_nil)))) (pa_cons (pe_tup (pa_cons (pe_new1 t.tx3 (ok_E3 (k := 0) t.tx3 t.m_ValueError) r2 (by rfl) (pv 0)) (pa_cons (pe_new1K t.tx3 (ok_E3 (k := 0) t.tx3 t.m_ValueError) (kb_E3 t.tx3) r2 (by rfl) (pv 0)) (pa_cons pe_str pa_nil)))) pa_nil)))))
      (pss_cons (ps_set (i := 2) scAll.nd rfl (.inl rfl) (pe_op op_cat (pv 2) (pe_lst (pa_cons (pe_tup (pa_cons (pe_new1 t.tx4 (ok_E4 (k := 0) t.tx4 t.m_LookupError) r2 (by rfl) (pv 0)) (pa_cons (pe_new1K t.tx4 (ok_E4 (k := 0) t.tx4 t.m_LookupError) (kb_E4 t.tx4) r2 (by rfl) (pv 0)) (pa_cons pe_str pa_nil)))) (pa_cons (pe_tup (pa_cons (pe_new1 t.tx5 (ok_E5 (k := 0) t.tx5 t.m_LookupError) r2 (by rfl) (pv 0)) (pa_cons (pe_new1K t.tx5 (ok_E5 (k := 0) t.tx5 t.m_LookupError) (kb_E5 t.tx5) r2 (by rfl) (pv 0)) (pa_cons pe_str pa_nil)))) pa_nil)))))
      (pss_cons (ps_set (i := 2) scAll.nd rfl (.inl rfl) (pe_op op_cat (pv 2) (pe_lst (pa_cons (pe_tup (pa_cons (pe_new1 t.tx6 (ok_E6 (k := 0) t.tx6 t.m_LookupError) r2 (by rfl) (pv 0)) (pa_cons (pe_new1K t.tx6 (ok_E6 (k := 0) t.tx6 t.m_LookupError) (kb_E6 t.tx6) r2 (by rfl) (pv 0)) (pa_cons pe_str pa_nil)))) (pa_cons (pe_tup (pa_cons (pe_new1 t.tx7 (ok_E7 (k := 0) t.tx7 t.m_LookupError) r2 (by rfl) (pv 0)) (pa_cons (pe_new1K t.tx7 (ok_E7 (k := 0) t.tx7 t.m_LookupError) (kb_E7 t.tx7) r2 (by rfl) (pv 0)) (pa_cons pe_str pa_nil)))) pa_nil)))))
      (pss_cons (ps_set (i := 2) scAll.nd rfl (.inl rfl) (pe_op op_cat (pv 2) (pe_lst (pa_cons (pe_tup (pa_cons (pe_new1 t.tx8 (ok_E8 (k := 0) t.tx8 t.m_RuntimeError) r2 (by rfl) (pv 0)) (pa_cons (pe_new1K t.tx8 (ok_E8 (k := 0) t.tx8 t.m_RuntimeError) (kb_E8 t.tx8) r2 (by rfl) (pv 0)) (pa_cons pe_str pa_nil)))) (pa_cons (pe_tup (pa_cons (pe_new1 t.tx9 (ok_E9 (k := 0) t.tx9 t.m_RuntimeError) r2 (by rfl) (pv 0)) (pa_cons (pe_new1K t.tx9 (ok_E9 (k := 0) t.tx9 t.m_RuntimeError) (kb_E9 t.tx9) r2 (by rfl) (pv 0)) (pa_cons pe_str pa_nil)))) pa_nil)))))
      (pss_cons (ps_set (i := 2) scAll.nd rfl (.inl rfl) (pe_op op_cat (pv 2) (pe_lst (pa_cons (pe_tup (pa_cons (pe_new1 t.tx10 (ok_E10 (k := 0) t.tx10 t.m_RuntimeError) r2 (by rfl) (pv 0)) (pa_cons (pe_new1K t.tx10 (ok_E10 (k := 0) t.tx10 t.m_RuntimeError) (kb_E10 t.tx10) r2 (by rfl) (pv 0)) (pa_cons pe_str pa_nil)))) (pa_cons (pe_tup (pa_cons (pe_new1 t.tx11 (ok_E11 (k := 0) t.tx11 t.m_RuntimeError) r2 (by rfl) (pv 0)) (pa_cons (pe_new1K t.tx11 (ok_E11 (k := 0) t.tx11 t.m_RuntimeError) (kb_E11 t.tx11) r2 (by rfl) (pv 0)) (pa_cons pe_str pa_nil)))) pa_nil)))))
      (pss_cons (ps_set (i := 2) scAll.nd rfl (.inl rfl) (pe_op op_cat (pv 2) (pe_lst (pa_cons (pe_tup (pa_cons (pe_new1 t.tx12 (ok_E12 (k := 0) t.tx12 t.m_RuntimeError) r2 (by rfl) (pv 0)) (pa_cons (pe_new1K t.tx12 (ok_E12 (k := 0) t.tx12 t.m_RuntimeError) (kb_E12 t.tx12) r2 (by rfl) (pv 0)) (pa_cons pe_str pa_nil)))) (pa_cons (pe_tup (pa_cons (pe_new1 t.tx13 (ok_E13 (k := 0) t.tx13 t.m_RuntimeError) r2 (by rfl) (pv 0)) (pa_cons (pe_new1K t.tx13 (ok_E13 (k := 0) t.tx13 t.m_RuntimeError) (kb_E13 t.tx13) r2 (by rfl) (pv 0)) (pa_cons pe_str pa_nil)))) pa_nil)))))
      (pss_cons (ps_set (i := 2) scAll.nd rfl (.inl rfl) (pe_op op_cat (pv 2) (pe_lst (pa_cons (pe_tup (pa_cons (pe_new1 t.tx14 (ok_E14 (k := 0) t.tx14 t.m_RuntimeError) r2 (by rfl) (pv 0)) (pa_cons (pe_new1K t.tx14 (ok_E14 (k := 0) t.tx14 t.m_RuntimeError) (kb_E14 t.tx14) r2 (by rfl) (pv 0)) (pa_cons pe_str pa_nil)))) (pa_cons (pe_tup (pa_cons (pe_new1 t.tx15 (ok_E15 (k := 0) t.tx15 t.m_OverflowError) r2 (by rfl) (pv 0)) (pa_cons (pe_new1K t.tx15 (ok_E15 (k := 0) t.tx15 t.m_OverflowError) (kb_E15 t.tx15) r2 (by rfl) (pv 0)) (pa_cons pe_str pa_nil)))) pa_nil)))))
      (pss_cons (ps_set (i := 2) scAll.nd rfl (.inl rfl) (pe_op op_cat (pv 2) (pe_lst (pa_cons (pe_tup (pa_cons (pe_new1 t.tx16 (ok_E16 (k := 0) t.tx16 t.m_OverflowError) r2 (by rfl) (pv 0)) (pa_cons (pe_new1K t.tx16 (ok_E16 (k := 0) t.tx16 t.m_OverflowError) (kb_E16 t.tx16) r2 (by rfl) (pv 0)) (pa_cons pe_str pa_nil)))) (pa_cons (pe_tup (pa_cons (pe_new0 PySem.F.excBase_ValueError t.tx17.q t.tx17.gC t.tx17.kC (raises_own t.tx17.exC t.tx17.tyC) (by rfl)) (pa_cons (pe_new0 PySem.F.excBase_ValueError t.tx17.q t.tx17.gC t.tx17.kC (raises_own t.tx17.exC t.tx17.tyC) (by rfl)) (pa_cons pe_str pa_nil)))) pa_nil)))))
      (pss_cons (ps_set (i := 2) scAll.nd rfl (.inl rfl) (pe_op op_cat (pv 2) (pe_lst (pa_cons (pe_tup (pa_cons (pe_new0 PySem.F.excBase_RuntimeError t.tx18.q t.tx18.gC t.tx18.kC (raises_own t.tx18.exC t.tx18.tyC) (by rfl)) (pa_cons (pe_new0 PySem.F.excBase_RuntimeError t.tx18.q t.tx18.gC t.tx18.kC (raises_own t.tx18.exC t.tx18.tyC) (by rfl)) (pa_cons pe_str pa_nil)))) (pa_cons (pe_tup (pa_cons (pe_new2 t.tx19 (ok_E19 (k := 0) t.tx19 t.m_RuntimeError) r2 (by rfl) (pv 0) (pv 1)) (pa_cons (pe_new2K t.tx19 (ok_E19 (k := 0) t.tx19 t.m_RuntimeError) (kb_E19 t.tx19) r2 (by rfl) (pv 0) (pv 1)) (pa_cons pe_str pa_nil)))) pa_nil)))))
      (pss_one (ps_ret (pe_op op_cat (pv 2) (pe_lst (pa_cons (pe_tup (pa_cons (pe_new2 t.tx20 (ok_E20 (k := 0) t.tx20 t.m_RuntimeError) r2 (by rfl) (pv 0) (pv 1)) (pa_cons (pe_new2K t.tx20 (ok_E20 (k := 0) t.tx20 t.m_RuntimeError) (kb_E20 t.tx20) r2 (by rfl) (pv 0) (pv 1)) (pa_cons pe_str pa_nil)))) pa_nil)))))))))))))), ?_⟩
    refine ⟨m, rfl, fun x0 H_x0 s_x0 r_x0 => ?_⟩
    refine ⟨m, rfl, fun y0 H_y0 s_y0 r_y0 => ?_⟩
    refine ⟨(by decide : (3 : Nat) ≤ sizeLine), fun t0 nt0 => ?_⟩
    have s_t0 : Same H_y0 (upd H_y0 t0 (.tup [.ref x0, .ref y0, .str "value"])) := same_upd nt0
    have h_t0 : (upd H_y0 t0 (.tup [.ref x0, .ref y0, .str "value"])) t0 = some (.tup [.ref x0, .ref y0, .str "value"]) := upd_same
    generalize (upd H_y0 t0 (.tup [.ref x0, .ref y0, .str "value"])) = H_t0 at *
    refine ⟨m, rfl, fun x1 H_x1 s_x1 r_x1 => ?_⟩
    refine ⟨m, rfl, fun y1 H_y1 s_y1 r_y1 => ?_⟩
    refine ⟨(by decide : (3 : Nat) ≤ sizeLine), fun t1 nt1 => ?_⟩
    have s_t1 : Same H_y1 (upd H_y1 t1 (.tup [.ref x1, .ref y1, .str "value"])) := same_upd nt1
    have h_t1 : (upd H_y1 t1 (.tup [.ref x1, .ref y1, .str "value"])) t1 = some (.tup [.ref x1, .ref y1, .str "value"]) := upd_same
    generalize (upd H_y1 t1 (.tup [.ref x1, .ref y1, .str "value"])) = H_t1 at *
    refine ⟨(by decide : (2 : Nat) ≤ sizeLine), fun l0 nl0 => ?_⟩
    have s_l0 : Same H_t1 (upd H_t1 l0 (.lst [.ref t0, .ref t1])) := same_upd nl0
    have h_l0 : (upd H_t1 l0 (.lst [.ref t0, .ref t1])) l0 = some (.lst [.ref t0, .ref t1]) := upd_same
    generalize (upd H_t1 l0 (.lst [.ref t0, .ref t1])) = H_l0 at *
    have w_t0 : TrE t.cs H_l0 t0 0 m n := ⟨_, _, ((((s_x1.trans s_y1).trans s_t1).trans s_l0) _ _ h_t0), (r_x0.same (((((s_y0.trans s_t0).trans s_x1).trans s_y1).trans s_t1).trans s_l0)), (r_y0.same ((((s_t0.trans s_x1).trans s_y1).trans s_t1).trans s_l0))⟩
    have w_t1 : TrE t.cs H_l0 t1 1 m n := ⟨_, _, (s_l0 _ _ h_t1), (r_x1.same ((s_y1.trans s_t1).trans s_l0)), (r_y1.same (s_t1.trans s_l0))⟩
    have at0 : AtE t.cs H_l0 l0 [t0, t1] m n 2 := ⟨h_l0, rfl, fun i a e => by
      match i, e with
      | 0, e =>
        cases e
        exact w_t0
      | 1, e =>
        cases e
        exact w_t1
      | i + 2, e => simp at e⟩
    obtain ⟨F0, eF0⟩ : ∃ F0, F0 = l0 := ⟨_, rfl⟩
    rw [← eF0] at at0
    try dsimp only [tNext, gName]
    refine sl_cut [some m, some n, some (.ref l0)] rfl ?_
    rw [← eF0]
    obtain ⟨as0, ea0⟩ : ∃ as0, as0 = [t0, t1] := ⟨_, rfl⟩
    rw [← ea0] at at0
    refine ⟨.ref F0, rfl, m, rfl, fun x2 H_x2 s_x2 r_x2 => ?_⟩
    refine ⟨m, rfl, fun y2 H_y2 s_y2 r_y2 => ?_⟩
    refine ⟨(by decide : (3 : Nat) ≤ sizeLine), fun t2 nt2 => ?_⟩
    have s_t2 : Same H_y2 (upd H_y2 t2 (.tup [.ref x2, .ref y2, .str "value"])) := same_upd nt2
    have h_t2 : (upd H_y2 t2 (.tup [.ref x2, .ref y2, .str "value"])) t2 = some (.tup [.ref x2, .ref y2, .str "value"]) := upd_same
    generalize (upd H_y2 t2 (.tup [.ref x2, .ref y2, .str "value"])) = H_t2 at *
    refine ⟨m, rfl, fun x3 H_x3 s_x3 r_x3 => ?_⟩
    refine ⟨m, rfl, fun y3 H_y3 s_y3 r_y3 => ?_⟩
    refine ⟨(by decide : (3 : Nat) ≤ sizeLine), fun t3 nt3 => ?_⟩
    have s_t3 : Same H_y3 (upd H_y3 t3 (.tup [.ref x3, .ref y3, .str "value"])) := same_upd nt3
    have h_t3 : (upd H_y3 t3 (.tup [.ref x3, .ref y3, .str "value"])) t3 = some (.tup [.ref x3, .ref y3, .str "value"]) := upd_same
    generalize (upd H_y3 t3 (.tup [.ref x3, .ref y3, .str "value"])) = H_t3 at *
    refine ⟨(by decide : (2 : Nat) ≤ sizeLine), fun l1 nl1 => ?_⟩
    have s_l1 : Same H_t3 (upd H_t3 l1 (.lst [.ref t2, .ref t3])) := same_upd nl1
    have h_l1 : (upd H_t3 l1 (.lst [.ref t2, .ref t3])) l1 = some (.lst [.ref t2, .ref t3]) := upd_same
    generalize (upd H_t3 l1 (.lst [.ref t2, .ref t3])) = H_l1 at *
    have w_t2 : TrE t.cs H_l1 t2 2 m n := ⟨_, _, ((((s_x3.trans s_y3).trans s_t3).trans s_l1) _ _ h_t2), (r_x2.same (((((s_y2.trans s_t2).trans s_x3).trans s_y3).trans s_t3).trans s_l1)), (r_y2.same ((((s_t2.trans s_x3).trans s_y3).trans s_t3).trans s_l1))⟩
    have w_t3 : TrE t.cs H_l1 t3 3 m n := ⟨_, _, (s_l1 _ _ h_t3), (r_x3.same ((s_y3.trans s_t3).trans s_l1)), (r_y3.same (s_t3.trans s_l1))⟩
    have le1 := ((at0.same ((((((s_x2.trans s_y2).trans s_t2).trans s_x3).trans s_y3).trans s_t3).trans s_l1))).2.1
    refine ⟨F0, l1, _, _, rfl, rfl, ((at0.same ((((((s_x2.trans s_y2).trans s_t2).trans s_x3).trans s_y3).trans s_t3).trans s_l1))).1, h_l1, by rw [List.length_map, le1]; exact (by decide : (4 : Nat) ≤ sizeLine), fun F1 nF1 => ?_⟩
    have s_F1 : Same H_l1 (upd H_l1 F1 (.lst (as0.map V.ref ++ [.ref t2, .ref t3]))) := same_upd nF1
    have h_F1 : (upd H_l1 F1 (.lst (as0.map V.ref ++ [.ref t2, .ref t3]))) F1 = some (.lst (as0.map V.ref ++ [.ref t2, .ref t3])) := upd_same
    generalize (upd H_l1 F1 (.lst (as0.map V.ref ++ [.ref t2, .ref t3]))) = H_F1 at *
    have at1 := AtE.two (k := 2) at0 (((((((s_x2.trans s_y2).trans s_t2).trans s_x3).trans s_y3).trans s_t3).trans s_l1).trans s_F1) h_F1 (w_t2.same s_F1) (w_t3.same s_F1)
    obtain ⟨as1, ea1⟩ : ∃ as1, as1 = as0 ++ [t2, t3] := ⟨_, rfl⟩
    rw [← ea1] at at1
    try dsimp only [tNext, gName]
    refine sl_cut [some m, some n, some (.ref F1)] rfl ?_
    refine ⟨.ref F1, rfl, m, rfl, fun x4 H_x4 s_x4 r_x4 => ?_⟩
    refine ⟨m, rfl, fun y4 H_y4 s_y4 r_y4 => ?_⟩
    refine ⟨(by decide : (3 : Nat) ≤ sizeLine), fun t4 nt4 => ?_⟩
    have s_t4 : Same H_y4 (upd H_y4 t4 (.tup [.ref x4, .ref y4, .str "lookup"])) := same_upd nt4
    have h_t4 : (upd H_y4 t4 (.tup [.ref x4, .ref y4, .str "lookup"])) t4 = some (.tup [.ref x4, .ref y4, .str "lookup"]) := upd_same
    generalize (upd H_y4 t4 (.tup [.ref x4, .ref y4, .str "lookup"])) = H_t4 at *
    refine ⟨m, rfl, fun x5 H_x5 s_x5 r_x5 => ?_⟩
    refine ⟨m, rfl, fun y5 H_y5 s_y5 r_y5 => ?_⟩
    refine ⟨(by decide : (3 : Nat) ≤ sizeLine), fun t5 nt5 => ?_⟩
    have s_t5 : Same H_y5 (upd H_y5 t5 (.tup [.ref x5, .ref y5, .str "lookup"])) := same_upd nt5
    have h_t5 : (upd H_y5 t5 (.tup [.ref x5, .ref y5, .str "lookup"])) t5 = some (.tup [.ref x5, .ref y5, .str "lookup"]) := upd_same
    generalize (upd H_y5 t5 (.tup [.ref x5, .ref y5, .str "lookup"])) = H_t5 at *
    refine ⟨(by decide : (2 : Nat) ≤ sizeLine), fun l2 nl2 => ?_⟩
    have s_l2 : Same H_t5 (upd H_t5 l2 (.lst [.ref t4, .ref t5])) := same_upd nl2
    have h_l2 : (upd H_t5 l2 (.lst [.ref t4, .ref t5])) l2 = some (.lst [.ref t4, .ref t5]) := upd_same
    generalize (upd H_t5 l2 (.lst [.ref t4, .ref t5])) = H_l2 at *
    have w_t4 : TrE t.cs H_l2 t4 4 m n := ⟨_, _, ((((s_x5.trans s_y5).trans s_t5).trans s_l2) _ _ h_t4), (r_x4.same (((((s_y4.trans s_t4).trans s_x5).trans s_y5).trans s_t5).trans s_l2)), (r_y4.same ((((s_t4.trans s_x5).trans s_y5).trans s_t5).trans s_l2))⟩
    have w_t5 : TrE t.cs H_l2 t5 5 m n := ⟨_, _, (s_l2 _ _ h_t5), (r_x5.same ((s_y5.trans s_t5).trans s_l2)), (r_y5.same (s_t5.trans s_l2))⟩
    have le2 := ((at1.same ((((((s_x4.trans s_y4).trans s_t4).trans s_x5).trans s_y5).trans s_t5).trans s_l2))).2.1
    refine ⟨F1, l2, _, _, rfl, rfl, ((at1.same ((((((s_x4.trans s_y4).trans s_t4).trans s_x5).trans s_y5).trans s_t5).trans s_l2))).1, h_l2, by rw [List.length_map, le2]; exact (by decide : (6 : Nat) ≤ sizeLine), fun F2 nF2 => ?_⟩
    have s_F2 : Same H_l2 (upd H_l2 F2 (.lst (as1.map V.ref ++ [.ref t4, .ref t5]))) := same_upd nF2
    have h_F2 : (upd H_l2 F2 (.lst (as1.map V.ref ++ [.ref t4, .ref t5]))) F2 = some (.lst (as1.map V.ref ++ [.ref t4, .ref t5])) := upd_same
    generalize (upd H_l2 F2 (.lst (as1.map V.ref ++ [.ref t4, .ref t5]))) = H_F2 at *
    have at2 := AtE.two (k := 4) at1 (((((((s_x4.trans s_y4).trans s_t4).trans s_x5).trans s_y5).trans s_t5).trans s_l2).trans s_F2) h_F2 (w_t4.same s_F2) (w_t5.same s_F2)
    obtain ⟨as2, ea2⟩ : ∃ as2, as2 = as1 ++ [t4, t5] := ⟨_, rfl⟩
    rw [← ea2] at at2
    try dsimp only [tNext, gName]
    refine sl_cut [some m, some n, some (.ref F2)] rfl ?_
    refine ⟨.ref F2, rfl, m, rfl, fun x6 H_x6 s_x6 r_x6 => ?_⟩
    refine ⟨m, rfl, fun y6 H_y6 s_y6 r_y6 => ?_⟩
    refine ⟨(by decide : (3 : Nat) ≤ sizeLine), fun t6 nt6 => ?_⟩
    have s_t6 : Same H_y6 (upd H_y6 t6 (.tup [.ref x6, .ref y6, .str "lookup"])) := same_upd nt6
    have h_t6 : (upd H_y6 t6 (.tup [.ref x6, .ref y6, .str "lookup"])) t6 = some (.tup [.ref x6, .ref y6, .str "lookup"]) := upd_same
    generalize (upd H_y6 t6 (.tup [.ref x6, .ref y6, .str "lookup"])) = H_t6 at *
    refine ⟨m, rfl, fun x7 H_x7 s_x7 r_x7 => ?_⟩
    refine ⟨m, rfl, fun y7 H_y7 s_y7 r_y7 => ?_⟩
    refine ⟨(by decide : (3 : Nat) ≤ sizeLine), fun t7 nt7 => ?_⟩
    have s_t7 : Same H_y7 (upd H_y7 t7 (.tup [.ref x7, .ref y7, .str "lookup"])) := same_upd nt7
    have h_t7 : (upd H_y7 t7 (.tup [.ref x7, .ref y7, .str "lookup"])) t7 = some (.tup [.ref x7, .ref y7, .str "lookup"]) := upd_same
    generalize (upd H_y7 t7 (.tup [.ref x7, .ref y7, .str "lookup"])) = H_t7 at *
    refine ⟨(by decide : (2 : Nat) ≤ sizeLine), fun l3 nl3 => ?_⟩
    have s_l3 : Same H_t7 (upd H_t7 l3 (.lst [.ref t6, .ref t7])) := same_upd nl3
    have h_l3 : (upd H_t7 l3 (.lst [.ref t6, .ref t7])) l3 = some (.lst [.ref t6, .ref t7]) := upd_same
    generalize (upd H_t7 l3 (.lst [.ref t6, .ref t7])) = H_l3 at *
    have w_t6 : TrE t.cs H_l3 t6 6 m n := ⟨_, _, ((((s_x7.trans s_y7).trans s_t7).trans s_l3) _ _ h_t6), (r_x6.same (((((s_y6.trans s_t6).trans s_x7).trans s_y7).trans s_t7).trans s_l3)), (r_y6.same ((((s_t6.trans s_x7).trans s_y7).trans s_t7).trans s_l3))⟩
    have w_t7 : TrE t.cs H_l3 t7 7 m n := ⟨_, _, (s_l3 _ _ h_t7), (r_x7.same ((s_y7.trans s_t7).trans s_l3)), (r_y7.same (s_t7.trans s_l3))⟩
    have le3 := ((at2.same ((((((s_x6.trans s_y6).trans s_t6).trans s_x7).trans s_y7).trans s_t7).trans s_l3))).2.1
    refine ⟨F2, l3, _, _, rfl, rfl, ((at2.same ((((((s_x6.trans s_y6).trans s_t6).trans s_x7).trans s_y7).trans s_t7).trans s_l3))).1, h_l3, by rw [List.length_map, le3]; exact (by decide : (8 : Nat) ≤ sizeLine), fun F3 nF3 => ?_⟩
    have s_F3 : Same H_l3 (upd H_l3 F3 (.lst (as2.map V.ref ++ [.ref t6, .ref t7]))) := same_upd nF3
    have h_F3 : (upd H_l3 F3 (.lst (as2.map V.ref ++ [.ref t6, .ref t7]))) F3 = some (.lst (as2.map V.ref ++ [.ref t6, .ref t7])) := upd_same
    generalize (upd H_l3 F3 (.lst (as2.map V.ref ++ [.ref t6, .ref t7]))) = H_F3 at *
    have at3 := AtE.two (k := 6) at2 (((((((s_x6.trans s_y6).trans s_t6).trans s_x7).trans s_y7).trans s_t7).trans s_l3).trans s_F3) h_F3 (w_t6.same s_F3) (w_t7.same s_F3)
    obtain ⟨as3, ea3⟩ : ∃ as3, as3 = as2 ++ [t6, t7] := ⟨_, rfl⟩
    rw [← ea3] at at3
    try dsimp only [tNext, gName]
    refine sl_cut [some m, some n, some (.ref F3)] rfl ?_
    refine ⟨.ref F3, rfl, m, rfl, fun x8 H_x8 s_x8 r_x8 => ?_⟩
    refine ⟨m, rfl, fun y8 H_y8 s_y8 r_y8 => ?_⟩
    refine ⟨(by decide : (3 : Nat) ≤ sizeLine), fun t8 nt8 => ?_⟩
    have s_t8 : Same H_y8 (upd H_y8 t8 (.tup [.ref x8, .ref y8, .str "runtime"])) := same_upd nt8
    have h_t8 : (upd H_y8 t8 (.tup [.ref x8, .ref y8, .str "runtime"])) t8 = some (.tup [.ref x8, .ref y8, .str "runtime"]) := upd_same
    generalize (upd H_y8 t8 (.tup [.ref x8, .ref y8, .str "runtime"])) = H_t8 at *
    refine ⟨m, rfl, fun x9 H_x9 s_x9 r_x9 => ?_⟩
    refine ⟨m, rfl, fun y9 H_y9 s_y9 r_y9 => ?_⟩
    refine ⟨(by decide : (3 : Nat) ≤ sizeLine), fun t9 nt9 => ?_⟩
    have s_t9 : Same H_y9 (upd H_y9 t9 (.tup [.ref x9, .ref y9, .str "runtime"])) := same_upd nt9
    have h_t9 : (upd H_y9 t9 (.tup [.ref x9, .ref y9, .str "runtime"])) t9 = some (.tup [.ref x9, .ref y9, .str "runtime"]) := upd_same
    generalize (upd H_y9 t9 (.tup [.ref x9, .ref y9, .str "runtime"])) = H_t9 at *
    refine ⟨(by decide : (2 : Nat) ≤ sizeLine), fun l4 nl4 => ?_⟩
    have s_l4 : Same H_t9 (upd H_t9 l4 (.lst [.ref t8, .ref t9])) := same_upd nl4
    have h_l4 : (upd H_t9 l4 (.lst [.ref t8, .ref t9])) l4 = some (.lst [.ref t8, .ref t9]) := upd_same
    generalize (upd H_t9 l4 (.lst [.ref t8, .ref t9])) = H_l4 at *
    have w_t8 : TrE t.cs H_l4 t8 8 m n := ⟨_, _, ((((s_x9.trans s_y9).trans s_t9).trans s_l4) _ _ h_t8), (r_x8.same (((((s_y8.trans s_t8).trans s_x9).trans s_y9).trans s_t9).trans s_l4)), (r_y8.same ((((s_t8.trans s_x9).trans s_y9).trans s_t9).trans s_l4))⟩
    have w_t9 : TrE t.cs H_l4 t9 9 m n := ⟨_, _, (s_l4 _ _ h_t9), (r_x9.same ((s_y9.trans s_t9).trans s_l4)), (r_y9.same (s_t9.trans s_l4))⟩
    have le4 := ((at3.same ((((((s_x8.trans s_y8).trans s_t8).trans s_x9).trans s_y9).trans s_t9).trans s_l4))).2.1
    refine ⟨F3, l4, _, _, rfl, rfl, ((at3.same ((((((s_x8.trans s_y8).trans s_t8).trans s_x9).trans s_y9).trans s_t9).trans s_l4))).1, h_l4, by rw [List.length_map, le4]; exact (by decide : (10 : Nat) ≤ sizeLine), fun F4 nF4 => ?_⟩
    have s_F4 : Same H_l4 (upd H_l4 F4 (.lst (as3.map V.ref ++ [.ref t8, .ref t9]))) := same_upd nF4
    have h_F4 : (upd H_l4 F4 (.lst (as3.map V.ref ++ [.ref t8, .ref t9]))) F4 = some (.lst (as3.map V.ref ++ [.ref t8, .ref t9])) := upd_same
    generalize (upd H_l4 F4 (.lst (as3.map V.ref ++ [.ref t8, .ref t9]))) = H_F4 at *
    have at4 := AtE.two (k := 8) at3 (((((((s_x8.trans s_y8).trans s_t8).trans s_x9).trans s_y9).trans s_t9).trans s_l4).trans s_F4) h_F4 (w_t8.same s_F4) (w_t9.same s_F4)
    obtain ⟨as4, ea4⟩ : ∃ as4, as4 = as3 ++ [t8, t9] := ⟨_, rfl⟩
    rw [← ea4] at at4
    try dsimp only [tNext, gName]
    refine sl_cut [some m, some n, some (.ref F4)] rfl ?_
    refine ⟨.ref F4, rfl, m, rfl, fun x10 H_x10 s_x10 r_x10 => ?_⟩
    refine ⟨m, rfl, fun y10 H_y10 s_y10 r_y10 => ?_⟩
    refine ⟨(by decide : (3 : Nat) ≤ sizeLine), fun t10 nt10 => ?_⟩
    have s_t10 : Same H_y10 (upd H_y10 t10 (.tup [.ref x10, .ref y10, .str "runtime"])) := same_upd nt10
    have h_t10 : (upd H_y10 t10 (.tup [.ref x10, .ref y10, .str "runtime"])) t10 = some (.tup [.ref x10, .ref y10, .str "runtime"]) := upd_same
    generalize (upd H_y10 t10 (.tup [.ref x10, .ref y10, .str "runtime"])) = H_t10 at *
    refine ⟨m, rfl, fun x11 H_x11 s_x11 r_x11 => ?_⟩
    refine ⟨m, rfl, fun y11 H_y11 s_y11 r_y11 => ?_⟩
    refine ⟨(by decide : (3 : Nat) ≤ sizeLine), fun t11 nt11 => ?_⟩
    have s_t11 : Same H_y11 (upd H_y11 t11 (.tup [.ref x11, .ref y11, .str "runtime"])) := same_upd nt11
    have h_t11 : (upd H_y11 t11 (.tup [.ref x11, .ref y11, .str "runtime"])) t11 = some (.tup [.ref x11, .ref y11, .str "runtime"]) := upd_same
    generalize (upd H_y11 t11 (.tup [.ref x11, .ref y11, .str "runtime"])) = H_t11 at *
    refine ⟨(by decide : (2 : Nat) ≤ sizeLine), fun l5 nl5 => ?_⟩
    have s_l5 : Same H_t11 (upd H_t11 l5 (.lst [.ref t10, .ref t11])) := same_upd nl5
    have h_l5 : (upd H_t11 l5 (.lst [.ref t10, .ref t11])) l5 = some (.lst [.ref t10, .ref t11]) := upd_same
    generalize (upd H_t11 l5 (.lst [.ref t10, .ref t11])) = H_l5 at *
    have w_t10 : TrE t.cs H_l5 t10 10 m n := ⟨_, _, ((((s_x11.trans s_y11).trans s_t11).trans s_l5) _ _ h_t10), (r_x10.same (((((s_y10.trans s_t10).trans s_x11).trans s_y11).trans s_t11).trans s_l5)), (r_y10.same ((((s_t10.trans s_x11).trans s_y11).trans s_t11).trans s_l5))⟩
    have w_t11 : TrE t.cs H_l5 t11 11 m n := ⟨_, _, (s_l5 _ _ h_t11), (r_x11.same ((s_y11.trans s_t11).trans s_l5)), (r_y11.same (s_t11.trans s_l5))⟩
    have le5 := ((at4.same ((((((s_x10.trans s_y10).trans s_t10).trans s_x11).trans s_y11).trans s_t11).trans s_l5))).2.1
    refine ⟨F4, l5, _, _, rfl, rfl, ((at4.same ((((((s_x10.trans s_y10).trans s_t10).trans s_x11).trans s_y11).trans s_t11).trans s_l5))).1, h_l5, by rw [List.length_map, le5]; exact (by decide : (12 : Nat) ≤ sizeLine), fun F5 nF5 => ?_⟩
    have s_F5 : Same H_l5 (upd H_l5 F5 (.lst (as4.map V.ref ++ [.ref t10, .ref t11]))) := same_upd nF5
    have h_F5 : (upd H_l5 F5 (.lst (as4.map V.ref ++ [.ref t10, .ref t11]))) F5 = some (.lst (as4.map V.ref ++ [.ref t10, .ref t11])) := upd_same
    generalize (upd H_l5 F5 (.lst (as4.map V.ref ++ [.ref t10, .ref t11]))) = H_F5 at *
    have at5 := AtE.two (k := 10) at4 (((((((s_x10.trans s_y10).trans s_t10).trans s_x11).trans s_y11).trans s_t11).trans s_l5).trans s_F5) h_F5 (w_t10.same s_F5) (w_t11.same s_F5)
    obtain ⟨as5, ea5⟩ : ∃ as5, as5 = as4 ++ [t10, t11] := ⟨_, rfl⟩
    rw [← ea5] at at5
    try dsimp only [tNext, gName]
    refine sl_cut [some m, some n, some (.ref F5)] rfl ?_
    refine ⟨.ref F5, rfl, m, rfl, fun x12 H_x12 s_x12 r_x12 => ?_⟩
    refine ⟨m, rfl, fun y12 H_y12 s_y12 r_y12 => ?_⟩
    refine ⟨(by decide : (3 : Nat) ≤ sizeLine), fun t12 nt12 => ?_⟩
    have s_t12 : Same H_y12 (upd H_y12 t12 (.tup [.ref x12, .ref y12, .str "runtime"])) := same_upd nt12
    have h_t12 : (upd H_y12 t12 (.tup [.ref x12, .ref y12, .str "runtime"])) t12 = some (.tup [.ref x12, .ref y12, .str "runtime"]) := upd_same
    generalize (upd H_y12 t12 (.tup [.ref x12, .ref y12, .str "runtime"])) = H_t12 at *
    refine ⟨m, rfl, fun x13 H_x13 s_x13 r_x13 => ?_⟩
    refine ⟨m, rfl, fun y13 H_y13 s_y13 r_y13 => ?_⟩
    refine ⟨(by decide : (3 : Nat) ≤ sizeLine), fun t13 nt13 => ?_⟩
    have s_t13 : Same H_y13 (upd H_y13 t13 (.tup [.ref x13, .ref y13, .str "runtime"])) := same_upd nt13
    have h_t13 : (upd H_y13 t13 (.tup [.ref x13, .ref y13, .str "runtime"])) t13 = some (.tup [.ref x13, .ref y13, .str "runtime"]) := upd_same
    generalize (upd H_y13 t13 (.tup [.ref x13, .ref y13, .str "runtime"])) = H_t13 at *
    refine ⟨(by decide : (2 : Nat) ≤ sizeLine), fun l6 nl6 => ?_⟩
    have s_l6 : Same H_t13 (upd H_t13 l6 (.lst [.ref t12, .ref t13])) := same_upd nl6
    have h_l6 : (upd H_t13 l6 (.lst [.ref t12, .ref t13])) l6 = some (.lst [.ref t12, .ref t13]) := upd_same
    generalize (upd H_t13 l6 (.lst [.ref t12, .ref t13])) = H_l6 at *
    have w_t12 : TrE t.cs H_l6 t12 12 m n := ⟨_, _, ((((s_x13.trans s_y13).trans s_t13).trans s_l6) _ _ h_t12), (r_x12.same (((((s_y12.trans s_t12).trans s_x13).trans s_y13).trans s_t13).trans s_l6)), (r_y12.same ((((s_t12.trans s_x13).trans s_y13).trans s_t13).trans s_l6))⟩
    have w_t13 : TrE t.cs H_l6 t13 13 m n := ⟨_, _, (s_l6 _ _ h_t13), (r_x13.same ((s_y13.trans s_t13).trans s_l6)), (r_y13.same (s_t13.trans s_l6))⟩
    have le6 := ((at5.same ((((((s_x12.trans s_y12).trans s_t12).trans s_x13).trans s_y13).trans s_t13).trans s_l6))).2.1
    refine ⟨F5, l6, _, _, rfl, rfl, ((at5.same ((((((s_x12.trans s_y12).trans s_t12).trans s_x13).trans s_y13).trans s_t13).trans s_l6))).1, h_l6, by rw [List.length_map, le6]; exact (by decide : (14 : Nat) ≤ sizeLine), fun F6 nF6 => ?_⟩
    have s_F6 : Same H_l6 (upd H_l6 F6 (.lst (as5.map V.ref ++ [.ref t12, .ref t13]))) := same_upd nF6
    have h_F6 : (upd H_l6 F6 (.lst (as5.map V.ref ++ [.ref t12, .ref t13]))) F6 = some (.lst (as5.map V.ref ++ [.ref t12, .ref t13])) := upd_same
    generalize (upd H_l6 F6 (.lst (as5.map V.ref ++ [.ref t12, .ref t13]))) = H_F6 at *
    have at6 := AtE.two (k := 12) at5 (((((((s_x12.trans s_y12).trans s_t12).trans s_x13).trans s_y13).trans s_t13).trans s_l6).trans s_F6) h_F6 (w_t12.same s_F6) (w_t13.same s_F6)
    obtain ⟨as6, ea6⟩ : ∃ as6, as6 = as5 ++ [t12, t13] := ⟨_, rfl⟩
    rw [← ea6] at at6
    try dsimp only [tNext, gName]
    refine sl_cut [some m, some n, some (.ref F6)] rfl ?_
    refine ⟨.ref F6, rfl, m, rfl, fun x14 H_x14 s_x14 r_x14 => ?_⟩
    refine ⟨m, rfl, fun y14 H_y14 s_y14 r_y14 => ?_⟩
    refine ⟨(by decide : (3 : Nat) ≤ sizeLine), fun t14 nt14 => ?_⟩
    have s_t14 : Same H_y14 (upd H_y14 t14 (.tup [.ref x14, .ref y14, .str "runtime"])) := same_upd nt14
    have h_t14 : (upd H_y14 t14 (.tup [.ref x14, .ref y14, .str "runtime"])) t14 = some (.tup [.ref x14, .ref y14, .str "runtime"]) := upd_same
    generalize (upd H_y14 t14 (.tup [.ref x14, .ref y14, .str "runtime"])) = H_t14 at *
    refine ⟨m, rfl, fun x15 H_x15 s_x15 r_x15 => ?_⟩
    refine ⟨m, rfl, fun y15 H_y15 s_y15 r_y15 => ?_⟩
    refine ⟨(by decide : (3 : Nat) ≤ sizeLine), fun t15 nt15 => ?_⟩
    have s_t15 : Same H_y15 (upd H_y15 t15 (.tup [.ref x15, .ref y15, .str "overflow"])) := same_upd nt15
    have h_t15 : (upd H_y15 t15 (.tup [.ref x15, .ref y15, .str "overflow"])) t15 = some (.tup [.ref x15, .ref y15, .str "overflow"]) := upd_same
    generalize (upd H_y15 t15 (.tup [.ref x15, .ref y15, .str "overflow"])) = H_t15 at *
    refine ⟨(by decide : (2 : Nat) ≤ sizeLine), fun l7 nl7 => ?_⟩
    have s_l7 : Same H_t15 (upd H_t15 l7 (.lst [.ref t14, .ref t15])) := same_upd nl7
    have h_l7 : (upd H_t15 l7 (.lst [.ref t14, .ref t15])) l7 = some (.lst [.ref t14, .ref t15]) := upd_same
    generalize (upd H_t15 l7 (.lst [.ref t14, .ref t15])) = H_l7 at *
    have w_t14 : TrE t.cs H_l7 t14 14 m n := ⟨_, _, ((((s_x15.trans s_y15).trans s_t15).trans s_l7) _ _ h_t14), (r_x14.same (((((s_y14.trans s_t14).trans s_x15).trans s_y15).trans s_t15).trans s_l7)), (r_y14.same ((((s_t14.trans s_x15).trans s_y15).trans s_t15).trans s_l7))⟩
    have w_t15 : TrE t.cs H_l7 t15 15 m n := ⟨_, _, (s_l7 _ _ h_t15), (r_x15.same ((s_y15.trans s_t15).trans s_l7)), (r_y15.same (s_t15.trans s_l7))⟩
    have le7 := ((at6.same ((((((s_x14.trans s_y14).trans s_t14).trans s_x15).trans s_y15).trans s_t15).trans s_l7))).2.1
    refine ⟨F6, l7, _, _, rfl, rfl, ((at6.same ((((((s_x14.trans s_y14).trans s_t14).trans s_x15).trans s_y15).trans s_t15).trans s_l7))).1, h_l7, by rw [List.length_map, le7]; exact (by decide : (16 : Nat) ≤ sizeLine), fun F7 nF7 => ?_⟩
    have s_F7 : Same H_l7 (upd H_l7 F7 (.lst (as6.map V.ref ++ [.ref t14, .ref t15]))) := same_upd nF7
    have h_F7 : (upd H_l7 F7 (.lst (as6.map V.ref ++ [.ref t14, .ref t15]))) F7 = some (.lst (as6.map V.ref ++ [.ref t14, .ref t15])) := upd_same
    generalize (upd H_l7 F7 (.lst (as6.map V.ref ++ [.ref t14, .ref t15]))) = H_F7 at *
    have at7 := AtE.two (k := 14) at6 (((((((s_x14.trans s_y14).trans s_t14).trans s_x15).trans s_y15).trans s_t15).trans s_l7).trans s_F7) h_F7 (w_t14.same s_F7) (w_t15.same s_F7)
    obtain ⟨as7, ea7⟩ : ∃ as7, as7 = as6 ++ [t14, t15] := ⟨_, rfl⟩
    rw [← ea7] at at7
    try dsimp only [tNext, gName]
    refine sl_cut [some m, some n, some (.ref F7)] rfl ?_
    refine ⟨.ref F7, rfl, m, rfl, fun x16 H_x16 s_x16 r_x16 => ?_⟩
    refine ⟨m, rfl, fun y16 H_y16 s_y16 r_y16 => ?_⟩
    refine ⟨(by decide : (3 : Nat) ≤ sizeLine), fun t16 nt16 => ?_⟩
    have s_t16 : Same H_y16 (upd H_y16 t16 (.tup [.ref x16, .ref y16, .str "overflow"])) := same_upd nt16
    have h_t16 : (upd H_y16 t16 (.tup [.ref x16, .ref y16, .str "overflow"])) t16 = some (.tup [.ref x16, .ref y16, .str "overflow"]) := upd_same
    generalize (upd H_y16 t16 (.tup [.ref x16, .ref y16, .str "overflow"])) = H_t16 at *
    refine fun x17 H_x17 s_x17 r_x17 => ?_
    refine fun y17 H_y17 s_y17 r_y17 => ?_
    refine ⟨(by decide : (3 : Nat) ≤ sizeLine), fun t17 nt17 => ?_⟩
    have s_t17 : Same H_y17 (upd H_y17 t17 (.tup [.ref x17, .ref y17, .str "value"])) := same_upd nt17
    have h_t17 : (upd H_y17 t17 (.tup [.ref x17, .ref y17, .str "value"])) t17 = some (.tup [.ref x17, .ref y17, .str "value"]) := upd_same
    generalize (upd H_y17 t17 (.tup [.ref x17, .ref y17, .str "value"])) = H_t17 at *
    refine ⟨(by decide : (2 : Nat) ≤ sizeLine), fun l8 nl8 => ?_⟩
    have s_l8 : Same H_t17 (upd H_t17 l8 (.lst [.ref t16, .ref t17])) := same_upd nl8
    have h_l8 : (upd H_t17 l8 (.lst [.ref t16, .ref t17])) l8 = some (.lst [.ref t16, .ref t17]) := upd_same
    generalize (upd H_t17 l8 (.lst [.ref t16, .ref t17])) = H_l8 at *
    have w_t16 : TrE t.cs H_l8 t16 16 m n := ⟨_, _, ((((s_x17.trans s_y17).trans s_t17).trans s_l8) _ _ h_t16), (r_x16.same (((((s_y16.trans s_t16).trans s_x17).trans s_y17).trans s_t17).trans s_l8)), (r_y16.same ((((s_t16.trans s_x17).trans s_y17).trans s_t17).trans s_l8))⟩
    have w_t17 : TrE t.cs H_l8 t17 17 m n := ⟨_, _, (s_l8 _ _ h_t17), (r_x17.same ((s_y17.trans s_t17).trans s_l8)), (r_y17.same (s_t17.trans s_l8))⟩
    have le8 := ((at7.same ((((((s_x16.trans s_y16).trans s_t16).trans s_x17).trans s_y17).trans s_t17).trans s_l8))).2.1
    refine ⟨F7, l8, _, _, rfl, rfl, ((at7.same ((((((s_x16.trans s_y16).trans s_t16).trans s_x17).trans s_y17).trans s_t17).trans s_l8))).1, h_l8, by rw [List.length_map, le8]; exact (by decide : (18 : Nat) ≤ sizeLine), fun F8 nF8 => ?_⟩
    have s_F8 : Same H_l8 (upd H_l8 F8 (.lst (as7.map V.ref ++ [.ref t16, .ref t17]))) := same_upd nF8
    have h_F8 : (upd H_l8 F8 (.lst (as7.map V.ref ++ [.ref t16, .ref t17]))) F8 = some (.lst (as7.map V.ref ++ [.ref t16, .ref t17])) := upd_same
    generalize (upd H_l8 F8 (.lst (as7.map V.ref ++ [.ref t16, .ref t17]))) = H_F8 at *
    have at8 := AtE.two (k := 16) at7 (((((((s_x16.trans s_y16).trans s_t16).trans s_x17).trans s_y17).trans s_t17).trans s_l8).trans s_F8) h_F8 (w_t16.same s_F8) (w_t17.same s_F8)
    obtain ⟨as8, ea8⟩ : ∃ as8, as8 = as7 ++ [t16, t17] := ⟨_, rfl⟩
    rw [← ea8] at at8
    try dsimp only [tNext, gName]
    refine sl_cut [some m, some n, some (.ref F8)] rfl ?_
    refine ⟨.ref F8, rfl, fun x18 H_x18 s_x18 r_x18 => ?_⟩
    refine fun y18 H_y18 s_y18 r_y18 => ?_
    refine ⟨(by decide : (3 : Nat) ≤ sizeLine), fun t18 nt18 => ?_⟩
    have s_t18 : Same H_y18 (upd H_y18 t18 (.tup [.ref x18, .ref y18, .str "runtime"])) := same_upd nt18
    have h_t18 : (upd H_y18 t18 (.tup [.ref x18, .ref y18, .str "runtime"])) t18 = some (.tup [.ref x18, .ref y18, .str "runtime"]) := upd_same
    generalize (upd H_y18 t18 (.tup [.ref x18, .ref y18, .str "runtime"])) = H_t18 at *
    refine ⟨m, rfl, n, rfl, fun x19 H_x19 s_x19 r_x19 => ?_⟩
    refine ⟨n, rfl, m, rfl, fun y19 H_y19 s_y19 r_y19 => ?_⟩
    refine ⟨(by decide : (3 : Nat) ≤ sizeLine), fun t19 nt19 => ?_⟩
    have s_t19 : Same H_y19 (upd H_y19 t19 (.tup [.ref x19, .ref y19, .str "runtime"])) := same_upd nt19
    have h_t19 : (upd H_y19 t19 (.tup [.ref x19, .ref y19, .str "runtime"])) t19 = some (.tup [.ref x19, .ref y19, .str "runtime"]) := upd_same
    generalize (upd H_y19 t19 (.tup [.ref x19, .ref y19, .str "runtime"])) = H_t19 at *
    refine ⟨(by decide : (2 : Nat) ≤ sizeLine), fun l9 nl9 => ?_⟩
    have s_l9 : Same H_t19 (upd H_t19 l9 (.lst [.ref t18, .ref t19])) := same_upd nl9
    have h_l9 : (upd H_t19 l9 (.lst [.ref t18, .ref t19])) l9 = some (.lst [.ref t18, .ref t19]) := upd_same
    generalize (upd H_t19 l9 (.lst [.ref t18, .ref t19])) = H_l9 at *
    have w_t18 : TrE t.cs H_l9 t18 18 m n := ⟨_, _, ((((s_x19.trans s_y19).trans s_t19).trans s_l9) _ _ h_t18), (r_x18.same (((((s_y18.trans s_t18).trans s_x19).trans s_y19).trans s_t19).trans s_l9)), (r_y18.same ((((s_t18.trans s_x19).trans s_y19).trans s_t19).trans s_l9))⟩
    have w_t19 : TrE t.cs H_l9 t19 19 m n := ⟨_, _, (s_l9 _ _ h_t19), (r_x19.same ((s_y19.trans s_t19).trans s_l9)), (r_y19.same (s_t19.trans s_l9))⟩
    have le9 := ((at8.same ((((((s_x18.trans s_y18).trans s_t18).trans s_x19).trans s_y19).trans s_t19).trans s_l9))).2.1
    refine ⟨F8, l9, _, _, rfl, rfl, ((at8.same ((((((s_x18.trans s_y18).trans s_t18).trans s_x19).trans s_y19).trans s_t19).trans s_l9))).1, h_l9, by rw [List.length_map, le9]; exact (by decide : (20 : Nat) ≤ sizeLine), fun F9 nF9 => ?_⟩
    have s_F9 : Same H_l9 (upd H_l9 F9 (.lst (as8.map V.ref ++ [.ref t18, .ref t19]))) := same_upd nF9
    have h_F9 : (upd H_l9 F9 (.lst (as8.map V.ref ++ [.ref t18, .ref t19]))) F9 = some (.lst (as8.map V.ref ++ [.ref t18, .ref t19])) := upd_same
    generalize (upd H_l9 F9 (.lst (as8.map V.ref ++ [.ref t18, .ref t19]))) = H_F9 at *
    have at9 := AtE.two (k := 18) at8 (((((((s_x18.trans s_y18).trans s_t18).trans s_x19).trans s_y19).trans s_t19).trans s_l9).trans s_F9) h_F9 (w_t18.same s_F9) (w_t19.same s_F9)
    obtain ⟨as9, ea9⟩ : ∃ as9, as9 = as8 ++ [t18, t19] := ⟨_, rfl⟩
    rw [← ea9] at at9
    try dsimp only [tNext, gName]
    refine sl_cut [some m, some n, some (.ref F9)] rfl ?_
    refine ⟨.ref F9, rfl, m, rfl, n, rfl, fun x20 H_x20 s_x20 r_x20 => ?_⟩
    refine ⟨n, rfl, m, rfl, fun y20 H_y20 s_y20 r_y20 => ?_⟩
    refine ⟨(by decide : (3 : Nat) ≤ sizeLine), fun t20 nt20 => ?_⟩
    have s_t20 : Same H_y20 (upd H_y20 t20 (.tup [.ref x20, .ref y20, .str "runtime"])) := same_upd nt20
    have h_t20 : (upd H_y20 t20 (.tup [.ref x20, .ref y20, .str "runtime"])) t20 = some (.tup [.ref x20, .ref y20, .str "runtime"]) := upd_same
    generalize (upd H_y20 t20 (.tup [.ref x20, .ref y20, .str "runtime"])) = H_t20 at *
    refine ⟨(by decide : (1 : Nat) ≤ sizeLine), fun l10 nl10 => ?_⟩
    have s_l10 : Same H_t20 (upd H_t20 l10 (.lst [.ref t20])) := same_upd nl10
    have h_l10 : (upd H_t20 l10 (.lst [.ref t20])) l10 = some (.lst [.ref t20]) := upd_same
    generalize (upd H_t20 l10 (.lst [.ref t20])) = H_l10 at *
    have w_t20 : TrE t.cs H_l10 t20 20 m n := ⟨_, _, (s_l10 _ _ h_t20), (r_x20.same ((s_y20.trans s_t20).trans s_l10)), (r_y20.same (s_t20.trans s_l10))⟩
    have le10 := ((at9.same (((s_x20.trans s_y20).trans s_t20).trans s_l10))).2.1
    refine ⟨F9, l10, _, _, rfl, rfl, ((at9.same (((s_x20.trans s_y20).trans s_t20).trans s_l10))).1, h_l10, by rw [List.length_map, le10]; exact (by decide : (21 : Nat) ≤ sizeLine), fun F10 nF10 => ?_⟩
    have s_F10 : Same H_l10 (upd H_l10 F10 (.lst (as9.map V.ref ++ [.ref t20]))) := same_upd nF10
    have h_F10 : (upd H_l10 F10 (.lst (as9.map V.ref ++ [.ref t20]))) F10 = some (.lst (as9.map V.ref ++ [.ref t20])) := upd_same
    generalize (upd H_l10 F10 (.lst (as9.map V.ref ++ [.ref t20]))) = H_F10 at *
    have at10 := AtE.one (k := 20) at9 ((((s_x20.trans s_y20).trans s_t20).trans s_l10).trans s_F10) h_F10 (w_t20.same s_F10)
    exact q _ F10 _ (((((((((((((((((((((((((((((((((((((((((((((((((((((((((((((((((((((((((((((((((((s_x0.trans s_y0).trans s_t0).trans s_x1).trans s_y1).trans s_t1).trans s_l0).trans s_x2).trans s_y2).trans s_t2).trans s_x3).trans s_y3).trans s_t3).trans s_l1).trans s_F1).trans s_x4).trans s_y4).trans s_t4).trans s_x5).trans s_y5).trans s_t5).trans s_l2).trans s_F2).trans s_x6).trans s_y6).trans s_t6).trans s_x7).trans s_y7).trans s_t7).trans s_l3).trans s_F3).trans s_x8).trans s_y8).trans s_t8).trans s_x9).trans s_y9).trans s_t9).trans s_l4).trans s_F4).trans s_x10).trans s_y10).trans s_t10).trans s_x11).trans s_y11).trans s_t11).trans s_l5).trans s_F5).trans s_x12).trans s_y12).trans s_t12).trans s_x13).trans s_y13).trans s_t13).trans s_l6).trans s_F6).trans s_x14).trans s_y14).trans s_t14).trans s_x15).trans s_y15).trans s_t15).trans s_l7).trans s_F7).trans s_x16).trans s_y16).trans s_t16).trans s_x17).trans s_y17).trans s_t17).trans s_l8).trans s_F8).trans s_x18).trans s_y18).trans s_t18).trans s_x19).trans s_y19).trans s_t19).trans s_l9).trans s_F9).trans s_x20).trans s_y20).trans s_t20).trans s_l10).trans s_F10) at10
end
end HF
set_option maxHeartbeats 40000000
namespace HF
open PySem PySem.Spec PyProof.Rows L2
abbrev sLaw : Stmt := topS 35
abbrev nLaw : List Str := ["_law_script", "_law_box_here", "_law_some", "_law_mine", "_law_its", "_law_error", "_law_twin", "_law_base"]
theorem scLaw : FnScope nLaw ["_law_script"] (defScope sLaw) := ⟨rfl, rfl, rfl, by decide +kernel, rfl, by decide +kernel, by decide +kernel⟩
section
variable {P : Program} {w : World} {K : PySem.W.Frag} {mg : Str → Option Value} {base : Heap}
theorem val_ok {H : Hp} {l1 t1 : Addr} (h1 : H l1 = some (.lst [.str "a", .str "b"])) (h2 : H t1 = some (.tup [.str "a", .str "b"])) {i : Nat} {v : V} (h : [V.str "a", .int 7, .int (-1), .non, .ref l1, .ref t1, .str "", .int (10 ^ (30 : Int).toNat)][i]? = some v) :
    ∃ d : PyData, (∀ {K : PySem.W.Frag} {H' : Hp}, Same H H' → Dp K H' v d) ∧ d.canLay0 = true ∧ d.depth ≤ 1 ∧ wide d ≤ 1000 := by
  match i, h with
  | 0, h =>
    cases h
    exact ⟨.str "a", fun _ => .str _, by decide +kernel, by decide +kernel, by decide +kernel⟩
  | 1, h =>
    cases h
    exact ⟨.int 7, fun _ => .int _, by decide +kernel, by decide +kernel, by decide +kernel⟩
  | 2, h =>
    cases h
    exact ⟨.int (-1), fun _ => .int _, by decide +kernel, by decide +kernel, by decide +kernel⟩
  | 3, h =>
    cases h
    exact ⟨.none, fun _ => .non, by decide +kernel, by decide +kernel, by decide +kernel⟩
  | 4, h =>
    cases h
    exact ⟨.list [.str "a", .str "b"], fun s => .lst (.inl (.inl (s _ _ h1))) (.cons (.str _) (.cons (.str _) .nil)), by decide +kernel, by decide +kernel, by decide +kernel⟩
  | 5, h =>
    cases h
    exact ⟨.tuple [.str "a", .str "b"], fun s => .tup (.inl (.inl (s _ _ h2))) (.cons (.str _) (.cons (.str _) .nil)), by decide +kernel, by decide +kernel, by decide +kernel⟩
  | 6, h =>
    cases h
    exact ⟨.str "", fun _ => .str _, by decide +kernel, by decide +kernel, by decide +kernel⟩
  | 7, h =>
    cases h
    exact ⟨.int (10 ^ (30 : Int).toNat), fun _ => .int _, by decide +kernel, by decide +kernel, by decide +kernel⟩
  | i + 8, h => simp at h
theorem bs_shaped {i : Nat} (h : i < 21) : SeqAt.shaped (.list [.str (bsN.getD i "")]) = true := by
  have : i = 0 ∨ i = 1 ∨ i = 2 ∨ i = 3 ∨ i = 4 ∨ i = 5 ∨ i = 6 ∨ i = 7 ∨ i = 8 ∨ i = 9 ∨ i = 10 ∨ i = 11 ∨ i = 12 ∨ i = 13 ∨ i = 14 ∨ i = 15 ∨ i = 16 ∨ i = 17 ∨ i = 18 ∨ i = 19 ∨ i = 20 := by omega
  rcases this with rfl | rfl | rfl | rfl | rfl | rfl | rfl | rfl | rfl | rfl | rfl | rfl | rfl | rfl | rfl | rfl | rfl | rfl | rfl | rfl | rfl <;> decide +kernel
theorem ok_law {f : Addr} {fd : FuncData} (F : Fun K "law" "law" sLaw f fd) (t : TX K mg) : FnG P w K mg base CX0 6 f fd ["_law_script"] (spLaw K) := by
  have GB : FnOk P w K mg base CX0 1 t.fB t.dB ["_law_script", "_law_k"] (spBox K) := ok_box t.FB t.m_len t.m_abs t.m_int
  have GP : FnOk P w K mg base CX0 2 t.fP t.dP ["_law_box_here", "_law_some"] (spPk K) := ok_Pk t.FP t.FT t.bT t.gT t.m_len
  have GG : FnOk P w K mg base CX0 4 t.fG t.dG ["_law_found", "_law_due"] (spSame K 3) := ok_same t.FG t.bG t.gG t.m_isinstance t.m_list t.m_tuple t.m_bool t.m_str t.m_int t.m_len t.m_all t.m_zip 3
  have GA : FnOk P w K mg base CX0 3 t.fA t.dA ["_law_mine", "_law_its"] (spAll t.cs) := ok_All t
  have GN : FnOk P w K mg base CX0 1 t.fN t.dN ["_law_error"] (spKin t.cs) := ok_Kin t
  have GS : FnOk P w K mg base CX0 1 t.fS t.dS ["_law_error"] (spBas t.cs) := ok_Bas t
  have GY : FnOk P w K mg base CX0 5 t.fY t.dY ["_law_mine", "_law_its", "_law_error"] (spFie K t.cs) := ok_Fie t
  refine okG F scLaw (fun vs H Q E h => ?_) (fun cdv A outer s H vs Q E gd hr h => ?_)
  · obtain ⟨a, ns, rfl, _⟩ := h
    rfl
  · obtain ⟨a, ns, rfl, hS, hlen, q⟩ := h
    have r1 := hr.mono (show 1 ≤ 5 by decide)
    have r2 := hr.mono (show 2 ≤ 5 by decide)
    have r3 := hr.mono (show 3 ≤ 5 by decide)
    have r4 := hr.mono (show 4 ≤ 5 by decide)
    refine ⟨_, pss_cons (ps_set (i := 1) scLaw.nd rfl (.inl rfl) (pe_call GB r1 (by rfl) t.gB t.FB.kp t.bB .nil pass0 (pa_cons (pv 0) (pa_cons pe_int pa_nil))))
      (pss_cons (ps_set (i := 2) scLaw.nd rfl (.inl rfl) (pe_lst (pa_cons pe_str (pa_cons pe_int (pa_cons (pe_un un_neg pe_int) (pa_cons pe_non (pa_cons (pe_lst (pa_cons pe_str (pa_cons pe_str pa_nil))) (pa_cons (pe_tup (pa_cons pe_str (pa_cons pe_str pa_nil))) (pa_cons pe_str (pa_cons (pe_op op_pow pe_int pe_int) pa_nil))))))))))
      (pss_cons (ps_par (i := 3) (j := 4) (by rfl) scLaw.nd rfl rfl (by decide) rfl rfl (pa_cons (pe_call GP r2 (by rfl) t.gP t.FP.kp t.bP .nil pass0 (pa_cons (pv 1) (pa_cons (pv 2) pa_nil))) (pa_cons (pe_call GP r2 (by rfl) t.gP t.FP.kp t.bP .nil pass0 (pa_cons (pv 1) (pa_cons (pv 2) pa_nil))) pa_nil)) (by rfl))
      (pss_cons (ps_for PassesOwn.never rfl (pi_seq (pe_call GA r3 (by rfl) t.gA t.FA.kp t.bA .nil pass0 (pa_cons (pv 3) (pa_cons (pv 4) pa_nil)))) (pg_seq rfl (pgs_cons (pg_name (i := 5) scLaw.nd rfl (.inl rfl)) (pgs_cons (pg_name (i := 6) scLaw.nd rfl (.inl rfl)) (pgs_cons (pg_name (i := 7) scLaw.nd rfl (.inl rfl)) pgs_nil))))
      (pss_cons (ps_if (PW.pt (pw_or (pt_cmpR op_ne (pe_call GN r1 (by rfl) t.gN t.FN.kp t.bN .nil pass0 (pa_cons (pv 5) pa_nil)) pe_int (nomark _)) (pw_or (pt_cmpR op_ne (pe_call GN r1 (by rfl) t.gN t.FN.kp t.bN .nil pass0 (pa_cons (pv 6) pa_nil)) pe_int (nomark _)) (pw_or (pt_cmpR (op_neD hr.units) (pe_call GS r1 (by rfl) t.gS t.FS.kp t.bS .nil pass0 (pa_cons (pv 5) pa_nil)) (pe_lst (pa_cons (pv 7) pa_nil)) (nomark _)) (pw_or1 (pt_cmpR (op_neD hr.units) (pe_call GS r1 (by rfl) t.gS t.FS.kp t.bS .nil pass0 (pa_cons (pv 6) pa_nil)) (pe_lst (pa_cons (pv 7) pa_nil)) (nomark _))))))) pss_never pss_nil)
      (pss_one (ps_if (PW.pt (pw_or (pt_not (pt_val (pe_call GY hr (by rfl) t.gY t.FY.kp t.bY .nil pass0 (pa_cons (pv 3) (pa_cons (pv 4) (pa_cons (pv 5) pa_nil)))))) (pw_or1 (pt_not (pt_val (pe_call GY hr (by rfl) t.gY t.FY.kp t.bY .nil pass0 (pa_cons (pv 3) (pa_cons (pv 4) (pa_cons (pv 6) pa_nil))))))))) pss_never pss_nil))))
      (pss_one (ps_ret (pe_call GG r4 (by rfl) t.gG t.FG.kp t.bG .nil pass0 (pa_cons (pe_lst (pa_cons (pe_glob (v := .int 300) (by rfl) t.gMOST_RINGS ⟨_, rfl⟩) (pa_cons (pe_glob (v := .int 6) (by rfl) t.gMOST_KNOT ⟨_, rfl⟩) (pa_cons (pe_glob (v := .int 800) (by rfl) t.gMOST_LED ⟨_, rfl⟩) (pa_cons (pe_glob (v := .int 8) (by rfl) t.gMOST_GOINGS ⟨_, rfl⟩) pa_nil))))) (pa_cons (pe_lst (pa_cons pe_int (pa_cons pe_int (pa_cons pe_int (pa_cons pe_int pa_nil))))) pa_nil)))))))), ?_⟩
    refine ⟨.ref a, rfl, a, ns, 0, rfl, hS, by omega, fun b o nb hb => ?_⟩
    have s_b : Same H (upd H b o) := same_upd nb
    generalize (upd H b o) = H_b at *
    try dsimp only [tNext, gName]
    refine sl_cut [some (.ref a), some (.ref b), none, none, none, none, none, none] rfl ?_
    refine ⟨_, rfl, (by decide : (2 : Nat) ≤ sizeLine), fun l1 nl1 => ?_⟩
    have s_l1 : Same H_b (upd H_b l1 (.lst [.str "a", .str "b"])) := same_upd nl1
    have h_l1 : (upd H_b l1 (.lst [.str "a", .str "b"])) l1 = some (.lst [.str "a", .str "b"]) := upd_same
    generalize (upd H_b l1 (.lst [.str "a", .str "b"])) = H_l1 at *
    refine ⟨(by decide : (2 : Nat) ≤ sizeLine), fun t1 nt1 => ?_⟩
    have s_t1 : Same H_l1 (upd H_l1 t1 (.tup [.str "a", .str "b"])) := same_upd nt1
    have h_t1 : (upd H_l1 t1 (.tup [.str "a", .str "b"])) t1 = some (.tup [.str "a", .str "b"]) := upd_same
    generalize (upd H_l1 t1 (.tup [.str "a", .str "b"])) = H_t1 at *
    refine ⟨10, 30, rfl, rfl, ⟨by decide +kernel, by decide +kernel, by decide +kernel⟩, (by decide : (8 : Nat) ≤ sizeLine), fun S nS => ?_⟩
    have nbS : S ≠ b := (Bx.new (Bx.same hb (s_l1.trans s_t1)) nS).symm
    have s_S : Same H_t1 (upd H_t1 S (.lst [.str "a", .int 7, .int (-1), .non, .ref l1, .ref t1, .str "", .int (10 ^ (30 : Int).toNat)])) := same_upd nS
    have h_S : (upd H_t1 S (.lst [.str "a", .int 7, .int (-1), .non, .ref l1, .ref t1, .str "", .int (10 ^ (30 : Int).toNat)])) S = some (.lst [.str "a", .int 7, .int (-1), .non, .ref l1, .ref t1, .str "", .int (10 ^ (30 : Int).toNat)]) := upd_same
    generalize (upd H_t1 S (.lst [.str "a", .int 7, .int (-1), .non, .ref l1, .ref t1, .str "", .int (10 ^ (30 : Int).toNat)])) = H_S at *
    try dsimp only [tNext, gName]
    refine sl_cut [some (.ref a), some (.ref b), some (.ref S), none, none, none, none, none] rfl ?_
    have nl1b : l1 ≠ b := (Bx.new hb nl1).symm
    have nt1b : t1 ≠ b := (Bx.new (Bx.same hb s_l1) nt1).symm
    refine ⟨.ref b, rfl, .ref S, rfl, b, S, 0, _, rfl, Bx.same hb ((s_l1.trans s_t1).trans s_S), by decide, .inl (.inl h_S), nbS, (by decide : 0 < 8), (by decide : 8 ≤ 1000), fun i1 v1 c1 o1 hv1 hc1 hc2 hb1 => ?_⟩
    have o_1 : Oth b H_S (upd H_S b o1) := Oth.put
    generalize (upd H_S b o1) = H1 at *
    refine ⟨.ref b, rfl, .ref S, rfl, b, S, c1, _, rfl, hb1, by omega, .inl (.inl (o_1 _ _ h_S nbS)), nbS, (by decide : 0 < 8), (by decide : 8 ≤ 1000), fun i2 v2 c2 o2 hv2 hc3 hc4 hb2 => ?_⟩
    have o_2 : Oth b H1 (upd H1 b o2) := Oth.put
    generalize (upd H1 b o2) = H2 at *
    have o_12 := o_1.trans o_2
    obtain ⟨d1, dv1, c11, c12, c13⟩ := val_ok (o_12 _ _ ((s_t1.trans s_S) _ _ h_l1) nl1b) (o_12 _ _ (s_S _ _ h_t1) nt1b) hv1
    obtain ⟨d2, dv2, c21, c22, c23⟩ := val_ok (o_12 _ _ ((s_t1.trans s_S) _ _ h_l1) nl1b) (o_12 _ _ (s_S _ _ h_t1) nt1b) hv2
    refine ⟨_, _, rfl, ?_⟩
    try dsimp only [tNext, gName]
    refine sl_cut [some (.ref a), some (.ref b), some (.ref S), some v1, some v2, none, none, none] rfl ?_
    refine ⟨v1, rfl, v2, rfl, v1, v2, rfl, fun H3 D as s3 hat => ?_⟩
    refine ⟨D, rfl, iseq (.inl (.inl (.inl hat.1))) fun J wk => for_it wk (fun i σ Hz => ∃ y5 y6 y7 : Option V, σ = [some (.ref a), some (.ref b), some (.ref S), some v1, some v2, y5, y6, y7] ∧ Same H3 Hz) ⟨_, _, _, rfl, .refl _⟩ (fun i σ Hz _ h => by obtain ⟨_, _, _, _, h⟩ := h; exact Kp.of h) ?_ ?_⟩
    · rintro i v σ Hz Hz' hi ⟨y5, y6, y7, rfl, sz⟩ ⟨rfl, hv⟩
      rw [List.length_map, hat.2.1] at hi
      rw [List.getElem?_map] at hv
      obtain ⟨ai, hai, rfl⟩ := Option.map_eq_some_iff.mp hv
      obtain ⟨e, e', h1, h2, h3⟩ := (hat.2.2 i ai hai).same sz
      obtain ⟨w1, ew1⟩ : ∃ w1, w1 = bsN.getD i "" := ⟨_, rfl⟩
      rw [← ew1] at h1
      refine ⟨ai, [e, e', .str w1], rfl, .inr (.inl (.inl h1)), rfl, ?_⟩
      refine ⟨_, _, rfl, ?_⟩
      dsimp only [gName]
      refine ⟨_, _, rfl, ?_⟩
      dsimp only [gName]
      refine ⟨_, _, rfl, ?_⟩
      dsimp only [gName]
      refine ⟨rfl, ?_⟩
      try dsimp only [tNext, gName]
      refine sl_cut [some (.ref a), some (.ref b), some (.ref S), some v1, some v2, some e, some e', some (.str w1)] rfl ?_
      have ne1 : (!decide (V.int 1 = V.int 1)) = false := by rw [decide_eq_true rfl]; rfl
      have eqw : PyData.eqv (.list [.str w1]) (.list [.str w1]) = true := by
        show PyData.eqvAll ([w1].map PyData.str) ([w1].map PyData.str) = true
        rw [eqv_all_strs, decide_eq_true rfl]
      have shw : SeqAt.shaped (.list [.str w1]) = true := by rw [ew1]; exact bs_shaped hi
      have dpl : ∀ {Hh : Hp} {l : Addr}, Hh l = some (.lst [.str w1]) → Dp K Hh (.ref l) (.list [.str w1]) := fun h => .lst (.inl (.inl h)) (.cons (.str _) .nil)
      refine ⟨e, rfl, e, i, _, rfl, hi, h2, fun Ha sa => ⟨rfl, _, rfl, ?_⟩⟩
      rw [ne1]
      refine iteF ⟨e', rfl, e', i, _, rfl, hi, h3.same sa, fun Hb sb => ⟨rfl, _, rfl, ?_⟩⟩
      rw [ne1]
      refine iteF ⟨e, rfl, e, i, _, rfl, hi, h2.same (sa.trans sb), fun Hc Dc sc hDc => ?_⟩
      rw [← ew1] at hDc
      refine ⟨.str w1, rfl, (by decide : (1 : Nat) ≤ sizeLine), fun k1 nk1 => ?_⟩
      have s_k1 : Same Hc (upd Hc k1 (.lst [.str w1])) := same_upd nk1
      have h_k1 : (upd Hc k1 (.lst [.str w1])) k1 = some (.lst [.str w1]) := upd_same
      generalize (upd Hc k1 (.lst [.str w1])) = Hd at *
      refine ⟨_, _, dpl (s_k1 _ _ hDc), dpl h_k1, shw, shw, _, rfl, ?_⟩
      rw [eqw]
      have sd := ((sa.trans sb).trans sc).trans s_k1
      refine iteF ⟨e', rfl, e', i, _, rfl, hi, h3.same sd, fun He De se hDe => ?_⟩
      rw [← ew1] at hDe
      refine ⟨.str w1, rfl, (by decide : (1 : Nat) ≤ sizeLine), fun k2 nk2 => ?_⟩
      have s_k2 : Same He (upd He k2 (.lst [.str w1])) := same_upd nk2
      have h_k2 : (upd He k2 (.lst [.str w1])) k2 = some (.lst [.str w1]) := upd_same
      generalize (upd He k2 (.lst [.str w1])) = Hf at *
      refine ⟨_, _, dpl (s_k2 _ _ hDe), dpl h_k2, shw, shw, _, rfl, ?_⟩
      rw [eqw]
      have sf := (sd.trans se).trans s_k2
      refine iteF ?_
      have zf := ((s3.trans sz).trans sf)
      refine ⟨v1, rfl, v2, rfl, e, rfl, v1, v2, e, d1, d2, i, rfl, hi, h2.same sf, dv1 zf, dv2 zf, c11, c21, c12, c22, c13, c23, fun Hg sg => ⟨_, rfl, iteF ?_⟩⟩
      refine ⟨v1, rfl, v2, rfl, e', rfl, v1, v2, e', d1, d2, i, rfl, hi, h3.same (sf.trans sg), dv1 (zf.trans sg), dv2 (zf.trans sg), c11, c21, c12, c22, c13, c23, fun Hh sh => ⟨_, rfl, iteF ?_⟩⟩
      exact ⟨_, _, _, rfl, sz.trans ((sf.trans sg).trans sh)⟩
    · rintro σ Hz ⟨y5, y6, y7, rfl, sz⟩
      refine ⟨(by decide : (4 : Nat) ≤ sizeLine), fun p1 np1 => ?_⟩
      have s_p1 : Same Hz (upd Hz p1 (.lst [.int 300, .int 6, .int 800, .int 8])) := same_upd np1
      have h_p1 : (upd Hz p1 (.lst [.int 300, .int 6, .int 800, .int 8])) p1 = some (.lst [.int 300, .int 6, .int 800, .int 8]) := upd_same
      generalize (upd Hz p1 (.lst [.int 300, .int 6, .int 800, .int 8])) = Ha at *
      refine ⟨(by decide : (4 : Nat) ≤ sizeLine), fun p2 np2 => ?_⟩
      have s_p2 : Same Ha (upd Ha p2 (.lst [.int 300, .int 6, .int 800, .int 8])) := same_upd np2
      have h_p2 : (upd Ha p2 (.lst [.int 300, .int 6, .int 800, .int 8])) p2 = some (.lst [.int 300, .int 6, .int 800, .int 8]) := upd_same
      generalize (upd Ha p2 (.lst [.int 300, .int 6, .int 800, .int 8])) = Hb at *
      have dpn : ∀ {Hh : Hp} {l : Addr}, Hh l = some (.lst [.int 300, .int 6, .int 800, .int 8]) → Dp K Hh (.ref l) (.list [.int 300, .int 6, .int 800, .int 8]) := fun h => .lst (.inl (.inl h)) (.cons (.int _) (.cons (.int _) (.cons (.int _) (.cons (.int _) .nil))))
      exact ⟨_, _, _, rfl, dpn (s_p2 _ _ h_p1), dpn h_p2, by decide +kernel, by decide +kernel, by decide +kernel, by decide +kernel, fun H' _ => q H'⟩
end
end HF
namespace HF
open PySem PySem.Spec PyProof.Rows L2
theorem all_mk {l : PySem.W.OpenLaw} {w : World} {K : PySem.W.Frag} {h : Heap} {mg : Str → Option Value} {fa : Addr} (X : K.In h) (G : h.Ns mainGlobals mg) (hfa : mg "law" = some (.ref fa))
    {fB : Addr} (aB : At K "_law_box" sBox fB)
    {fT : Addr} (aT : At K "_law_take" sTake fT)
    {fP : Addr} (aP : At K "_law_pick" sPk fP)
    {fG : Addr} (aG : At K "_law_same" sSame fG)
    {fA : Addr} (aA : At K "_law_all" sAll fA)
    {fY : Addr} (aY : At K "_law_fields" sFie fY)
    {fN : Addr} (aN : At K "_law_kinds" sKin fN)
    {fS : Addr} (aS : At K "_law_bases" sBas fS)
    {fLaw : Addr} (aLaw : At K "law" sLaw fLaw)
    {Cx0 fx0I : Addr} (ax0X : AtX K "BadText" "BadText.__init__" sX0 "text" "ValueError" "ValueError.__new__" "ValueError.__init__" bmVE Cx0 fx0I)
    {Cx1 fx1I : Addr} (ax1X : AtX K "BadRow" "BadRow.__init__" sX1 "number" "ValueError" "ValueError.__new__" "ValueError.__init__" bmVE Cx1 fx1I)
    {Cx2 fx2I : Addr} (ax2X : AtX K "Own" "Own.__init__" sX2 "book" "ValueError" "ValueError.__new__" "ValueError.__init__" bmVE Cx2 fx2I)
    {Cx3 fx3I : Addr} (ax3X : AtX K "NoName" "NoName.__init__" sX3 "book" "ValueError" "ValueError.__new__" "ValueError.__init__" bmVE Cx3 fx3I)
    {Cx4 fx4I : Addr} (ax4X : AtX K "NoBook" "NoBook.__init__" sX4 "book" "LookupError" "LookupError.__new__" "LookupError.__init__" bmLE Cx4 fx4I)
    {Cx5 fx5I : Addr} (ax5X : AtX K "NoTie" "NoTie.__init__" sX5 "pair" "LookupError" "LookupError.__new__" "LookupError.__init__" bmLE Cx5 fx5I)
    {Cx6 fx6I : Addr} (ax6X : AtX K "NoPlace" "NoPlace.__init__" sX6 "at" "LookupError" "LookupError.__new__" "LookupError.__init__" bmLE Cx6 fx6I)
    {Cx7 fx7I : Addr} (ax7X : AtX K "NoDeed" "NoDeed.__init__" sX7 "many" "LookupError" "LookupError.__new__" "LookupError.__init__" bmLE Cx7 fx7I)
    {Cx8 fx8I : Addr} (ax8X : AtX K "MayNot" "MayNot.__init__" sX8 "book" "RuntimeError" "RuntimeError.__new__" "RuntimeError.__init__" bmRE Cx8 fx8I)
    {Cx9 fx9I : Addr} (ax9X : AtX K "Barred" "Barred.__init__" sX9 "ring" "RuntimeError" "RuntimeError.__new__" "RuntimeError.__init__" bmRE Cx9 fx9I)
    {Cx10 fx10I : Addr} (ax10X : AtX K "Lost" "Lost.__init__" sX10 "place" "RuntimeError" "RuntimeError.__new__" "RuntimeError.__init__" bmRE Cx10 fx10I)
    {Cx11 fx11I : Addr} (ax11X : AtX K "Stopped" "Stopped.__init__" sX11 "number" "RuntimeError" "RuntimeError.__new__" "RuntimeError.__init__" bmRE Cx11 fx11I)
    {Cx12 fx12I : Addr} (ax12X : AtX K "Shared" "Shared.__init__" sX12 "book" "RuntimeError" "RuntimeError.__new__" "RuntimeError.__init__" bmRE Cx12 fx12I)
    {Cx13 fx13I : Addr} (ax13X : AtX K "Tied" "Tied.__init__" sX13 "pair" "RuntimeError" "RuntimeError.__new__" "RuntimeError.__init__" bmRE Cx13 fx13I)
    {Cx14 fx14I : Addr} (ax14X : AtX K "Taken" "Taken.__init__" sX14 "book" "RuntimeError" "RuntimeError.__new__" "RuntimeError.__init__" bmRE Cx14 fx14I)
    {Cx15 fx15I : Addr} (ax15X : AtX K "TooMany" "TooMany.__init__" sX15 "many" "OverflowError" "OverflowError.__new__" "OverflowError.__init__" bmOE Cx15 fx15I)
    {Cx16 fx16I : Addr} (ax16X : AtX K "Full" "Full.__init__" sX16 "many" "OverflowError" "OverflowError.__new__" "OverflowError.__init__" bmOE Cx16 fx16I)
    {Cx19 fx19I : Addr} (ax19X : AtX K "Gap" "Gap.__init__" sX19 "place" "RuntimeError" "RuntimeError.__new__" "RuntimeError.__init__" bmRE Cx19 fx19I)
    {Cx20 fx20I : Addr} (ax20X : AtX K "Apart" "Apart.__init__" sX20 "one" "RuntimeError" "RuntimeError.__new__" "RuntimeError.__init__" bmRE Cx20 fx20I)
    {Cx17 : Addr} (px17 : PySem.W.nsIn K mainGlobals "Unlike" = some (some (.ref Cx17)))
    {Cx18 : Addr} (px18 : PySem.W.nsIn K mainGlobals "Last" = some (some (.ref Cx18)))
    {tkMOST_RINGS tkMOST_KNOT tkMOST_LED tkMOST_GOINGS : Tok}
    (uq17 : PySem.W.excIn K Cx17 bmVE "ValueError.__new__" = true)
    (ukC17 : PySem.W.keepIn K (.ref Cx17) = true)
    (uex17 : PySem.W.subIn K (.ref Cx17) (.type "BaseException") = some true)
    (uty17 : PySem.W.typeIn K (.ref Cx17) = some (.type "type"))
    (ucl17 : PySem.W.isClsIn K Cx17 = true)
    (uga17 : PySem.W.findIn K (.ref Cx17) "__getattribute__" = some (some (.builtin "BaseException.__getattribute__")))
    (ugg17 : PySem.W.findIn K (.ref Cx17) "__getattr__" = some none)
    (uhd17 : PySem.W.hasDictIn K Cx17 = true)
    (uca17 : PySem.W.findIn K (.ref Cx17) "__class__" = some (some (.builtin "object.__class__")))
    (usg17 : PySem.W.specialIn K (.builtin "object.__class__") "__get__" = some (some (.builtin "getset_descriptor.__get__")))
    (utk17 : PySem.W.takesIn K (.builtin "object.__class__") = some true)
    (uob17 : PySem.W.mroIn K Cx17 (.type "object") = some true)
    (uq18 : PySem.W.excIn K Cx18 bmRE "RuntimeError.__new__" = true)
    (ukC18 : PySem.W.keepIn K (.ref Cx18) = true)
    (uex18 : PySem.W.subIn K (.ref Cx18) (.type "BaseException") = some true)
    (uty18 : PySem.W.typeIn K (.ref Cx18) = some (.type "type"))
    (ucl18 : PySem.W.isClsIn K Cx18 = true)
    (uga18 : PySem.W.findIn K (.ref Cx18) "__getattribute__" = some (some (.builtin "BaseException.__getattribute__")))
    (ugg18 : PySem.W.findIn K (.ref Cx18) "__getattr__" = some none)
    (uhd18 : PySem.W.hasDictIn K Cx18 = true)
    (uca18 : PySem.W.findIn K (.ref Cx18) "__class__" = some (some (.builtin "object.__class__")))
    (usg18 : PySem.W.specialIn K (.builtin "object.__class__") "__get__" = some (some (.builtin "getset_descriptor.__get__")))
    (utk18 : PySem.W.takesIn K (.builtin "object.__class__") = some true)
    (uob18 : PySem.W.mroIn K Cx18 (.type "object") = some true)
    (n19 : PySem.W.findIn K (.ref Cx19) "ring" = some none)
    (n20 : PySem.W.findIn K (.ref Cx20) "other" = some none)
    (kit : kitsE K [Cx0, Cx1, Cx2, Cx3, Cx4, Cx5, Cx6, Cx7, Cx8, Cx9, Cx10, Cx11, Cx12, Cx13, Cx14, Cx15, Cx16, Cx17, Cx18, Cx19, Cx20] = true)
    (kin : kitsT K [Cx0, Cx1, Cx2, Cx3, Cx4, Cx5, Cx6, Cx7, Cx8, Cx9, Cx10, Cx11, Cx12, Cx13, Cx14, Cx15, Cx16, Cx17, Cx18, Cx19, Cx20] = true)
    (xMOST_RINGS : PySem.W.nsIn K mainGlobals "MOST_RINGS" = some (some (.int 300 tkMOST_RINGS)))
    (xMOST_KNOT : PySem.W.nsIn K mainGlobals "MOST_KNOT" = some (some (.int 6 tkMOST_KNOT)))
    (xMOST_LED : PySem.W.nsIn K mainGlobals "MOST_LED" = some (some (.int 800 tkMOST_LED)))
    (xMOST_GOINGS : PySem.W.nsIn K mainGlobals "MOST_GOINGS" = some (some (.int 8 tkMOST_GOINGS)))
    (z_ValueError : PySem.W.nsIn K mainGlobals "ValueError" = some none)
    (z_LookupError : PySem.W.nsIn K mainGlobals "LookupError" = some none)
    (z_RuntimeError : PySem.W.nsIn K mainGlobals "RuntimeError" = some none)
    (z_OverflowError : PySem.W.nsIn K mainGlobals "OverflowError" = some none)
    (z_IndexError : PySem.W.nsIn K mainGlobals "IndexError" = some none)
    (z_KeyError : PySem.W.nsIn K mainGlobals "KeyError" = some none)
    (z_NotImplementedError : PySem.W.nsIn K mainGlobals "NotImplementedError" = some none)
    (z_isinstance : PySem.W.nsIn K mainGlobals "isinstance" = some none)
    (z_len : PySem.W.nsIn K mainGlobals "len" = some none)
    (z_int : PySem.W.nsIn K mainGlobals "int" = some none)
    (z_list : PySem.W.nsIn K mainGlobals "list" = some none)
    (z_tuple : PySem.W.nsIn K mainGlobals "tuple" = some none)
    (z_bool : PySem.W.nsIn K mainGlobals "bool" = some none)
    (z_str : PySem.W.nsIn K mainGlobals "str" = some none)
    (z_all : PySem.W.nsIn K mainGlobals "all" = some none)
    (z_zip : PySem.W.nsIn K mainGlobals "zip" = some none)
    (z_abs : PySem.W.nsIn K mainGlobals "abs" = some none)
    : ∃ fd : FuncData, (∀ (s : Shared) (v : Value), BindsTo s fd ⟨[v], []⟩ [("_law_script", v)]) ∧ ∀ base : Heap, K.In base → base.Ns mainGlobals mg → FnG l.prog w K mg base CX0 6 fa fd ["_law_script"] (spLaw K) := by
  have e := hfa.symm.trans (PySem.W.mg_of X G aLaw.ns)
  cases e
  obtain ⟨dB, FB, kB1, kB2, kB3, kB4, kB5, kB6, eB⟩ := aB.fun
  obtain ⟨dT, FT, kT1, kT2, kT3, kT4, kT5, kT6, eT⟩ := aT.fun
  obtain ⟨dP, FP, kP1, kP2, kP3, kP4, kP5, kP6, eP⟩ := aP.fun
  obtain ⟨dG, FG, kG1, kG2, kG3, kG4, kG5, kG6, eG⟩ := aG.fun
  obtain ⟨dA, FA, kA1, kA2, kA3, kA4, kA5, kA6, eA⟩ := aA.fun
  obtain ⟨dY, FY, kY1, kY2, kY3, kY4, kY5, kY6, eY⟩ := aY.fun
  obtain ⟨dN, FN, kN1, kN2, kN3, kN4, kN5, kN6, eN⟩ := aN.fun
  obtain ⟨dS, FS, kS1, kS2, kS3, kS4, kS5, kS6, eS⟩ := aS.fun
  obtain ⟨dLaw, FLaw, kLaw1, kLaw2, kLaw3, kLaw4, kLaw5, kLaw6, eLaw⟩ := aLaw.fun
  obtain ⟨tx0⟩ := ax0X.xt X G PySem.F.excBase_ValueError PySem.F.store_ValueError (fun fd F => F.binds fun _ _ _ _ _ _ us hl => (match us, hl with | [_, _], _ => rfl))
  obtain ⟨tx1⟩ := ax1X.xt X G PySem.F.excBase_ValueError PySem.F.store_ValueError (fun fd F => F.binds fun _ _ _ _ _ _ us hl => (match us, hl with | [_, _], _ => rfl))
  obtain ⟨tx2⟩ := ax2X.xt X G PySem.F.excBase_ValueError PySem.F.store_ValueError (fun fd F => F.binds fun _ _ _ _ _ _ us hl => (match us, hl with | [_, _], _ => rfl))
  obtain ⟨tx3⟩ := ax3X.xt X G PySem.F.excBase_ValueError PySem.F.store_ValueError (fun fd F => F.binds fun _ _ _ _ _ _ us hl => (match us, hl with | [_, _], _ => rfl))
  obtain ⟨tx4⟩ := ax4X.xt X G PySem.F.excBase_LookupError PySem.F.store_LookupError (fun fd F => F.binds fun _ _ _ _ _ _ us hl => (match us, hl with | [_, _], _ => rfl))
  obtain ⟨tx5⟩ := ax5X.xt X G PySem.F.excBase_LookupError PySem.F.store_LookupError (fun fd F => F.binds fun _ _ _ _ _ _ us hl => (match us, hl with | [_, _], _ => rfl))
  obtain ⟨tx6⟩ := ax6X.xt X G PySem.F.excBase_LookupError PySem.F.store_LookupError (fun fd F => F.binds fun _ _ _ _ _ _ us hl => (match us, hl with | [_, _], _ => rfl))
  obtain ⟨tx7⟩ := ax7X.xt X G PySem.F.excBase_LookupError PySem.F.store_LookupError (fun fd F => F.binds fun _ _ _ _ _ _ us hl => (match us, hl with | [_, _], _ => rfl))
  obtain ⟨tx8⟩ := ax8X.xt X G PySem.F.excBase_RuntimeError PySem.F.store_RuntimeError (fun fd F => F.binds fun _ _ _ _ _ _ us hl => (match us, hl with | [_, _], _ => rfl))
  obtain ⟨tx9⟩ := ax9X.xt X G PySem.F.excBase_RuntimeError PySem.F.store_RuntimeError (fun fd F => F.binds fun _ _ _ _ _ _ us hl => (match us, hl with | [_, _], _ => rfl))
  obtain ⟨tx10⟩ := ax10X.xt X G PySem.F.excBase_RuntimeError PySem.F.store_RuntimeError (fun fd F => F.binds fun _ _ _ _ _ _ us hl => (match us, hl with | [_, _], _ => rfl))
  obtain ⟨tx11⟩ := ax11X.xt X G PySem.F.excBase_RuntimeError PySem.F.store_RuntimeError (fun fd F => F.binds fun _ _ _ _ _ _ us hl => (match us, hl with | [_, _], _ => rfl))
  obtain ⟨tx12⟩ := ax12X.xt X G PySem.F.excBase_RuntimeError PySem.F.store_RuntimeError (fun fd F => F.binds fun _ _ _ _ _ _ us hl => (match us, hl with | [_, _], _ => rfl))
  obtain ⟨tx13⟩ := ax13X.xt X G PySem.F.excBase_RuntimeError PySem.F.store_RuntimeError (fun fd F => F.binds fun _ _ _ _ _ _ us hl => (match us, hl with | [_, _], _ => rfl))
  obtain ⟨tx14⟩ := ax14X.xt X G PySem.F.excBase_RuntimeError PySem.F.store_RuntimeError (fun fd F => F.binds fun _ _ _ _ _ _ us hl => (match us, hl with | [_, _], _ => rfl))
  obtain ⟨tx15⟩ := ax15X.xt X G PySem.F.excBase_OverflowError PySem.F.store_OverflowError (fun fd F => F.binds fun _ _ _ _ _ _ us hl => (match us, hl with | [_, _], _ => rfl))
  obtain ⟨tx16⟩ := ax16X.xt X G PySem.F.excBase_OverflowError PySem.F.store_OverflowError (fun fd F => F.binds fun _ _ _ _ _ _ us hl => (match us, hl with | [_, _], _ => rfl))
  obtain ⟨tx19⟩ := ax19X.xt2 n19 X G PySem.F.excBase_RuntimeError PySem.F.store_RuntimeError (fun fd F => F.binds fun _ _ _ _ _ _ us hl => (match us, hl with | [_, _, _], _ => rfl))
  obtain ⟨tx20⟩ := ax20X.xt2 n20 X G PySem.F.excBase_RuntimeError PySem.F.store_RuntimeError (fun fd F => F.binds fun _ _ _ _ _ _ us hl => (match us, hl with | [_, _, _], _ => rfl))
  refine ⟨dLaw, fun s v => by rw [eLaw]; exact .of_eq rfl, fun base _ _ => ok_law FLaw { fB := fB, dB := dB, FB := FB, bB := FB.binds fun _ _ _ _ _ _ us hl => (match us, hl with | [_, _], _ => rfl), gB := PySem.W.mg_of X G aB.ns, fT := fT, dT := dT, FT := FT, bT := FT.binds fun _ _ _ _ _ _ us hl => (match us, hl with | [_, _], _ => rfl), gT := PySem.W.mg_of X G aT.ns, fP := fP, dP := dP, FP := FP, bP := FP.binds fun _ _ _ _ _ _ us hl => (match us, hl with | [_, _], _ => rfl), gP := PySem.W.mg_of X G aP.ns, fG := fG, dG := dG, FG := FG, bG := FG.binds fun _ _ _ _ _ _ us hl => (match us, hl with | [_, _], _ => rfl), gG := PySem.W.mg_of X G aG.ns, fA := fA, dA := dA, FA := FA, bA := FA.binds fun _ _ _ _ _ _ us hl => (match us, hl with | [_, _], _ => rfl), gA := PySem.W.mg_of X G aA.ns, fY := fY, dY := dY, FY := FY, bY := FY.binds fun _ _ _ _ _ _ us hl => (match us, hl with | [_, _, _], _ => rfl), gY := PySem.W.mg_of X G aY.ns, fN := fN, dN := dN, FN := FN, bN := FN.binds fun _ _ _ _ _ _ us hl => (match us, hl with | [_], _ => rfl), gN := PySem.W.mg_of X G aN.ns, fS := fS, dS := dS, FS := FS, bS := FS.binds fun _ _ _ _ _ _ us hl => (match us, hl with | [_], _ => rfl), gS := PySem.W.mg_of X G aS.ns, m_ValueError := PySem.W.mg_none_of X G z_ValueError, m_LookupError := PySem.W.mg_none_of X G z_LookupError, m_RuntimeError := PySem.W.mg_none_of X G z_RuntimeError, m_OverflowError := PySem.W.mg_none_of X G z_OverflowError, m_IndexError := PySem.W.mg_none_of X G z_IndexError, m_KeyError := PySem.W.mg_none_of X G z_KeyError, m_NotImplementedError := PySem.W.mg_none_of X G z_NotImplementedError, m_isinstance := PySem.W.mg_none_of X G z_isinstance, m_len := PySem.W.mg_none_of X G z_len, m_int := PySem.W.mg_none_of X G z_int, m_list := PySem.W.mg_none_of X G z_list, m_tuple := PySem.W.mg_none_of X G z_tuple, m_bool := PySem.W.mg_none_of X G z_bool, m_str := PySem.W.mg_none_of X G z_str, m_all := PySem.W.mg_none_of X G z_all, m_zip := PySem.W.mg_none_of X G z_zip, m_abs := PySem.W.mg_none_of X G z_abs, Cx0 := Cx0, tx0 := tx0, Cx1 := Cx1, tx1 := tx1, Cx2 := Cx2, tx2 := tx2, Cx3 := Cx3, tx3 := tx3, Cx4 := Cx4, tx4 := tx4, Cx5 := Cx5, tx5 := tx5, Cx6 := Cx6, tx6 := tx6, Cx7 := Cx7, tx7 := tx7, Cx8 := Cx8, tx8 := tx8, Cx9 := Cx9, tx9 := tx9, Cx10 := Cx10, tx10 := tx10, Cx11 := Cx11, tx11 := tx11, Cx12 := Cx12, tx12 := tx12, Cx13 := Cx13, tx13 := tx13, Cx14 := Cx14, tx14 := tx14, Cx15 := Cx15, tx15 := tx15, Cx16 := Cx16, tx16 := tx16, Cx19 := Cx19, tx19 := tx19, Cx20 := Cx20, tx20 := tx20, Cx17 := Cx17, tx17 := ⟨PySem.W.mg_of X G px17, uq17, ukC17, uex17, uty17, ⟨ucl17, uga17, ugg17, uex17, uhd17, uca17, usg17, utk17, uob17⟩⟩, Cx18 := Cx18, tx18 := ⟨PySem.W.mg_of X G px18, uq18, ukC18, uex18, uty18, ⟨ucl18, uga18, ugg18, uex18, uhd18, uca18, usg18, utk18, uob18⟩⟩, kit := kit, kin := kin, tkMOST_RINGS := tkMOST_RINGS, gMOST_RINGS := PySem.W.mg_of X G xMOST_RINGS, tkMOST_KNOT := tkMOST_KNOT, gMOST_KNOT := PySem.W.mg_of X G xMOST_KNOT, tkMOST_LED := tkMOST_LED, gMOST_LED := PySem.W.mg_of X G xMOST_LED, tkMOST_GOINGS := tkMOST_GOINGS, gMOST_GOINGS := PySem.W.mg_of X G xMOST_GOINGS }⟩
end HF
open PySem PySem.W PyProof.Rows
set_option maxHeartbeats 0 in
theorem PySem.Challenge.cw_heapfriends_k06_errors_and_limits_holds : PySem.Challenge.rw_heapfriends_k06_errors_and_limits.Holds := by
  w_on; o_law; k_head; (case hw => w_witness2)
  k_fill
  refine HF.walkG (l := PySem.Challenge.rw_heapfriends_k06_errors_and_limits) (n := 63) (k := 6) (x := "_law_script") (sp := HF.spLaw) rfl (by decide) rfl ⟨rfl, by decide, by decide⟩ (fun w h Y => PySem.W.kIn_of Y) ?F (fun K H a ns hl _ hS => ⟨a, ns, rfl, hS, hl, fun _ => rfl⟩)
  case F =>
    intro w mg fa h KX G hmg
    refine' HF.all_mk KX G hmg (HF.at_mk ?nB ?lB ?cB ?kB) (HF.at_mk ?nT ?lT ?cT ?kT) (HF.at_mk ?nP ?lP ?cP ?kP) (HF.at_mk ?nG ?lG ?cG ?kG) (HF.at_mk ?nA ?lA ?cA ?kA) (HF.at_mk ?nY ?lY ?cY ?kY) (HF.at_mk ?nN ?lN ?cN ?kN) (HF.at_mk ?nS ?lS ?cS ?kS) (HF.at_mk ?nLaw ?lLaw ?cLaw ?kLaw) (HF.atx_mk ?xx0ns ?xx0iC ?xx0tI ?xx0l ?xx0c ?xx0kp ?xx0ini ?xx0over ?xx0hdi ?xx0sa ?xx0exC ?xx0tyC ?xx0kC ?xx0cl ?xx0ga ?xx0gg ?xx0ca ?xx0sg ?xx0tk ?xx0ob ?xx0no ?xx0vV) (HF.atx_mk ?xx1ns ?xx1iC ?xx1tI ?xx1l ?xx1c ?xx1kp ?xx1ini ?xx1over ?xx1hdi ?xx1sa ?xx1exC ?xx1tyC ?xx1kC ?xx1cl ?xx1ga ?xx1gg ?xx1ca ?xx1sg ?xx1tk ?xx1ob ?xx1no ?xx1vV) (HF.atx_mk ?xx2ns ?xx2iC ?xx2tI ?xx2l ?xx2c ?xx2kp ?xx2ini ?xx2over ?xx2hdi ?xx2sa ?xx2exC ?xx2tyC ?xx2kC ?xx2cl ?xx2ga ?xx2gg ?xx2ca ?xx2sg ?xx2tk ?xx2ob ?xx2no ?xx2vV) (HF.atx_mk ?xx3ns ?xx3iC ?xx3tI ?xx3l ?xx3c ?xx3kp ?xx3ini ?xx3over ?xx3hdi ?xx3sa ?xx3exC ?xx3tyC ?xx3kC ?xx3cl ?xx3ga ?xx3gg ?xx3ca ?xx3sg ?xx3tk ?xx3ob ?xx3no ?xx3vV) (HF.atx_mk ?xx4ns ?xx4iC ?xx4tI ?xx4l ?xx4c ?xx4kp ?xx4ini ?xx4over ?xx4hdi ?xx4sa ?xx4exC ?xx4tyC ?xx4kC ?xx4cl ?xx4ga ?xx4gg ?xx4ca ?xx4sg ?xx4tk ?xx4ob ?xx4no ?xx4vV) (HF.atx_mk ?xx5ns ?xx5iC ?xx5tI ?xx5l ?xx5c ?xx5kp ?xx5ini ?xx5over ?xx5hdi ?xx5sa ?xx5exC ?xx5tyC ?xx5kC ?xx5cl ?xx5ga ?xx5gg ?xx5ca ?xx5sg ?xx5tk ?xx5ob ?xx5no ?xx5vV) (HF.atx_mk ?xx6ns ?xx6iC ?xx6tI ?xx6l ?xx6c ?xx6kp ?xx6ini ?xx6over ?xx6hdi ?xx6sa ?xx6exC ?xx6tyC ?xx6kC ?xx6cl ?xx6ga ?xx6gg ?xx6ca ?xx6sg ?xx6tk ?xx6ob ?xx6no ?xx6vV) (HF.atx_mk ?xx7ns ?xx7iC ?xx7tI ?xx7l ?xx7c ?xx7kp ?xx7ini ?xx7over ?xx7hdi ?xx7sa ?xx7exC ?xx7tyC ?xx7kC ?xx7cl ?xx7ga ?xx7gg ?xx7ca ?xx7sg ?xx7tk ?xx7ob ?xx7no ?xx7vV) (HF.atx_mk ?xx8ns ?xx8iC ?xx8tI ?xx8l ?xx8c ?xx8kp ?xx8ini ?xx8over ?xx8hdi ?xx8sa ?xx8exC ?xx8tyC ?xx8kC ?xx8cl ?xx8ga ?xx8gg ?xx8ca ?xx8sg ?xx8tk ?xx8ob ?xx8no ?xx8vV) (HF.atx_mk ?xx9ns ?xx9iC ?xx9tI ?xx9l ?xx9c ?xx9kp ?xx9ini ?xx9over ?xx9hdi ?xx9sa ?xx9exC ?xx9tyC ?xx9kC ?xx9cl ?xx9ga ?xx9gg ?xx9ca ?xx9sg ?xx9tk ?xx9ob ?xx9no ?xx9vV) (HF.atx_mk ?xx10ns ?xx10iC ?xx10tI ?xx10l ?xx10c ?xx10kp ?xx10ini ?xx10over ?xx10hdi ?xx10sa ?xx10exC ?xx10tyC ?xx10kC ?xx10cl ?xx10ga ?xx10gg ?xx10ca ?xx10sg ?xx10tk ?xx10ob ?xx10no ?xx10vV) (HF.atx_mk ?xx11ns ?xx11iC ?xx11tI ?xx11l ?xx11c ?xx11kp ?xx11ini ?xx11over ?xx11hdi ?xx11sa ?xx11exC ?xx11tyC ?xx11kC ?xx11cl ?xx11ga ?xx11gg ?xx11ca ?xx11sg ?xx11tk ?xx11ob ?xx11no ?xx11vV) (HF.atx_mk ?xx12ns ?xx12iC ?xx12tI ?xx12l ?xx12c ?xx12kp ?xx12ini ?xx12over ?xx12hdi ?xx12sa ?xx12exC ?xx12tyC ?xx12kC ?xx12cl ?xx12ga ?xx12gg ?xx12ca ?xx12sg ?xx12tk ?xx12ob ?xx12no ?xx12vV) (HF.atx_mk ?xx13ns ?xx13iC ?xx13tI ?xx13l ?xx13c ?xx13kp ?xx13ini ?xx13over ?xx13hdi ?xx13sa ?xx13exC ?xx13tyC ?xx13kC ?xx13cl ?xx13ga ?xx13gg ?xx13ca ?xx13sg ?xx13tk ?xx13ob ?xx13no ?xx13vV) (HF.atx_mk ?xx14ns ?xx14iC ?xx14tI ?xx14l ?xx14c ?xx14kp ?xx14ini ?xx14over ?xx14hdi ?xx14sa ?xx14exC ?xx14tyC ?xx14kC ?xx14cl ?xx14ga ?xx14gg ?xx14ca ?xx14sg ?xx14tk ?xx14ob ?xx14no ?xx14vV) (HF.atx_mk ?xx15ns ?xx15iC ?xx15tI ?xx15l ?xx15c ?xx15kp ?xx15ini ?xx15over ?xx15hdi ?xx15sa ?xx15exC ?xx15tyC ?xx15kC ?xx15cl ?xx15ga ?xx15gg ?xx15ca ?xx15sg ?xx15tk ?xx15ob ?xx15no ?xx15vV) (HF.atx_mk ?xx16ns ?xx16iC ?xx16tI ?xx16l ?xx16c ?xx16kp ?xx16ini ?xx16over ?xx16hdi ?xx16sa ?xx16exC ?xx16tyC ?xx16kC ?xx16cl ?xx16ga ?xx16gg ?xx16ca ?xx16sg ?xx16tk ?xx16ob ?xx16no ?xx16vV) (HF.atx_mk ?xx19ns ?xx19iC ?xx19tI ?xx19l ?xx19c ?xx19kp ?xx19ini ?xx19over ?xx19hdi ?xx19sa ?xx19exC ?xx19tyC ?xx19kC ?xx19cl ?xx19ga ?xx19gg ?xx19ca ?xx19sg ?xx19tk ?xx19ob ?xx19no ?xx19vV) (HF.atx_mk ?xx20ns ?xx20iC ?xx20tI ?xx20l ?xx20c ?xx20kp ?xx20ini ?xx20over ?xx20hdi ?xx20sa ?xx20exC ?xx20tyC ?xx20kC ?xx20cl ?xx20ga ?xx20gg ?xx20ca ?xx20sg ?xx20tk ?xx20ob ?xx20no ?xx20vV) ?px17 ?px18 ?euq17 ?eukC17 ?euex17 ?euty17 ?eucl17 ?euga17 ?eugg17 ?euhd17 ?euca17 ?eusg17 ?eutk17 ?euob17 ?euq18 ?eukC18 ?euex18 ?euty18 ?eucl18 ?euga18 ?eugg18 ?euhd18 ?euca18 ?eusg18 ?eutk18 ?euob18 ?en19 ?en20 ?ekit ?ekin ?exMOST_RINGS ?exMOST_KNOT ?exMOST_LED ?exMOST_GOINGS ?zValueError ?zLookupError ?zRuntimeError ?zOverflowError ?zIndexError ?zKeyError ?zNotImplementedError ?zisinstance ?zlen ?zint ?zlist ?ztuple ?zbool ?zstr ?zall ?zzip ?zabs
    (case nB => k_is); (case lB => k_is); (case cB => k_is); (case kB => k_is)
    (case nT => k_is); (case lT => k_is); (case cT => k_is); (case kT => k_is)
    (case nP => k_is); (case lP => k_is); (case cP => k_is); (case kP => k_is)
    (case nG => k_is); (case lG => k_is); (case cG => k_is); (case kG => k_is)
    (case nA => k_is); (case lA => k_is); (case cA => k_is); (case kA => k_is)
    (case nY => k_is); (case lY => k_is); (case cY => k_is); (case kY => k_is)
    (case nN => k_is); (case lN => k_is); (case cN => k_is); (case kN => k_is)
    (case nS => k_is); (case lS => k_is); (case cS => k_is); (case kS => k_is)
    (case nLaw => k_is); (case lLaw => k_is); (case cLaw => k_is); (case kLaw => k_is)
    (case xx0ns => k_is); (case xx0iC => k_is); (case xx0tI => k_is); (case xx0l => k_is); (case xx0c => k_is); (case xx0kp => k_is); (case xx0ini => kx_is); (case xx0over => kx_is); (case xx0hdi => k_is); (case xx0sa => k_is); (case xx0exC => k_is); (case xx0tyC => k_is); (case xx0kC => k_is); (case xx0cl => k_is); (case xx0ga => k_is); (case xx0gg => k_is); (case xx0ca => k_is); (case xx0sg => k_is); (case xx0tk => k_is); (case xx0ob => k_is); (case xx0no => k_is); (case xx0vV => k_is)
    (case xx1ns => k_is); (case xx1iC => k_is); (case xx1tI => k_is); (case xx1l => k_is); (case xx1c => k_is); (case xx1kp => k_is); (case xx1ini => kx_is); (case xx1over => kx_is); (case xx1hdi => k_is); (case xx1sa => k_is); (case xx1exC => k_is); (case xx1tyC => k_is); (case xx1kC => k_is); (case xx1cl => k_is); (case xx1ga => k_is); (case xx1gg => k_is); (case xx1ca => k_is); (case xx1sg => k_is); (case xx1tk => k_is); (case xx1ob => k_is); (case xx1no => k_is); (case xx1vV => k_is)
    (case xx2ns => k_is); (case xx2iC => k_is); (case xx2tI => k_is); (case xx2l => k_is); (case xx2c => k_is); (case xx2kp => k_is); (case xx2ini => kx_is); (case xx2over => kx_is); (case xx2hdi => k_is); (case xx2sa => k_is); (case xx2exC => k_is); (case xx2tyC => k_is); (case xx2kC => k_is); (case xx2cl => k_is); (case xx2ga => k_is); (case xx2gg => k_is); (case xx2ca => k_is); (case xx2sg => k_is); (case xx2tk => k_is); (case xx2ob => k_is); (case xx2no => k_is); (case xx2vV => k_is)
    (case xx3ns => k_is); (case xx3iC => k_is); (case xx3tI => k_is); (case xx3l => k_is); (case xx3c => k_is); (case xx3kp => k_is); (case xx3ini => kx_is); (case xx3over => kx_is); (case xx3hdi => k_is); (case xx3sa => k_is); (case xx3exC => k_is); (case xx3tyC => k_is); (case xx3kC => k_is); (case xx3cl => k_is); (case xx3ga => k_is); (case xx3gg => k_is); (case xx3ca => k_is); (case xx3sg => k_is); (case xx3tk => k_is); (case xx3ob => k_is); (case xx3no => k_is); (case xx3vV => k_is)
    (case xx4ns => k_is); (case xx4iC => k_is); (case xx4tI => k_is); (case xx4l => k_is); (case xx4c => k_is); (case xx4kp => k_is); (case xx4ini => kx_is); (case xx4over => kx_is); (case xx4hdi => k_is); (case xx4sa => k_is); (case xx4exC => k_is); (case xx4tyC => k_is); (case xx4kC => k_is); (case xx4cl => k_is); (case xx4ga => k_is); (case xx4gg => k_is); (case xx4ca => k_is); (case xx4sg => k_is); (case xx4tk => k_is); (case xx4ob => k_is); (case xx4no => k_is); (case xx4vV => k_is)
    (case xx5ns => k_is); (case xx5iC => k_is); (case xx5tI => k_is); (case xx5l => k_is); (case xx5c => k_is); (case xx5kp => k_is); (case xx5ini => kx_is); (case xx5over => kx_is); (case xx5hdi => k_is); (case xx5sa => k_is); (case xx5exC => k_is); (case xx5tyC => k_is); (case xx5kC => k_is); (case xx5cl => k_is); (case xx5ga => k_is); (case xx5gg => k_is); (case xx5ca => k_is); (case xx5sg => k_is); (case xx5tk => k_is); (case xx5ob => k_is); (case xx5no => k_is); (case xx5vV => k_is)
    (case xx6ns => k_is); (case xx6iC => k_is); (case xx6tI => k_is); (case xx6l => k_is); (case xx6c => k_is); (case xx6kp => k_is); (case xx6ini => kx_is); (case xx6over => kx_is); (case xx6hdi => k_is); (case xx6sa => k_is); (case xx6exC => k_is); (case xx6tyC => k_is); (case xx6kC => k_is); (case xx6cl => k_is); (case xx6ga => k_is); (case xx6gg => k_is); (case xx6ca => k_is); (case xx6sg => k_is); (case xx6tk => k_is); (case xx6ob => k_is); (case xx6no => k_is); (case xx6vV => k_is)
    (case xx7ns => k_is); (case xx7iC => k_is); (case xx7tI => k_is); (case xx7l => k_is); (case xx7c => k_is); (case xx7kp => k_is); (case xx7ini => kx_is); (case xx7over => kx_is); (case xx7hdi => k_is); (case xx7sa => k_is); (case xx7exC => k_is); (case xx7tyC => k_is); (case xx7kC => k_is); (case xx7cl => k_is); (case xx7ga => k_is); (case xx7gg => k_is); (case xx7ca => k_is); (case xx7sg => k_is); (case xx7tk => k_is); (case xx7ob => k_is); (case xx7no => k_is); (case xx7vV => k_is)
    (case xx8ns => k_is); (case xx8iC => k_is); (case xx8tI => k_is); (case xx8l => k_is); (case xx8c => k_is); (case xx8kp => k_is); (case xx8ini => kx_is); (case xx8over => kx_is); (case xx8hdi => k_is); (case xx8sa => k_is); (case xx8exC => k_is); (case xx8tyC => k_is); (case xx8kC => k_is); (case xx8cl => k_is); (case xx8ga => k_is); (case xx8gg => k_is); (case xx8ca => k_is); (case xx8sg => k_is); (case xx8tk => k_is); (case xx8ob => k_is); (case xx8no => k_is); (case xx8vV => k_is)
    (case xx9ns => k_is); (case xx9iC => k_is); (case xx9tI => k_is); (case xx9l => k_is); (case xx9c => k_is); (case xx9kp => k_is); (case xx9ini => kx_is); (case xx9over => kx_is); (case xx9hdi => k_is); (case xx9sa => k_is); (case xx9exC => k_is); (case xx9tyC => k_is); (case xx9kC => k_is); (case xx9cl => k_is); (case xx9ga => k_is); (case xx9gg => k_is); (case xx9ca => k_is); (case xx9sg => k_is); (case xx9tk => k_is); (case xx9ob => k_is); (case xx9no => k_is); (case xx9vV => k_is)
    (case xx10ns => k_is); (case xx10iC => k_is); (case xx10tI => k_is); (case xx10l => k_is); (case xx10c => k_is); (case xx10kp => k_is); (case xx10ini => kx_is); (case xx10over => kx_is); (case xx10hdi => k_is); (case xx10sa => k_is); (case xx10exC => k_is); (case xx10tyC => k_is); (case xx10kC => k_is); (case xx10cl => k_is); (case xx10ga => k_is); (case xx10gg => k_is); (case xx10ca => k_is); (case xx10sg => k_is); (case xx10tk => k_is); (case xx10ob => k_is); (case xx10no => k_is); (case xx10vV => k_is)
    (case xx11ns => k_is); (case xx11iC => k_is); (case xx11tI => k_is); (case xx11l => k_is); (case xx11c => k_is); (case xx11kp => k_is); (case xx11ini => kx_is); (case xx11over => kx_is); (case xx11hdi => k_is); (case xx11sa => k_is); (case xx11exC => k_is); (case xx11tyC => k_is); (case xx11kC => k_is); (case xx11cl => k_is); (case xx11ga => k_is); (case xx11gg => k_is); (case xx11ca => k_is); (case xx11sg => k_is); (case xx11tk => k_is); (case xx11ob => k_is); (case xx11no => k_is); (case xx11vV => k_is)
    (case xx12ns => k_is); (case xx12iC => k_is); (case xx12tI => k_is); (case xx12l => k_is); (case xx12c => k_is); (case xx12kp => k_is); (case xx12ini => kx_is); (case xx12over => kx_is); (case xx12hdi => k_is); (case xx12sa => k_is); (case xx12exC => k_is); (case xx12tyC => k_is); (case xx12kC => k_is); (case xx12cl => k_is); (case xx12ga => k_is); (case xx12gg => k_is); (case xx12ca => k_is); (case xx12sg => k_is); (case xx12tk => k_is); (case xx12ob => k_is); (case xx12no => k_is); (case xx12vV => k_is)
    (case xx13ns => k_is); (case xx13iC => k_is); (case xx13tI => k_is); (case xx13l => k_is); (case xx13c => k_is); (case xx13kp => k_is); (case xx13ini => kx_is); (case xx13over => kx_is); (case xx13hdi => k_is); (case xx13sa => k_is); (case xx13exC => k_is); (case xx13tyC => k_is); (case xx13kC => k_is); (case xx13cl => k_is); (case xx13ga => k_is); (case xx13gg => k_is); (case xx13ca => k_is); (case xx13sg => k_is); (case xx13tk => k_is); (case xx13ob => k_is); (case xx13no => k_is); (case xx13vV => k_is)
    (case xx14ns => k_is); (case xx14iC => k_is); (case xx14tI => k_is); (case xx14l => k_is); (case xx14c => k_is); (case xx14kp => k_is); (case xx14ini => kx_is); (case xx14over => kx_is); (case xx14hdi => k_is); (case xx14sa => k_is); (case xx14exC => k_is); (case xx14tyC => k_is); (case xx14kC => k_is); (case xx14cl => k_is); (case xx14ga => k_is); (case xx14gg => k_is); (case xx14ca => k_is); (case xx14sg => k_is); (case xx14tk => k_is); (case xx14ob => k_is); (case xx14no => k_is); (case xx14vV => k_is)
    (case xx15ns => k_is); (case xx15iC => k_is); (case xx15tI => k_is); (case xx15l => k_is); (case xx15c => k_is); (case xx15kp => k_is); (case xx15ini => kx_is); (case xx15over => kx_is); (case xx15hdi => k_is); (case xx15sa => k_is); (case xx15exC => k_is); (case xx15tyC => k_is); (case xx15kC => k_is); (case xx15cl => k_is); (case xx15ga => k_is); (case xx15gg => k_is); (case xx15ca => k_is); (case xx15sg => k_is); (case xx15tk => k_is); (case xx15ob => k_is); (case xx15no => k_is); (case xx15vV => k_is)
    (case xx16ns => k_is); (case xx16iC => k_is); (case xx16tI => k_is); (case xx16l => k_is); (case xx16c => k_is); (case xx16kp => k_is); (case xx16ini => kx_is); (case xx16over => kx_is); (case xx16hdi => k_is); (case xx16sa => k_is); (case xx16exC => k_is); (case xx16tyC => k_is); (case xx16kC => k_is); (case xx16cl => k_is); (case xx16ga => k_is); (case xx16gg => k_is); (case xx16ca => k_is); (case xx16sg => k_is); (case xx16tk => k_is); (case xx16ob => k_is); (case xx16no => k_is); (case xx16vV => k_is)
    (case xx19ns => k_is); (case xx19iC => k_is); (case xx19tI => k_is); (case xx19l => k_is); (case xx19c => k_is); (case xx19kp => k_is); (case xx19ini => kx_is); (case xx19over => kx_is); (case xx19hdi => k_is); (case xx19sa => k_is); (case xx19exC => k_is); (case xx19tyC => k_is); (case xx19kC => k_is); (case xx19cl => k_is); (case xx19ga => k_is); (case xx19gg => k_is); (case xx19ca => k_is); (case xx19sg => k_is); (case xx19tk => k_is); (case xx19ob => k_is); (case xx19no => k_is); (case xx19vV => k_is)
    (case xx20ns => k_is); (case xx20iC => k_is); (case xx20tI => k_is); (case xx20l => k_is); (case xx20c => k_is); (case xx20kp => k_is); (case xx20ini => kx_is); (case xx20over => kx_is); (case xx20hdi => k_is); (case xx20sa => k_is); (case xx20exC => k_is); (case xx20tyC => k_is); (case xx20kC => k_is); (case xx20cl => k_is); (case xx20ga => k_is); (case xx20gg => k_is); (case xx20ca => k_is); (case xx20sg => k_is); (case xx20tk => k_is); (case xx20ob => k_is); (case xx20no => k_is); (case xx20vV => k_is)
    (case px17 => k_is)
    (case px18 => k_is)
    (case euq17 => kernel_rfl)
    (case eukC17 => k_is)
    (case euex17 => k_is)
    (case euty17 => k_is)
    (case eucl17 => k_is)
    (case euga17 => k_is)
    (case eugg17 => k_is)
    (case euhd17 => k_is)
    (case euca17 => k_is)
    (case eusg17 => k_is)
    (case eutk17 => k_is)
    (case euob17 => k_is)
    (case euq18 => kernel_rfl)
    (case eukC18 => k_is)
    (case euex18 => k_is)
    (case euty18 => k_is)
    (case eucl18 => k_is)
    (case euga18 => k_is)
    (case eugg18 => k_is)
    (case euhd18 => k_is)
    (case euca18 => k_is)
    (case eusg18 => k_is)
    (case eutk18 => k_is)
    (case euob18 => k_is)
    (case en19 => k_is)
    (case en20 => k_is)
    (case ekit => kernel_rfl)
    (case ekin => kernel_rfl)
    (case exMOST_RINGS => k_is)
    (case exMOST_KNOT => k_is)
    (case exMOST_LED => k_is)
    (case exMOST_GOINGS => k_is)
    (case zValueError => k_is)
    (case zLookupError => k_is)
    (case zRuntimeError => k_is)
    (case zOverflowError => k_is)
    (case zIndexError => k_is)
    (case zKeyError => k_is)
    (case zNotImplementedError => k_is)
    (case zisinstance => k_is)
    (case zlen => k_is)
    (case zint => k_is)
    (case zlist => k_is)
    (case ztuple => k_is)
    (case zbool => k_is)
    (case zstr => k_is)
    (case zall => k_is)
    (case zzip => k_is)
    (case zabs => k_is)
