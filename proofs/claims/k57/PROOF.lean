import PyProof.Rows.All
import Wide.All
import OpenK.AllK
import Wide.FinOn
import HandS.ForMost
import HandS.More
import HandS.Walk
import HandS.Codes
import HandS.Strs
import HandS.Style
import HandS.IsInst
import HandS.Zip
import HandS.TupSets
import KE.SortData
import KE.GoesEnum
import HandS.NoneIn
import HandS.TupAny
import HandS.DictComp
import HandS.ExcInit
import HandS.CallSlots
import KE.KExcInit
import KE.KExcIs
import KE.KTryMore
import HandS.WordsExc
import HandS.ExcOwn
import KE.DataFind
import KE.DataCmp
import HandS.Text
import PyProof.WalksMore
import HandS.Sort
import KE.KEqNest
import HandS.ListItems
import HandS.FStr
import HandS.Star
import KE.GoesMore
import KE.DataMinMax
import PySem.Challenge.RW_heapfriends_k57_told_otherwise
set_option Elab.async false
set_option linter.all false
set_option maxRecDepth 100000
set_option maxHeartbeats 4000000
namespace HF
open PySem PySem.Spec PyProof.Rows L2
/-! ### a box of draws: what is left of the great number, the seed, how many draws -/
def Bx (H : Hp) (p : Addr) (c : Int) : Prop := ∃ a b : Int, H p = some (.lst [.int a, .int b, .int c]) ∧ 0 ≤ a ∧ 0 ≤ b ∧ b < 2 ^ 40 ∧ 0 ≤ c
/-- all but what stands at p stays -/
def Oth (p : Addr) (H H' : Hp) : Prop := ∀ b x, H b = some x → b ≠ p → H' b = some x
theorem Oth.refl (p : Addr) (H : Hp) : Oth p H H := fun _ _ h _ => h
theorem Oth.trans {p : Addr} {H H1 H2 : Hp} (a : Oth p H H1) (b : Oth p H1 H2) : Oth p H H2 := fun c o h n => b c o (a c o h n) n
theorem Oth.of {p : Addr} {H H1 : Hp} (a : Same H H1) : Oth p H H1 := fun c o h _ => a c o h
theorem Oth.put {p : Addr} {H : Hp} {o : HO} : Oth p H (upd H p o) := fun c x h n => by
  rw [upd_ne n]
  exact h
theorem Oth.seq {K : PySem.W.Frag} {p a : Addr} {H H' : Hp} {xs : List V} (e : Oth p H H') (n : a ≠ p) (h : SqL K H a xs) : SqL K H' a xs := by
  rcases h with (h | ⟨o, h⟩) | h
  · exact .inl (.inl (e _ _ h n))
  · exact .inl (.inr ⟨o, e _ _ h n⟩)
  · exact .inr h
theorem same_upd {H : Hp} {p : Addr} {o : HO} (h : H p = none) : Same H (upd H p o) := fun b x e => by
  rw [upd_ne (ne_of_none e h)]
  exact e
theorem sameT {K : PySem.W.Frag} {a : Addr} {H H' : Hp} {xs : List V} (e : Same H H') (h : SqT K H a xs) : SqT K H' a xs := by
  rcases h with (h | ⟨o, h⟩) | h
  · exact .inl (.inl (e _ _ h))
  · exact .inl (.inr ⟨o, e _ _ h⟩)
  · exact .inr h
theorem fmod_in (a : Int) {m : Int} (h : 0 < m) : 0 ≤ a.fmod m ∧ a.fmod m < m := by
  rw [Int.fmod_eq_emod_of_nonneg _ (by omega)]
  exact ⟨Int.emod_nonneg _ (by omega), Int.emod_lt_of_pos _ h⟩
theorem b01 (b : Bool) : -(2 ^ 64) < (if b = true then 1 else 0 : Int) ∧ (if b = true then 1 else 0 : Int) < 2 ^ 64 := by cases b <;> decide
theorem nz {n : Int} (h : 0 < n) : n ≠ 0 := by omega
theorem fdiv_nn {a m : Int} (h0 : 0 ≤ a) (h : 0 < m) : 0 ≤ a.fdiv m := by
  rw [Int.fdiv_eq_ediv_of_nonneg _ (by omega)]
  exact Int.ediv_nonneg h0 (by omega)
/-! ### a draw -/
def spTake : Sp := fun vs H Q _ => ∃ (p : Addr) (m c : Int), vs = [.ref p, .int m] ∧ Bx H p c ∧ c < 2 ^ 40 ∧ 0 < m ∧ m < 1000000 ∧
  ∀ (r c' : Int) (o : HO), 0 ≤ r → r < m → c ≤ c' → c' ≤ c + 1 → Bx (upd H p o) p c' → Q (.int r) (upd H p o)
/-! ### a box -/
def spBox (K : PySem.W.Frag) : Sp := fun vs H Q _ => ∃ (a : Addr) (ns : List Int) (k : Nat), vs = [.ref a, .int k] ∧ SqL K H a (ns.map V.int) ∧ k ≤ 63 ∧
  ∀ (p : Addr) (o : HO), H p = none → Bx (upd H p o) p 0 → Q (.ref p) (upd H p o)
end HF
namespace HF
open PySem PySem.Spec PyProof.Rows L2
theorem Bx.ne {H : Hp} {p l : Addr} {c : Int} {o : HO} (h : Bx H p c) (n : p ≠ l) : Bx (upd H l o) p c := by
  obtain ⟨a, b, e, r⟩ := h
  exact ⟨a, b, by rw [upd_ne n]; exact e, r⟩
theorem Bx.new {H : Hp} {p l : Addr} {c : Int} (h : Bx H p c) (n : H l = none) : p ≠ l := by
  obtain ⟨a, b, e, r⟩ := h
  exact ne_of_none e n
theorem Bx.nn {H : Hp} {p : Addr} {c : Int} (h : Bx H p c) : 0 ≤ c := by
  obtain ⟨a, b, e, _, _, _, r⟩ := h
  exact r
theorem Oth.new {p l : Addr} {H H1 : Hp} {o : HO} (a : Oth p H H1) (n : H l = none) : Oth p H (upd H1 l o) := fun b x e np => by
  rw [upd_ne (ne_of_none e n)]
  exact a b x e np
def Sq (K : PySem.W.Frag) (H : Hp) (a : Addr) (xs : List V) : Prop := SqL K H a xs ∨ SqT K H a xs
theorem Oth.sqT {K : PySem.W.Frag} {p a : Addr} {H H' : Hp} {xs : List V} (e : Oth p H H') (n : a ≠ p) (h : SqT K H a xs) : SqT K H' a xs := by
  rcases h with (h | ⟨o, h⟩) | h
  · exact .inl (.inl (e _ _ h n))
  · exact .inl (.inr ⟨o, e _ _ h n⟩)
  · exact .inr h
theorem Oth.sq {K : PySem.W.Frag} {p a : Addr} {H H' : Hp} {xs : List V} (e : Oth p H H') (n : a ≠ p) (h : Sq K H a xs) : Sq K H' a xs := by
  rcases h with h | h
  · exact .inl (e.seq n h)
  · exact .inr (e.sqT n h)
theorem ins_perm {α : Type} (ys : List α) (x : α) (r : Nat) : (ys.take r ++ [x] ++ ys.drop r).Perm (ys ++ [x]) := by
  rw [List.append_assoc]
  refine (List.perm_append_comm_assoc _ _ _).trans ?_
  rw [List.take_append_drop]
  exact List.perm_append_comm
def spStrewn (K : PySem.W.Frag) : Sp := fun vs H Q _ => ∃ (p a : Addr) (c : Int) (xs : List V), vs = [.ref p, .ref a] ∧ Bx H p c ∧ c < 2 ^ 39 ∧ a ≠ p ∧ Sq K H a xs ∧ xs.length ≤ 1000 ∧
  ∀ (H' : Hp) (l : Addr) (ys : List V) (c' : Int), H l = none → Oth p H H' → H' l = some (.lst ys) → ys.Perm xs → Bx H' p c' → c ≤ c' → c' ≤ c + xs.length → Q (.ref l) H'
end HF
namespace HF
open PySem PySem.Spec PyProof.Rows L2
/-! ### names: texts of one to six letters -/
def Lt (l : List Nat) : Prop := ∀ c ∈ l, 97 ≤ c ∧ c ≤ 122
def Nm (z : Str) : Prop := 1 ≤ z.cps.toList.length ∧ z.cps.toList.length ≤ 6 ∧ Lt z.cps.toList
abbrev abc : Str := "abcdefghijklmnopqrstuvwxyz"
theorem abc_tl : abc.cps.toList = (List.range 26).map (97 + ·) := by decide +kernel
theorem abc_len : abc.length = 26 := by decide +kernel
theorem abc_at {r : Int} (h0 : 0 ≤ r) (h1 : r < 26) : ∃ c, atI abc.cps.toList r = some c ∧ 97 ≤ c ∧ c ≤ 122 := by
  obtain ⟨n, rfl⟩ := Int.eq_ofNat_of_zero_le h0
  have hn : n < 26 := by omega
  refine ⟨97 + n, atI_nat (j := n) ?_, by omega, by omega⟩
  rw [abc_tl, List.getElem?_map, List.getElem?_range hn]
  rfl
theorem cut5 (z : Str) : cutS z none (some 5) = ⟨(z.cps.toList.take 5).toArray⟩ := by
  unfold cutS
  rw [HT.sIx_none, show HT.sIx z.length z.length (some 5) = min 5 z.length from HT.sIx_nat _ _ 5, List.drop_zero, Nat.sub_zero]
  have e : z.length = z.cps.toList.length := by
    rw [Array.length_toList]
    rfl
  rw [e, Nat.min_comm, ← List.take_take, List.take_of_length_le (l := List.take 5 z.cps.toList) (by
    rw [List.length_take]
    omega)]
theorem join_one (cs : List Nat) : Txt.join "" (cs.map fun c => (⟨#[c]⟩ : Str)) = ⟨cs.toArray⟩ := by
  have h : ∀ l : List Nat, TL.joinL [] (l.map fun c => [c]) = l := by
    intro l
    induction l with
    | nil => rfl
    | cons a r ih =>
      cases r with
      | nil => rfl
      | cons b t =>
        show [a] ++ ([] ++ TL.joinL [] ((b :: t).map fun c => [c])) = a :: b :: t
        rw [ih]
        rfl
  have h2 := SX.join_S [] (cs.map fun c => [c])
  rw [h, List.map_map] at h2
  exact h2
theorem app_tl (a b : Str) : (a ++ b).cps.toList = a.cps.toList ++ b.cps.toList := by
  show (a.cps ++ b.cps).toList = _
  rw [Array.toList_append]
theorem Lt.take {l : List Nat} (h : Lt l) (n : Nat) : Lt (l.take n) := fun c hc => h c (List.mem_of_mem_take hc)
theorem Lt.snoc {l : List Nat} {c : Nat} (h : Lt l) (h1 : 97 ≤ c) (h2 : c ≤ 122) : Lt (l ++ [c]) := fun x hx => by
  rcases List.mem_append.mp hx with q | q
  · exact h x q
  · rw [List.mem_singleton.mp q]
    exact ⟨h1, h2⟩
def cand (z : Str) (c : Nat) : Str := cutS z none (some 5) ++ ⟨#[c]⟩
theorem cand_tl (z : Str) (c : Nat) : (cand z c).cps.toList = z.cps.toList.take 5 ++ [c] := by
  unfold cand
  rw [app_tl, cut5]
theorem cand_nm {z : Str} {c : Nat} (h : Nm z) (h1 : 97 ≤ c) (h2 : c ≤ 122) : Nm (cand z c) := by
  unfold Nm
  rw [cand_tl]
  refine ⟨?_, ?_, (h.2.2.take 5).snoc h1 h2⟩
  · rw [List.length_append]
    show 1 ≤ _ + 1
    omega
  · rw [List.length_append, List.length_take]
    show _ + 1 ≤ 6
    omega
theorem cand_inj {z : Str} {c d : Nat} (h : cand z c = cand z d) : c = d := by
  have e := congrArg (fun x : Str => x.cps.toList) h
  simp only [cand_tl] at e
  have e2 := List.append_cancel_left e
  exact (List.cons.inj e2).1
theorem str_len (z : Str) : z.length = z.cps.toList.length := by
  rw [Array.length_toList]
  rfl
/-- unlike ones among others are no more than these -/
theorem nodup_le {α : Type} [DecidableEq α] : ∀ (l m : List α), l.Nodup → (∀ x ∈ l, x ∈ m) → l.length ≤ m.length
  | [], _, _, _ => Nat.zero_le _
  | a :: r, m, hn, hs => by
    have hn2 := List.nodup_cons.mp hn
    have ha : a ∈ m := hs a (List.mem_cons_self)
    have hr : ∀ x ∈ r, x ∈ m.erase a := fun x hx => by
      have hne : x ≠ a := fun e => hn2.1 (e ▸ hx)
      exact (List.mem_erase_of_ne hne).mpr (hs x (List.mem_cons_of_mem _ hx))
    have := nodup_le r (m.erase a) hn2.2 hr
    rw [List.length_erase_of_mem ha] at this
    have hp : 0 < m.length := List.length_pos_of_mem ha
    show r.length + 1 ≤ m.length
    omega
/-- a name that isn't there yet, of these -/
def cands (z : Str) : List Str := z :: (List.range 26).map fun i => cand z (97 + i)
theorem cands_free (z : Str) (zs : List Str) (h : zs.length < 26) : ∃ y r, (cands z).filter (fun y => decide (y ∉ zs)) = y :: r ∧ y ∈ cands z ∧ y ∉ zs := by
  cases e : (cands z).filter (fun y => decide (y ∉ zs)) with
  | nil =>
    exfalso
    have hall : ∀ y ∈ (List.range 26).map (fun i => cand z (97 + i)), y ∈ zs := fun y hy => by
      have := List.filter_eq_nil_iff.mp e y (List.mem_cons_of_mem _ hy)
      simpa using this
    have hnd : ((List.range 26).map (fun i => cand z (97 + i))).Nodup := by
      refine List.pairwise_map.mpr ((List.nodup_range (n := 26)).imp fun hab q => hab ?_)
      have := cand_inj q
      omega
    have := nodup_le _ _ hnd hall
    rw [List.length_map, List.length_range] at this
    omega
  | cons y r =>
    have hm : y ∈ (cands z).filter (fun y => decide (y ∉ zs)) := by
      rw [e]
      exact List.mem_cons_self
    obtain ⟨h1, h2⟩ := List.mem_filter.mp hm
    exact ⟨y, r, rfl, h1, of_decide_eq_true h2⟩
theorem cands_nm {z y : Str} (h : Nm z) (hy : y ∈ cands z) : Nm y := by
  rcases List.mem_cons.mp hy with q | q
  · rw [q]
    exact h
  · obtain ⟨i, hi, rfl⟩ := List.mem_map.mp q
    have := List.mem_range.mp hi
    exact cand_nm h (by omega) (by omega)
end HF
namespace HF
open PySem PySem.Spec PyProof.Rows L2
theorem strs_all {xs : List Str} : (xs.map V.str).all flatV = true := by
  rw [List.all_eq_true]
  intro x hx
  obtain ⟨z, _, rfl⟩ := List.mem_map.mp hx
  rfl
theorem at3 {r : Int} (h0 : 0 ≤ r) (h1 : r < 3) : ∃ j : Nat, atI [V.int 1, V.int 6, V.int 2] r = some (V.int j) ∧ 1 ≤ j ∧ j ≤ 6 := by
  obtain ⟨n, rfl⟩ := Int.eq_ofNat_of_zero_le h0
  match n, h1 with
  | 0, _ => exact ⟨1, atI_nat (j := 0) rfl, by decide, by decide⟩
  | 1, _ => exact ⟨6, atI_nat (j := 1) rfl, by decide, by decide⟩
  | 2, _ => exact ⟨2, atI_nat (j := 2) rfl, by decide, by decide⟩
  | n + 3, h => omega
theorem lt_nil : Lt [] := fun _ h => nomatch h
theorem sz27 (nm : Str) : [V.str nm].length + (List.map V.str (List.map (fun x => cand nm (97 + x)) (List.range abc.cps.size))).length ≤ sizeLine := by
  rw [List.length_map, List.length_map, List.length_range]
  show 1 + abc.cps.size ≤ sizeLine
  decide +kernel
theorem inV_strs (y : Str) (zs : List Str) : inV (.str y) (zs.map V.str) = decide (y ∈ zs) := by
  unfold inV
  rw [List.any_map]
  by_cases h : y ∈ zs
  · rw [decide_eq_true h, List.any_eq_true]
    exact ⟨y, h, by simp [eqV]⟩
  · rw [decide_eq_false h, List.any_eq_false]
    intro z hz e
    have e2 : z = y := by simpa [eqV] using e
    exact h (e2 ▸ hz)
theorem Nm.ok {z : Str} (h : Nm z) : PyData.strOk z = true := by
  unfold PyData.strOk
  rw [← Array.all_toList, List.all_eq_true]
  intro c hc
  have := h.2.2 c hc
  simp
  omega
theorem canLay_strs : ∀ {zs : List Str}, (∀ z ∈ zs, Nm z) → PyData.canLayAll0 (zs.map PyData.str) = true
  | [], _ => rfl
  | z :: r, h => by
    show (PyData.strOk z && PyData.canLayAll0 (r.map PyData.str)) = true
    rw [(h z List.mem_cons_self).ok, canLay_strs fun y hy => h y (List.mem_cons_of_mem _ hy)]
    rfl
theorem depth_strs : ∀ zs : List Str, PyData.depthAll (zs.map PyData.str) = 0
  | [] => rfl
  | z :: r => by
    show max 0 (PyData.depthAll (r.map PyData.str)) = 0
    rw [depth_strs r]
    rfl
theorem shaped_strs {zs : List Str} (h : ∀ z ∈ zs, Nm z) : SeqAt.shaped (.list (zs.map PyData.str)) = true := by
  show (PyData.canLayAll0 (zs.map PyData.str) && decide (PyData.depthAll (zs.map PyData.str) + 1 ≤ 64)) = true
  rw [canLay_strs h, depth_strs]
  rfl
theorem dp_strs {K : PySem.W.Frag} {H : Hp} : ∀ zs : List Str, DpAll K H (zs.map V.str) (zs.map PyData.str)
  | [] => .nil
  | z :: r => .cons (.str z) (dp_strs r)
theorem ones_sum : ∀ cs : List Nat, ((cs.map fun c => (⟨#[c]⟩ : Str)).map (·.length)).sum = cs.length
  | [] => rfl
  | c :: r => by
    show 1 + ((r.map fun c => (⟨#[c]⟩ : Str)).map (·.length)).sum = r.length + 1
    rw [ones_sum r]
    omega
theorem Oth.none {p l : Addr} {H H1 : Hp} {c : Int} (a : Oth p H H1) (hb : Bx H1 p c) (n : H1 l = Option.none) : H l = Option.none := by
  cases e : H l with
  | none => rfl
  | some o =>
    have hl : l ≠ p := fun z => by
      subst z
      obtain ⟨x, y, e2, _⟩ := hb
      rw [e2] at n
      cases n
    rw [a l o e hl] at n
    cases n
def spNames (K : PySem.W.Frag) : Sp := fun vs H Q _ => ∃ (p : Addr) (c : Int) (n : Nat), vs = [.ref p, .int n] ∧ Bx H p c ∧ c < 2 ^ 39 ∧ n ≤ 20 ∧
  ∀ (H' : Hp) (l : Addr) (zs : List Str) (c' : Int), H l = none → Oth p H H' → H' l = some (.lst (zs.map V.str)) → zs.length = n → zs.Nodup → (∀ z ∈ zs, Nm z) → sortedS zs = true → Bx H' p c' → c ≤ c' → c' ≤ c + 10 * n → Q (.ref l) H'
end HF
/-! rules of my own over the hand layer -/
namespace HF
open PySem PySem.Spec PyProof.Rows L2
/-- a tuple whose object is known: a plain one -/
def Tp (H : Hp) (a : Addr) (xs : List V) : Prop := ∃ ob : Obj, H a = some (.frz ob (.tup xs)) ∧ ob.cls = .type "tuple" ∧ ob.dict = none
theorem Tp.sq {K : PySem.W.Frag} {H : Hp} {a : Addr} {xs : List V} (h : Tp H a xs) : SqT K H a xs := by
  obtain ⟨ob, e, _⟩ := h
  exact .inl (.inr ⟨ob, e⟩)
theorem Tp.oth {p a : Addr} {H H' : Hp} {xs : List V} (h : Tp H a xs) (o : Oth p H H') (n : a ≠ p) : Tp H' a xs := by
  obtain ⟨ob, e, r⟩ := h
  exact ⟨ob, o _ _ e n, r⟩
theorem Tp.same {a : Addr} {H H' : Hp} {xs : List V} (h : Tp H a xs) (o : Same H H') : Tp H' a xs := by
  obtain ⟨ob, e, r⟩ := h
  exact ⟨ob, o _ _ e, r⟩
section
variable {X : Cx}
theorem call_tupleF : CallR X (.type "tuple") (fun us H Q => ∃ p ys, us = [.ref p] ∧ SqL X.K H p ys ∧ ∀ l ob, H l = none → ob.cls = .type "tuple" → ob.dict = none → Q (.ref l) (upd H l (.frz ob (.tup ys)))) := by
  intro pins st σ H xs ws Q I rel hyp
  obtain ⟨p, ys, rfl, hq, q⟩ := hyp
  obtain ⟨wv, rfl, rw1⟩ := vals1 rel
  cases rw1
  obtain ⟨its, rI, isl, hsz⟩ := I.list hq
  have hle := rI.length
  refine call_tuple_list isl.isList (fun h1 kp1 => ?_) (by simp only [List.size_toArray] <;> omega)
  have J : Inv X pins σ H { st with heap := h1 } := I.kept (t' := st.toks) kp1
  let ob : Obj := { cls := .type "tuple", data := .seq its.toArray }
  have J2 : Inv X pins σ (upd H h1.objs.size (.frz ob (.tup ys))) { st with heap := h1.push ob } :=
    J.laid (t' := st.toks) (fun b o e => Heap.get?_push_of_some _ e) (Nat.le_refl _) ⟨Heap.get?_push_size _ rfl, hsz, its, rI, IsTup.new _ _⟩
  exact ⟨.ref h1.objs.size, _, J2, rfl, q _ ob (J.hok.fresh (Nat.le_refl _)) rfl rfl⟩
/-- a method of such a tuple, with arguments -/
def tTM (r : V → List V → Hp → VK → Prop) (tob : TE) (targs : TA) : TE := fun σ H Q => tob σ H fun x H1 => (∃ p ys, x = .ref p ∧ Tp H1 p ys) ∧ targs σ H1 fun xs H2 => r x xs H2 Q
theorem pe_bmT {ob e : Expr} {es : List Expr} {tob : TE} {targs : TA} {name : Str} {apos cpos : Pos} {id : String} {r : V → List V → Hp → VK → Prop} (slot : Slot "tuple" name id) (hty : typeOf (.builtin id) = pure (.type "method_descriptor")) (hm : MtR X id r) (ho : PE X ob tob) (ha : PA X (e :: es) targs)
    (hbase : attributeBase ob name X.env (eval ob X.env) = eval ob X.env := by rfl)
    (hfew : ((backTo cpos (starEach (e :: es) X.env)).all (fun x => !x.1) && (backToKw cpos (keywordEach [] X.env)).all (fun x => x.1.isSome) && decide ((e :: es).length + ([] : List Keyword).length + (if ([] : List Keyword).isEmpty then 0 else 1) < 30)) = true := by rfl)
    (hline : (apos.endLine == cpos.line) = true := by rfl) (hs : starEach (e :: es) X.env = (false, eval e X.env) :: starEach es X.env := by rfl) (hpl : (backTo cpos (starEach es X.env)).any (·.1) = false := by rfl) :
    PE X (.Call (.Attribute ob name apos) (e :: es) [] cpos) (tTM r tob targs) := by
  refine ⟨fun pins st σ H Q I hyp => wpAny_Call_method_late hbase hfew hline rfl (thn (ho.run pins st σ H _ I hyp) ?_)⟩
  rintro vv s1 ⟨x, H1, I1, r1, ⟨p, ys, rfl, od, e1, e2, e3⟩, q1⟩
  cases r1
  have hob : s1.heap.get? p = some od := (I1.hok p _ e1).1
  refine ⟨"tuple", id, PySem.F.plainAttrs_tuple, slot, hty, ⟨od, hob, e2⟩, fun a ea => by cases ea; exact ⟨od, hob, e3⟩, ?_⟩
  have run := ha.run cpos pins s1 σ H1 _ I1 q1
  rw [hs] at run ⊢
  exact Calls.callWith_builtin (by show (false || (backTo cpos (starEach es X.env)).any (·.1)) = false; rw [hpl] <;> rfl) (Calls.evalArgs_plain (thn run fun us s2 ⟨vs, H2, I2, r2, q2⟩ => hm pins s2 σ H2 (.ref p) vs (.ref p) us Q I2 rfl r2 q2))
/-- repr of data, where no repr is under way -/
theorem call_reprD (hg : X.A.guards = some []) (hu : X.A.units + 64 < cLine) : CallR X (.builtin "repr") (fun us H Q => ∃ (a : Addr) (d : PyData), us = [.ref a] ∧ Dp X.K H (.ref a) d ∧ d.showable = true ∧ d.hasDict = false ∧ d.depth < 60 ∧ d.shown.length ≤ sizeLine ∧ Q (.str d.shown) H) := by
  intro pins st σ H xs ws Q I rel hyp
  obtain ⟨a, d, rfl, hd, hs, hn, hdep, hz, q⟩ := hyp
  obtain ⟨wv, rfl, rw1⟩ := vals1 rel
  cases rw1
  obtain ⟨as, rd⟩ := Dp.reads I d (.ref a) (.ref a) hd rfl
  exact repr_of_reads' rd hs (fun z => by rw [hn] at z; cases z) hg (by omega) (fun _ _ e => e) (fun h1 u tk kp => ⟨.str _, H, I.kept (t' := tk) kp, ⟨u, rfl⟩, q⟩) hz
end
end HF
/-! defs that ask repr: their promise holds where no repr is under way -/
namespace HF
open PySem PySem.Spec PyProof.Rows L2
structure FnG (P : Program) (w : World) (K : PySem.W.Frag) (mg : Str → Option Value) (base : Heap) (CX : CXT) (k : Nat) (f : Addr) (fd : FuncData) (ps : List Str) (sp : Sp) : Prop where
  many : ∀ vs H Q E, sp vs H Q E → vs.length = ps.length
  goes : ∀ (A : Around) (outer : List Env) (st : Shared) (H : Hp) (args : Args) (us : List Value) (vs : List V) (Q : VK) (E : XK), A.guards = some [] → Room k A → Env0 P w K mg base A outer st H → BindsTo st fd args (ps.zip us) → Vals vs us → sp vs H Q E →
    codeAny (model P w) A (.call (.ref f) args) (CR CX outer P w H st Q E) st
theorem FnG.of {P : Program} {w : World} {K : PySem.W.Frag} {mg : Str → Option Value} {base : Heap} {CX : CXT} {k : Nat} {f : Addr} {fd : FuncData} {ps : List Str} {sp : Sp} (F : FnOk P w K mg base CX k f fd ps sp) : FnG P w K mg base CX k f fd ps sp :=
  ⟨F.len, fun A outer st H args us vs Q E _ => F.run A outer st H args us vs Q E⟩
section
variable {P : Program} {w : World} {K : PySem.W.Frag} {mg : Str → Option Value} {base : Heap}
theorem okG {x qual : Str} {st : Stmt} {f : Addr} {fd : FuncData} {N ps : List Str} {k : Nat} {sp : Sp} (F : Fun K x qual st f fd) (S : FnScope N ps (defScope st)) (len : ∀ vs H Q E, sp vs H Q E → vs.length = ps.length)
    (body : ∀ (cdv : Value) (A : Around) (outer : List Env) (t : Shared) (H : Hp) (vs : List V) (Q : VK) (E : XK), A.guards = some [] → Room k (A.deeper (envOfC qual (defScope st) t.heap.objs.size f cdv)) → sp vs H Q E →
      ∃ rd, PSs (cxOf CX0 P w K mg base N qual (defScope st) f cdv A outer t H E).nox (defBody st) rd ∧ rd { nx := fun _ H' => Q .non H', rt := Q } (start N vs) H) : FnG P w K mg base CX0 (k + 1) f fd ps sp := by
  obtain ⟨oc, od, kV, doc, pm, an, cdv, ct, osl, rfl, found, code⟩ := F.ex
  refine ⟨len, fun A outer t H args us vs Q E gd room env bd rel want => ?_⟩
  have many := len _ _ _ _ want
  have kin : K.In t.heap := env.mod.kin.keeps fun b o e => (env.bs b o e).1
  have lim : t.heap.NoLimit := env.mod.nolimit.keeps fun b o e => (env.bs b o e).1
  have kinds : ∀ y ∈ ps.zip us, (defScope st).names.lookup y.1 = some .local ∨ ((defScope st).names.lookup y.1 = some .cell ∧ ((cellsFrom (t.heap.objs.size + 1) (defScope st).names []).lookup y.1).isSome = true) := by
    rintro ⟨nm, v⟩ hy
    exact (S.par nm (List.of_mem_zip hy).1).imp id fun z => ⟨z, PySem.W.cellsFrom_some _ _ _ (.inl z)⟩
  refine codeAny_call_function room.depth (kin _ _ found) rfl S.co S.gen rfl (PySem.W.codeRec_of kin code) (bd _ _ _ _ (wpAny_newFunctionEnv_cells S.kind kinds ?_))
  rintro env1 rfl t1 inC
  refine ⟨lim.keeps inC.toInCall.keep, codeAny_func ?_⟩
  obtain ⟨rd, hps, hrd⟩ := body cdv A outer t H vs Q E gd (room.deeper _) want
  have J : Inv (cxOf CX0 P w K mg base N qual (defScope st) f cdv A outer t H E) [] (start N vs) H t1 := inv_start S room.hd env many rel inC
  refine wpAny_mono (hps.nox.run [] t1 (start N vs) H _ J hrd) (fun fl t2 res => ?_) fun _ _ z => z
  cases fl with
  | ret u =>
    obtain ⟨v, σ2, H2, J2, rv, q2⟩ := res
    exact ⟨v, H2, J2.os, J2.bare, J2.base, J2.hok, rv, q2⟩
  | next =>
    obtain ⟨σ2, H2, J2, q2⟩ := res
    exact ⟨.non, H2, J2.os, J2.bare, J2.base, J2.hok, rfl, q2⟩
  | brk => exact res.elim fun _ z => z.elim fun _ z => z.2.elim
  | cont => exact res.elim fun _ z => z.elim fun _ z => z.2.elim
end
section
variable {X : Cx} {CX : CXT} {k : Nat} {f : Addr} {fd : FuncData} {ps : List Str} {sp : Sp} {E : XK} {x : Str} {p pos : Pos} {e : Expr} {es : List Expr} {ts : TA}
theorem pe_callG (F : FnG X.prog X.w X.K X.mg X.base CX k f fd ps sp) (gd : X.A.guards = some []) (room : Room k X.A) (hgl : Gl X x) (hmg : X.mg x = some (.ref f)) (hkp : PySem.W.keepIn X.K (.ref f) = true) (hbd : Binds X.K fd ps []) (hps : Passes CX X E)
    (ha : PA X (e :: es) ts) (hdb : (x == ("__debug__" : Str)) = false := by decide) (hst : starEach (e :: es) X.env = (false, eval e X.env) :: starEach es X.env := by rfl) (hpl : (backTo pos (starEach es X.env)).any (·.1) = false := by rfl) :
    PE X (.Call (.Name x p) (e :: es) [] pos) (tCall sp [] E ts) := by
  refine ⟨fun pins st σ H Q I want => wpAny_Call_Name_kw (ld_glob I hgl hmg (PySem.W.callWith_K (h₀ := X.base) I.ok.mod.kin hkp (thn (ha.run pos pins st σ H _ I want) ?_) hst hpl) hdb)⟩
  rintro us s1 ⟨vs, H1, J, rel, q⟩
  rw [List.append_nil] at q
  have hl : us.length = ps.length := rel.length.symm.trans (F.many _ _ _ _ q)
  have bd := hbd s1 us J.kIn (by rw [List.append_nil]; exact hl)
  rw [List.append_nil] at bd
  refine ⟨J.kIn, wpAny_call (codeAny_mono (F.goes X.A X.stack s1 H1 ⟨us, []⟩ us vs Q E gd room J.env0 bd rel q) fun res s2 hq => ?_)⟩
  cases res with
  | error er => exact hps pins σ H1 s1 er s2 J hq
  | ok fl =>
    cases fl with
    | ret u => exact J.after hq
    | next => exact hq.elim
    | brk => exact hq.elim
    | cont => exact hq.elim
end
/-- the law's own call, from its promise where no repr is under way -/
theorem law_callG {P : Program} {w : World} {K : PySem.W.Frag} {mg mb : Str → Option Value} {k : Nat} {fa a : Addr} {fd : FuncData} {x : Str} {sp : Sp} {t : Shared} {us : List Value} {ns : List Int}
    (kin : K.In t.heap) (gl : t.heap.Ns mainGlobals mg) (bl : t.heap.Ns builtinsNs mb) (bb : ∀ y : Str, y ≠ "__name__" → mb y = bootBuiltins y) (lim : t.heap.NoLimit) (gens : t.gens = #[])
    (scr : t.heap.get? a = some { cls := .type "list", data := .seq us.toArray }) (nsv : IntsAre us ns) (few : ns.length ≤ sizeLine) (room : Room k callerA)
    (F : ∀ base : Heap, K.In base → base.Ns mainGlobals mg → FnG P w K mg base CX0 k fa fd [x] sp) (bd : ∀ (st : Shared) (u : Value), BindsTo st fd ⟨[u], []⟩ [(x, u)])
    (want : ∀ H : Hp, Only H → SqL K H a (ns.map V.int) → sp [.ref a] H (fun v _ => v = .bl true) fun _ _ _ => False) :
    codeAny (model P w) callerA (.call (.ref fa) ⟨[.ref a], []⟩) (fun r t' => r = .ok (.ret (.bool true)) ∧ OldK t.heap t'.heap ∧ t'.os = t.os ∧ AllBare t'.gens) t := by
  have rel := vals_ints nsv
  have main : ∀ H : Hp, Only H → SqL K H a (ns.map V.int) → HOk P w H t.heap → (∀ b, H b ≠ none → b = a ∧ K.lookup a = none) →
      codeAny (model P w) callerA (.call (.ref fa) ⟨[.ref a], []⟩) (fun r t' => r = .ok (.ret (.bool true)) ∧ OldK t.heap t'.heap ∧ t'.os = t.os ∧ AllBare t'.gens) t := by
    intro H only seq ok alone
    have none_of : ∀ b, (b = a → K.lookup a ≠ none) → H b = none := fun b h => by
      cases e : H b with
      | none => rfl
      | some u =>
        have z := alone b (by rw [e]; simp)
        exact absurd z.2 (h z.1)
    have spaces : ∀ {b : Addr} {m : Str → Option Value}, t.heap.Ns b m → (hidT t.heap H).Ns b m := by
      rintro b m ⟨o, es, ep, e, d, r⟩
      refine ⟨o, es, ep, hidT_get e ?_, d, r⟩
      cases e2 : H b with
      | none => rfl
      | some u =>
        have z := (alone b (by rw [e2]; simp)).1
        subst z
        rw [scr] at e
        cases e
        exact nomatch (show Data.seq us.toArray _ = Data.dict es ep from d)
    have kin2 : K.In (hidT t.heap H) := fun b o e => hidT_get (kin b o e) (none_of b fun z => by rw [← z, e]; simp)
    obtain ⟨mc, c1, c2⟩ := lim
    have env : Env0 P w K mg (hidT t.heap H) callerA [] t H :=
      ⟨rfl, ⟨kin2, spaces gl, ⟨mb, spaces bl, bb⟩, ⟨mc, spaces c1, c2⟩⟩, fun b o e => of_hidT e, Nat.le_of_eq (hidT_size _ _), trivial, fun b hb => absurd (show b ∈ ([] : List Addr) from hb) (by simp), ok, .of_eq gens⟩
    refine codeAny_mono ((F _ kin2 (spaces gl)).goes callerA [] t H ⟨[.ref a], []⟩ [.ref a] [.ref a] _ _ rfl room env (bd t (.ref a)) (.cons rfl .nil) (want H only seq)) fun res t2 h => ?_
    cases res with
    | error er => exact h.elim
    | ok fl =>
      cases fl with
      | next => exact h.elim
      | brk => exact h.elim
      | cont => exact h.elim
      | ret u =>
        obtain ⟨v, H2, os, bare, un, ok2, rv, q⟩ := h
        cases (show v = .bl true from q)
        cases (show u = Value.bool true from rv)
        refine ⟨rfl, OldK.of_keep fun b o e => ?_, os, bare⟩
        cases e2 : H b with
        | none => exact un.keep b o e e2 (fun z => absurd (show b ∈ ([] : List Addr) from z) (by simp)) (by simp)
        | some u =>
          rcases only b with z | ⟨ob, xs, z⟩
          · rw [e2] at z
            cases z
          · have o1 := (ok b _ z).1
            have o2 := (ok2 b _ (un.frzs b ob _ z)).1
            rw [e] at o1
            cases o1
            exact o2
  cases there : K.lookup a with
  | some o =>
    have e := kin a o there
    rw [scr] at e
    cases e
    exact main (fun _ => none) (fun _ => .inl rfl) (.inr ⟨_, us.toArray, _, there, rfl, rfl, rfl, by rw [List.size_toArray, nsv.length]; exact few, by simpa using rel⟩) (fun b u z => nomatch (show (none : Option HO) = some u from z)) (fun b z => absurd rfl z)
  | none =>
    refine main (upd (fun _ => none) a (.frz { cls := .type "list", data := .seq us.toArray } (.lst (ns.map V.int)))) (fun b => ?_) (.inl (.inr ⟨_, upd_same⟩)) (fun b u z => ?_) (fun b z => ?_)
    · by_cases hb : b = a
      · rw [hb]
        exact .inr ⟨_, _, upd_same⟩
      · exact .inl (upd_ne hb)
    · by_cases hb : b = a
      · subst hb
        rw [upd_same] at z
        cases z
        exact ⟨scr, by rw [List.length_map]; exact few, us, _, rel, scr⟩
      · rw [upd_ne hb] at z
        cases z
    · by_cases hb : b = a
      · exact ⟨hb, there⟩
      · exact absurd (upd_ne hb) z
theorem walkG {l : PySem.W.OpenLaw} {n k : Nat} {q : Program} {loose : List Str} {XP : (Str → Option Value) → Heap → Prop} {YP : World → Heap → Prop} {d : DefRec} {K : Params → PySem.W.Frag} {sp : PySem.W.Frag → Sp} {x : Str}
    (most : l.most = some n) (few : n ≤ sizeLine) (nodef : d.params.defaults = []) (room : Room k callerA) (top : ∀ (w : World) (h : Heap), YP w h → (K w.params).In h)
    (F : ∀ (w : World) (mg : Str → Option Value) (fa : Addr) (h : Heap), (K w.params).In h → h.Ns mainGlobals mg → mg d.name = some (.ref fa) →
      ∃ fd : FuncData, (∀ (st : Shared) (u : Value), BindsTo st fd ⟨[u], []⟩ [(x, u)]) ∧ ∀ base : Heap, (K w.params).In base → base.Ns mainGlobals mg → FnG l.prog w (K w.params) mg base CX0 k fa fd [x] (sp (K w.params)))
    (want : ∀ (K : PySem.W.Frag) (H : Hp) (a : Addr) (ns : List Int), ns.length ≤ n → Only H → SqL K H a (ns.map V.int) → sp K [.ref a] H (fun v _ => v = .bl true) fun _ _ _ => False) :
    PySem.W.WalkO q loose XP YP l.row.toRowW d [] (fun f vs => PySem.call f vs) := by
  refine Att.attach_call most nodef fun w s0 t mg mb fa o pm cd doc a us ns G Y _ _ _ hmg scr nsv hlen gens => ?_
  obtain ⟨fd, bd, hF⟩ := F w mg fa _ (top w _ Y) G.T.g hmg
  exact law_callG (top w _ Y) G.T.g G.T.b G.T.builtins G.T.nolimit gens scr nsv (Nat.le_trans hlen few) room hF bd fun H only seq => want _ H a ns hlen only seq
end HF
namespace HF
open PySem PySem.Spec PyProof.Rows L2
/-! ### places -/
def pos (x : Str) : List Str → Nat
  | [] => 0
  | z :: r => if z = x then 0 else pos x r + 1
theorem pos_get {x : Str} : ∀ {zs : List Str}, x ∈ zs → zs[pos x zs]? = some x
  | z :: r, h => by
    unfold pos
    by_cases e : z = x
    · rw [if_pos e, e]
      rfl
    · rw [if_neg e, List.getElem?_cons_succ]
      exact pos_get ((List.mem_cons.mp h).resolve_left fun q => e q.symm)
theorem pos_first {x : Str} : ∀ {zs : List Str} {m : Nat}, m < pos x zs → zs[m]? ≠ some x
  | [], m, h => by simp
  | z :: r, m, h => by
    unfold pos at h
    by_cases e : z = x
    · rw [if_pos e] at h
      omega
    · rw [if_neg e] at h
      cases m with
      | zero =>
        intro q
        exact e (Option.some.inj q)
      | succ m =>
        rw [List.getElem?_cons_succ]
        exact pos_first (by omega)
theorem pos_inj {x y : Str} {zs : List Str} (hx : x ∈ zs) (hy : y ∈ zs) (h : pos x zs = pos y zs) : x = y := by
  have h1 := pos_get hx
  rw [h, pos_get hy] at h1
  exact (Option.some.inj h1).symm
def Hq (K : PySem.W.Frag) (H : Hp) (a : Addr) (zs : List Str) : Prop := SqL K H a (zs.map V.str) ∨ Tp H a (zs.map V.str)
theorem Hq.same {K : PySem.W.Frag} {a : Addr} {H H' : Hp} {zs : List Str} (h : Hq K H a zs) (o : Same H H') : Hq K H' a zs := h.imp (fun z => o.seq z) fun z => z.same o
theorem sameQ {K : PySem.W.Frag} {a : Addr} {H H' : Hp} {xs : List V} (o : Same H H') (h : Sq K H a xs) : Sq K H' a xs := h.imp (fun z => o.seq z) fun z => sameT o z
theorem strs_at {zs : List Str} {i : Nat} {z : Str} (h : zs[i]? = some z) : (zs.map V.str)[i]? = some (.str z) := by
  rw [List.getElem?_map, h]
  rfl
theorem strs_first {zs : List Str} {x : Str} : ∀ (m : Nat) (z : V), m < pos x zs → (zs.map V.str)[m]? = some z → eqV z (.str x) = false := by
  intro m z hm hz
  rw [List.getElem?_map] at hz
  obtain ⟨y, hy, rfl⟩ := Option.map_eq_some_iff.mp hz
  have hne : y ≠ x := fun e => pos_first hm (e ▸ hy)
  simpa [eqV] using hne
def spLies (K : PySem.W.Frag) : Sp := fun vs H Q _ => ∃ (a : Addr) (zs : List Str) (x y : Str), vs = [.ref a, .str x, .str y] ∧ Hq K H a zs ∧ x ∈ zs ∧ y ∈ zs ∧ Q (.bl (decide ((pos x zs : Int) < (pos y zs : Int)))) H
/-! ### the program's pairs round a ring, and how many go up -/
def TsAt (H : Hp) (ts : List Addr) (ps : List (V × V)) : Prop := ∀ (i : Nat) (t : Addr) (q : V × V), ts[i]? = some t → ps[i]? = some q → H t = some (.tup [q.1, q.2])
theorem prev_at {ms : List V} {y : V} {i : Nat} (hi : i < (ms ++ [y]).length) : ∃ u v, atI (ms ++ [y]) ((0 + (i : Int)) - 1) = some u ∧ atI (ms ++ [y]) (0 + (i : Int)) = some v ∧ ((y :: (ms ++ [y])).zip (ms ++ [y]))[i]? = some (u, v) := by
  have hv : (ms ++ [y])[i]? = some (ms ++ [y])[i] := List.getElem?_eq_getElem hi
  have h2 : atI (ms ++ [y]) (0 + (i : Int)) = some (ms ++ [y])[i] := by
    rw [Int.zero_add]
    exact atI_nat hv
  cases i with
  | zero =>
    refine ⟨y, _, ?_, h2, ?_⟩
    · exact atI_last ms y
    · rw [List.getElem?_zip_eq_some]
      exact ⟨rfl, hv⟩
  | succ j =>
    have hj : j < (ms ++ [y]).length := by omega
    have hu : (ms ++ [y])[j]? = some (ms ++ [y])[j] := List.getElem?_eq_getElem hj
    refine ⟨(ms ++ [y])[j], _, ?_, h2, ?_⟩
    · rw [show (0 + ((j + 1 : Nat) : Int)) - 1 = (j : Int) by omega]
      exact atI_nat hu
    · rw [List.getElem?_zip_eq_some]
      exact ⟨hu, hv⟩
def up (zs : List Str) (q : Str × Str) : Bool := decide ((pos q.2 zs : Int) < (pos q.1 zs : Int))
def num (zs : List Str) (ps : List (Str × Str)) : Nat := (ps.filter (up zs)).length
def spRt (K : PySem.W.Frag) : Sp := fun vs H Q _ => ∃ (a : Addr) (ms : List V) (y : V), vs = [.ref a] ∧ Sq K H a (ms ++ [y]) ∧ ms.length ≤ 1000 ∧
  ∀ (H' : Hp) (D : Addr) (ts : List Addr), Same H H' → H D = none → H' D = some (.lst (ts.map V.ref)) → ts.length = (ms ++ [y]).length → TsAt H' ts ((y :: (ms ++ [y])).zip (ms ++ [y])) → Q (.ref D) H'
def spRn (K : PySem.W.Frag) : Sp := fun vs H Q _ => ∃ (h a : Addr) (zs ms : List Str) (y : Str), vs = [.ref h, .ref a] ∧ Hq K H h zs ∧ Sq K H a ((ms ++ [y]).map V.str) ∧ (∀ x ∈ ms ++ [y], x ∈ zs) ∧ ms.length ≤ 1000 ∧
  ∀ H' : Hp, Same H H' → Q (.int (num zs ((y :: (ms ++ [y])).zip (ms ++ [y])) : Nat)) H'
def spNum (K : PySem.W.Frag) : Sp := fun vs H Q _ => ∃ (h a : Addr) (zs ls : List Str), vs = [.ref h, .ref a] ∧ Hq K H h zs ∧ SqL K H a (ls.map V.str) ∧ (∀ x ∈ ls, x ∈ zs) ∧ ls.length ≤ 1000 ∧ 1 ≤ ls.length ∧
  ∀ H' : Hp, Same H H' → Q (.int (num zs (ls.zip (ls.drop 1 ++ ls.take 1)) : Nat)) H'
theorem cutTo1 (xs : List V) : cutV xs none (some 1) = xs.take 1 := by
  unfold cutV
  rw [HT.sIx_none, show HT.sIx xs.length xs.length (some 1) = min 1 xs.length from HT.sIx_nat _ _ 1, List.drop_zero, Nat.sub_zero]
  cases xs with
  | nil => rfl
  | cons x r => rw [show min 1 (x :: r).length = 1 by rw [List.length_cons]; omega]
theorem cutFrom1 (xs : List V) : cutV xs (some 1) none = xs.drop 1 := by
  unfold cutV
  rw [show HT.sIx xs.length 0 (some 1) = min 1 xs.length from HT.sIx_nat xs.length 0 1, HT.sIx_none]
  cases xs with
  | nil => rfl
  | cons x r =>
    rw [show min 1 (x :: r).length = 1 by rw [List.length_cons]; omega]
    exact List.take_of_length_le (Nat.le_refl _)
end HF
namespace HF
open PySem PySem.Spec PyProof.Rows L2
/-- what is strewn of texts is texts -/
def strOf : V → Str
  | .str z => z
  | _ => ""
theorem perm_strs {ys : List V} {zs : List Str} (h : ys.Perm (zs.map V.str)) : ∃ xs : List Str, ys = xs.map V.str ∧ xs.Perm zs := by
  refine ⟨ys.map strOf, ?_, ?_⟩
  · rw [List.map_map]
    have e : ∀ y ∈ ys, (V.str ∘ strOf) y = y := fun y hy => by
      obtain ⟨z, _, rfl⟩ := List.mem_map.mp (h.mem_iff.mp hy)
      rfl
    rw [List.map_congr_left e, List.map_id']
  · have h2 := h.map strOf
    rw [List.map_map] at h2
    have e : zs.map (strOf ∘ V.str) = zs := by
      rw [show strOf ∘ V.str = id from rfl, List.map_id]
    rw [e] at h2
    exact h2
def spHeap : Sp := fun vs H Q _ => ∃ (p : Addr) (c : Int) (m n : Nat), vs = [.ref p, .int m, .int n] ∧ Bx H p c ∧ c < 2 ^ 38 ∧ m ≤ n ∧ n ≤ 20 ∧
  ∀ (H' : Hp) (t : Addr) (zs : List Str) (c' : Int), H t = none → Oth p H H' → Tp H' t (zs.map V.str) → m ≤ zs.length → zs.length ≤ n → zs.Nodup → (∀ z ∈ zs, Nm z) → Bx H' p c' → c ≤ c' → c' ≤ c + 300 → Q (.ref t) H'
end HF
namespace HF
open PySem PySem.Spec PyProof.Rows L2
theorem ty_list {K : PySem.W.Frag} {H : Hp} {a : Addr} {xs : List V} (h : SqL K H a xs) : TyX K H (.ref a) (.type "list") := by
  rcases h with (h | ⟨o, h⟩) | ⟨o, its, n, h, c, _⟩
  · exact .base (.lst h)
  · exact .base (.frz h)
  · exact .kList h c
theorem ty_tup {K : PySem.W.Frag} {H : Hp} {a : Addr} {xs : List V} (h : SqT K H a xs) : TyX K H (.ref a) (.type "tuple") := by
  rcases h with (h | ⟨o, h⟩) | ⟨o, its, n, h, c, _⟩
  · exact .base (.tup h)
  · exact .fTuple h
  · exact .kTuple h c
theorem any2 {K : PySem.W.Frag} {t a b : String} {r1 r2 : Bool} (h1 : kitB t a = some r1) (h2 : kitB t b = some r2) : PySem.W.kitAny K (.type t) [.type a, .type b] = some (r1 || r2) := by
  refine kitAny_cons (kit_ty h1) (fun e => kitAny_cons (kit_ty h2) (fun e2 => ?_) fun e2 => ?_) fun e => ?_
  · rw [e, e2]
    rfl
  · rw [e, e2]
    rfl
  · rw [e]
    rfl
theorem two_cls {a b : String} : Paired ClsV [V.ty a, V.ty b] [Value.type a, Value.type b] := .cons (.ty a) (.cons (.ty b) .nil)
theorem walk_zipT {K : PySem.W.Frag} {a b : Addr} {xs ys : List V} {n : Nat} (hx : xs.length = n) (hy : ys.length = n) : Walk (RZ.ItzT K a b) n (fun H => SqT K H a xs ∧ SqT K H b ys) (YPair (fun i => xs[i]?) (fun i => ys[i]?)) := by
  refine ⟨fun i H hi q => ⟨xs, ys, xs[i]'(by omega), ys[i]'(by omega), q.1, q.2, List.getElem?_eq_getElem _, List.getElem?_eq_getElem _⟩, fun H q => ⟨xs, ys, q.1, q.2, .inl (by omega)⟩, ?_⟩
  rintro i H x H' hi q ⟨T, u, v, e1, e2, e3, h1, h2⟩
  exact ⟨T, u, v, e1, e2, e3, h1 xs q.1, h2 ys q.2⟩
theorem dpAll_len {K : PySem.W.Frag} {H : Hp} : ∀ {xs : List V} {ds : List PyData}, DpAll K H xs ds → xs.length = ds.length
  | _, _, .nil => rfl
  | _, _, .cons _ t => by
    show _ + 1 = _ + 1
    rw [dpAll_len t]
theorem dpAll_at {K : PySem.W.Frag} {H : Hp} : ∀ {xs : List V} {ds : List PyData} {i : Nat} {x : V}, DpAll K H xs ds → xs[i]? = some x → ∃ d, ds[i]? = some d ∧ Dp K H x d
  | _, _, _, _, .nil, e => by simp at e
  | _, _, 0, _, .cons h _, e => by
    cases (show some _ = some _ from e)
    exact ⟨_, rfl, h⟩
  | _, _, i + 1, _, .cons _ t, e => dpAll_at (i := i) t (by simpa using e)
mutual
theorem Dp.up {K : PySem.W.Frag} {H H' : Hp} (sm : Same H H') : ∀ {v : V} {d : PyData}, Dp K H v d → Dp K H' v d
  | _, _, .non => .non
  | _, _, .bl b => .bl b
  | _, _, .int i => .int i
  | _, _, .str x => .str x
  | _, _, .lst h t => .lst (sm.seq h) (DpAll.up sm t)
  | _, _, .tup h t => .tup (sameT sm h) (DpAll.up sm t)
theorem DpAll.up {K : PySem.W.Frag} {H H' : Hp} (sm : Same H H') : ∀ {vs : List V} {ds : List PyData}, DpAll K H vs ds → DpAll K H' vs ds
  | _, _, .nil => .nil
  | _, _, .cons h t => .cons (Dp.up sm h) (DpAll.up sm t)
end
theorem all_at {ds : List PyData} : ∀ {i : Nat} {d : PyData}, ds[i]? = some d → PyData.canLayAll0 ds = true → PyData.canLay0 d = true ∧ PyData.depth d ≤ PyData.depthAll ds := by
  induction ds with
  | nil => intro i d h; simp at h
  | cons x r ih =>
    intro i d h c
    have c2 : (PyData.canLay0 x && PyData.canLayAll0 r) = true := c
    rw [Bool.and_eq_true] at c2
    have e : PyData.depthAll (x :: r) = max (PyData.depth x) (PyData.depthAll r) := rfl
    cases i with
    | zero =>
      cases (show some x = some d from h)
      exact ⟨c2.1, by rw [e]; omega⟩
    | succ i =>
      have := ih (show r[i]? = some d from h) c2.2
      exact ⟨this.1, by rw [e]; omega⟩
mutual
def wide : PyData → Nat
  | .list xs => max xs.length (wideAll xs)
  | .tuple xs => max xs.length (wideAll xs)
  | _ => 0
def wideAll : List PyData → Nat
  | [] => 0
  | x :: r => max (wide x) (wideAll r)
end
theorem wide_at {ds : List PyData} : ∀ {i : Nat} {d : PyData}, ds[i]? = some d → wide d ≤ wideAll ds := by
  induction ds with
  | nil => intro i d h; simp at h
  | cons x r ih =>
    intro i d h
    have e : wideAll (x :: r) = max (wide x) (wideAll r) := rfl
    cases i with
    | zero =>
      cases (show some x = some d from h)
      omega
    | succ i =>
      have := ih (show r[i]? = some d from h)
      omega
theorem trues {bs : List Bool} (h : ∀ b ∈ bs, b = true) : bs.all id = true := List.all_eq_true.mpr fun b hb => h b hb
def spSame (K : PySem.W.Frag) (n : Nat) : Sp := fun vs H Q _ => ∃ (x y : V) (d : PyData), vs = [x, y] ∧ Dp K H x d ∧ Dp K H y d ∧ d.canLay0 = true ∧ d.depth ≤ n ∧ d.depth ≤ 60 ∧ wide d ≤ 100000 ∧ ∀ H' : Hp, Same H H' → Q (.bl true) H'
end HF
namespace HF
open PySem PySem.Spec PyProof.Rows L2
/-! ### f(k = v, ..) without a value by place -/
section
variable {X : Cx} {CX : CXT} {k : Nat} {f : Addr} {fd : FuncData} {ps ks : List Str} {sp : Sp} {E : XK} {x : Str} {p pos : Pos} {kws : List Keyword} {tk : TA} {g : List Value → List Value → List Value} {gV : List V → List V → List V}
def tKw (sp : Sp) (gV : List V → List V → List V) (E : XK) (tk : TA) : TE := fun σ H Q => tk σ H fun zs H2 => sp (gV [] zs) H2 Q E
theorem pe_callK0 (F : FnOk X.prog X.w X.K X.mg X.base CX k f fd ps sp) (room : Room k X.A) (hgl : Gl X x) (hmg : X.mg x = some (.ref f)) (hkp : PySem.W.keepIn X.K (.ref f) = true) (hbd : KBinds X.K fd ps ks g gV) (hps : Passes CX X E) (hkw : PK X kws tk)
    (hall : (backToKw pos (keywordEach kws X.env)).all (·.1.isSome) = true := by rfl) (hks : (backToKw pos (keywordEach kws X.env)).filterMap (·.1) = ks := by rfl) (hdb : (x == ("__debug__" : Str)) = false := by decide)
    (hpl : ((backTo pos (starEach [] X.env)).any (·.1) || (backToKw pos (keywordEach kws X.env)).any (·.1.isNone)) = false := by rfl) :
    PE X (.Call (.Name x p) [] kws pos) (tKw sp gV E tk) := by
  refine ⟨fun pins st σ H Q I want => wpAny_Call_Name_kw (ld_glob I hgl hmg (PySem.W.callWith_KW0 (h₀ := X.base) I.ok.mod.kin hkp hall (thn (hkw.run pos pins st σ H _ I want) ?_) hpl) hdb)⟩
  rintro ws s2 ⟨zs, H2, J, rz, q⟩
  refine ⟨J.kIn, ?_⟩
  rw [hks]
  exact run_fnk F room hbd hps J .nil rz q
end
/-- two values by name, the second parameter's ahead -/
def g21 {α : Type} : List α → List α → List α
  | [], [r, h] => [h, r]
  | _, _ => []
theorem g21_rel {vs : List V} {us : List Value} {zs : List V} {ws : List Value} (h1 : Vals vs us) (h2 : Vals zs ws) : Vals (g21 vs zs) (g21 us ws) := by
  cases h1 with
  | cons _ _ => cases h2 <;> exact .nil
  | nil =>
    cases h2 with
    | nil => exact .nil
    | cons a t =>
      cases t with
      | nil => exact .nil
      | cons b t2 =>
        cases t2 with
        | nil => exact .cons b (.cons a .nil)
        | cons _ _ => exact .nil
/-! ### t[::-1] of a tuple -/
section
variable {prog : Program} {w : World} {A : Around} {E : Value → Shared → Prop} {s : Shared}
theorem sliceApplied_back {sl : Addr} {vs : Value} {n : Nat} {Q : Int × Int × Nat → Shared → Prop} (hs : s.heap.IsSliceOf sl .none .none vs) (pst : IsPart vs (some (-1)))
    (h : Q ((n : Int) - 1, -1, n) s) : wpAny (model prog w) A (Builtin.Slice.sliceApplied (.ref sl) (pure (n : Int))) Q E s := by
  obtain ⟨ob, h1, h2, h3⟩ := id hs
  unfold Builtin.Slice.sliceApplied Builtin.Slice.sliceFields
  refine wpAny_bind (wpAny_bind (wpAny_field h1 h3 (x := .none) rfl (wpAny_bind (wpAny_field h1 h3 (x := .none) rfl (wpAny_bind (wpAny_field h1 h3 (x := vs) rfl (wpAny_pure ?_)))))))
  refine wpAny_bind (HT.slicePart_ pst ?_)
  show wpAny _ _ (if ((-1 : Int) == 0) = true then _ else _) _ _ s
  rw [if_neg (by decide)]
  refine wpAny_bind (HT.slicePart_ .none (wpAny_bind (HT.slicePart_ .none (wpAny_bind (wpAny_pure ?_)))))
  have e1 : Builtin.Slice.sliceAdjust none none (-1) (n : Int) = ((n : Int) - 1, -1) := rfl
  have e2 : Builtin.Slice.slicePlaces ((n : Int) - 1) (-1) (-1) = n := by
    unfold Builtin.Slice.slicePlaces
    rw [if_neg (by decide), show (- -1 : Int) = 1 by decide, Int.ediv_one]
    split <;> omega
  show wpAny _ _ (match Builtin.Slice.sliceAdjust none none (-1) (n : Int) with | (lo, hi) => pure (lo, (-1 : Int), Builtin.Slice.slicePlaces lo hi (-1))) _ _ s
  rw [e1]
  show wpAny _ _ (pure ((n : Int) - 1, (-1 : Int), Builtin.Slice.slicePlaces ((n : Int) - 1) (-1) (-1))) _ _ s
  rw [e2]
  exact wpAny_pure h
theorem fm_congr {α β : Type} {f g : α → Option β} : ∀ {l : List α}, (∀ x ∈ l, f x = g x) → l.filterMap f = l.filterMap g
  | [], _ => rfl
  | a :: r, h => by
    rw [List.filterMap_cons, List.filterMap_cons, h a List.mem_cons_self, fm_congr fun x hx => h x (List.mem_cons_of_mem _ hx)]
theorem pick_back (xs : Array Value) : ((List.range xs.size).filterMap fun (m : Nat) => xs[(((xs.size : Int) - 1) + (m : Int) * (-1)).toNat]?).toArray = xs.toList.reverse.toArray := by
  have e : (List.range xs.size).filterMap (fun (m : Nat) => xs[(((xs.size : Int) - 1) + (m : Int) * (-1)).toNat]?) = ((List.range xs.size).map fun m => xs.size - 1 - m).filterMap (xs[·]?) := by
    rw [List.filterMap_map]
    refine fm_congr fun m hm => ?_
    have := List.mem_range.mp hm
    show xs[(((xs.size : Int) - 1) + (m : Int) * (-1)).toNat]? = xs[xs.size - 1 - m]?
    rw [show (((xs.size : Int) - 1) + (m : Int) * (-1)).toNat = xs.size - 1 - m by omega]
  rw [e, PySem.W.krv_range, List.filterMap_reverse, PySem.W.krv_all]
theorem getItem_tuple_back {t sl : Addr} {items : Array Value} {vs : Value} {Q : Value → Shared → Prop} (ht : IsTup s.heap t items) (hs : s.heap.IsSliceOf sl .none .none vs) (pst : IsPart vs (some (-1)))
    (h : Q (.ref s.heap.objs.size) { s with heap := s.heap.push { cls := .type "tuple", data := .seq items.toList.reverse.toArray } }) (hsz : items.size ≤ sizeLine) : wpAny (model prog w) A (getItem (.ref t) (.ref sl)) Q E s := by
  have hok : sizeOk (.seq items.toList.reverse.toArray) := by
    show items.toList.reverse.toArray.size ≤ sizeLine
    rw [List.size_toArray, List.length_reverse, Array.length_toList]
    exact hsz
  obtain ⟨ob, h1, h2, h3⟩ := id hs
  have hty : s.TypeIs (.ref sl) "slice" := ⟨ob, h1, h2⟩
  unfold getItem
  try with_reducible refine wpAny_holding ?_
  first | refine wpAny_bind (wpAny_pure ?_) | skip
  refine wpAny_bind (wpAny_sequenceKey ht.typeIs (by decide) (wpAny_bind (wpAny_callSpecial?_slot (name := Str.ofString "__getitem__") ht.typeIs PyProof.Rows.slot_tuple_getitem (wpAny_call_entry PyProof.Rows.slot_tuple_getitem ht.typeIs entry_tuple_getitem ?_ (args_tuple_getitem _ _)))))
  show wpAny _ _ (Builtin.Tuple.tupleItemsOf (.ref t) >>= _) _ _ s
  refine wpAny_bind (tupleItemsOf_ ht (wpAny_bind (wpAny_typeOf hty ?_)))
  rw [if_pos (by decide)]
  refine wpAny_bind (sliceApplied_back hs pst ?_)
  show wpAny _ _ (if (((items.size : Int) - 1 == 0) && ((-1 : Int) == 1) && (items.size == items.size)) = true then _ else _) _ _ s
  rw [if_neg (by simp), pick_back]
  first
    | exact wpAny_bind (m := Builtin.Tuple.tupleExact _) (wpAny_newObj_type (wpAny_pure ⟨_, rfl, wpAny_pure h⟩) hok)
    | exact wpAny_bind (m := Builtin.Tuple.tupleExact _) (wpAny_newObj_type (wpAny_bind (wpAny_pure (wpAny_pure ⟨_, rfl, wpAny_pure h⟩))) hok)
    | exact wpAny_bind (wpAny_bind (m := Builtin.Tuple.tupleExact _) (wpAny_newObj_type (wpAny_pure (wpAny_pure ⟨_, rfl, wpAny_pure h⟩)) hok))
    | exact wpAny_bind (wpAny_bind (m := Builtin.Tuple.tupleExact _) (wpAny_newObj_type (wpAny_pure ⟨_, rfl, wpAny_pure h⟩) hok))
end
section
variable {X : Cx}
def tRevT (K : PySem.W.Frag) (te : TE) : TE := fun σ H Q => te σ H fun x H1 => ∃ a xs, x = .ref a ∧ SqT K H1 a xs ∧ ∀ p ob, H1 p = none → ob.cls = .type "tuple" → ob.dict = none → Q (.ref p) (upd H1 p (.frz ob (.tup xs.reverse)))
theorem pe_revT {e : Expr} {te : TE} {k : Nat} {p1 p2 p3 pos : Pos} (he : PE X e te) : PE X (.Subscript e (.Slice none none (some (.UnaryOp .USub (.Constant (.int 1) k p1) p2)) p3) pos) (tRevT X.K te) := by
  refine ⟨fun pins st σ H Q I want => Subscript_ (thn (he.run pins st σ H _ I want) ?_)⟩
  rintro v s1 ⟨x, H1, I1, r1, a, xs, rfl, hx, q⟩
  cases r1
  have part : PO X (some (.UnaryOp .USub (.Constant (.int 1) k p1) p2)) (tPart (tUn (rU fun i => .int (-i)) (tC (.int 1)))) := po_some (pe_un un_neg pe_int)
  refine wpAny_Slice (thn (po_none.run pins s1 σ H1 (fun o H2 => o = none ∧ H2 = H1) I1 ⟨rfl, rfl⟩) ?_)
  rintro vl s2 ⟨l, H2, I2, pl, rfl, rfl⟩
  refine thn (po_none.run pins s2 σ H2 (fun o H3 => o = none ∧ H3 = H2) I2 ⟨rfl, rfl⟩) ?_
  rintro vu s3 ⟨u, H3, I3, pu, rfl, rfl⟩
  refine thn (part.run pins s3 σ H3 (fun o H4 => o = some (-1) ∧ H4 = H3) I3 ⟨1, rfl, -1, rfl, rfl, rfl⟩) ?_
  rintro vs s4 ⟨o, H4, I4, pst, rfl, rfl⟩
  cases pl
  cases pu
  have J : Inv X pins σ H4 { s4 with heap := s4.heap.push { cls := .type "slice", data := .fields #[.none, .none, vs] } } := I4.kept (t' := s4.toks) fun b ob e => Heap.get?_push_of_some _ e
  obtain ⟨its, rI, ht, hz⟩ := J.tuple hx
  have hlen := rI.length
  show wpAny (model X.prog X.w) X.A (subscriptTail e (.Slice none none (some (.UnaryOp .USub (.Constant (.int 1) k p1) p2)) p3) (.ref a) (.ref s4.heap.objs.size)) (EP X pins σ Q) X.xe { s4 with heap := s4.heap.push { cls := .type "slice", data := .fields #[.none, .none, vs] } }
  refine tail_any (ops := [.ref a, .ref s4.heap.objs.size]) ht.typeIs PyProof.Rows.slot_tuple_getitem.lookup ?_ (by with_unfolding_all rfl)
  refine getItem_tuple_back ht (Heap.IsSliceOf.new _ .none .none vs) pst ?_ (by rw [List.size_toArray]; omega)
  let od : Obj := { cls := .type "tuple", data := .seq its.reverse.toArray }
  refine ⟨.ref _, _, J.laid (t' := s4.toks) (o := .frz od (.tup xs.reverse)) (fun b ob e => Heap.get?_push_of_some _ e) (Nat.le_refl _) ?_, rfl, q _ od (J.hok.fresh (Nat.le_refl _)) rfl rfl⟩
  exact ⟨Heap.get?_push_size _ rfl, by rw [List.length_reverse]; exact hz, _, rI.reverse, IsTup.new _ _⟩
end
end HF
/-! tables of sets at masks to 511 -/
namespace HF
open PySem PySem.Spec PyProof.Rows L2
/-! ### i -> 5 i + 1 comes to every slot -/
def marks (m : Nat) : Nat → Nat → Nat → Nat
  | 0, _, acc => acc
  | n + 1, x, acc => marks m n ((x * 5 + 1) % (m + 1)) (acc ||| 2 ^ x)
theorem marks_from (m j : Nat) : ∀ (n b acc : Nat), (marks m n (lcgN m b) acc).testBit j = true → acc.testBit j = true ∨ ∃ k, k < n ∧ lcgN m (b + k) = j
  | 0, _, _, h => .inl h
  | n + 1, b, acc, h => by
    rcases marks_from m j n (b + 1) (acc ||| 2 ^ lcgN m b) h with q | ⟨k, hk, e⟩
    · rw [Nat.testBit_or, Bool.or_eq_true] at q
      rcases q with q | q
      · exact .inl q
      · rw [Nat.testBit_two_pow] at q
        exact .inr ⟨0, Nat.succ_pos n, of_decide_eq_true q⟩
    · exact .inr ⟨k + 1, Nat.succ_lt_succ hk, by rw [show b + (k + 1) = b + 1 + k by omega]; exact e⟩
structure Mo (m : Nat) : Prop where
  odd : m % 2 = 1
  few : m ≤ 511
  all : marks m (m + 1) 0 0 = 2 ^ (m + 1) - 1
  back : lcgN m (m + 1) = 0
theorem mo7 : Mo 7 := ⟨rfl, by decide, by decide +kernel, by decide +kernel⟩
theorem mo31 : Mo 31 := ⟨rfl, by decide, by decide +kernel, by decide +kernel⟩
theorem mo127 : Mo 127 := ⟨rfl, by decide, by decide +kernel, by decide +kernel⟩
theorem mo511 : Mo 511 := ⟨rfl, by decide, by decide +kernel, by decide +kernel⟩
theorem Mo.hit {m : Nat} (h : Mo m) {j : Nat} (hj : j ≤ m) : ∃ b, b ≤ m ∧ lcgN m b = j := by
  have e : (marks m (m + 1) (lcgN m 0) 0).testBit j = true := by
    show (marks m (m + 1) 0 0).testBit j = true
    rw [h.all, Nat.testBit_two_pow_sub_one]
    exact decide_eq_true (by omega)
  rcases marks_from m j (m + 1) 0 0 e with q | ⟨k, hk, q⟩
  · rw [Nat.zero_testBit] at q
    cases q
  · exact ⟨k, by omega, by rw [Nat.zero_add] at q; exact q⟩
theorem Mo.again {m : Nat} (h : Mo m) : ∀ k, lcgN m (m + 1 + k) = lcgN m k
  | 0 => h.back
  | k + 1 => congrArg (fun z => (z * 5 + 1) % (m + 1)) (Mo.again h k)
theorem Mo.cov {m : Nat} (h : Mo m) {i j : Nat} (hi : i ≤ m) (hj : j ≤ m) : ∃ k, k ≤ m ∧ lcgI m i k = j := by
  obtain ⟨a, ha, rfl⟩ := h.hit hi
  obtain ⟨b, hb, rfl⟩ := h.hit hj
  by_cases c : a ≤ b
  · exact ⟨b - a, by omega, by rw [lcgN_add, show a + (b - a) = b by omega]⟩
  · exact ⟨m + 1 + b - a, by omega, by rw [lcgN_add, show a + (m + 1 + b - a) = m + 1 + b by omega, h.again]⟩
theorem Mo.starts {m : Nat} (h : Mo m) (x : Int) {j : Nat} (hj : j ≤ m) : ∃ n, n ≤ m + 12 ∧ runI m (SetTable.bits x) n = j := by
  obtain ⟨k, hk, e⟩ := h.cov (runI_le m (SetTable.bits x) 12) hj
  exact ⟨12 + k, by omega, (runI_tail (bits_lt x) k).trans e⟩
theorem Mo.meets {m : Nat} (h : Mo m) (x : Int) {j : Nat} (hj : j ≤ m) : ∃ k, k < 10 * SetTable.turns m ∧ way m x k = j := by
  obtain ⟨n, hn, e⟩ := h.starts x hj
  obtain ⟨k, hk, e2⟩ := run_nth m (SetTable.bits x) n
  refine ⟨k, ?_, (congrArg SetTable.Probe.j e2).trans e⟩
  show k < 10 * (m + 15)
  omega
theorem way_in (m : Nat) (x : Int) (k : Nat) : way m x k ≤ m := by
  have h0 : SetTable.bits x % (m + 1) ≤ m := Nat.le_of_lt_succ (Nat.mod_lt _ (Nat.succ_pos m))
  have h1 := (runEnd_bd h0)
  have := nth_in k (runAt m (SetTable.bits x % (m + 1)) (SetTable.bits x)) (m := m) (by
    show SetTable.bits x % (m + 1) + (SetTable.runEnd m (SetTable.bits x % (m + 1)) - SetTable.bits x % (m + 1)) ≤ m
    omega)
  show (nth m _ k).j ≤ m
  omega
/-- a table in which each is met again on its hash's way -/
structure Tb (t : SetTable) (hs : List Int) : Prop where
  up : Ris t.place.toList
  none : t.dummies = #[]
  size : t.place.size = hs.length
  mo : Mo t.mask
  within : ∀ x ∈ t.place.toList, x ≤ t.mask
  met : ∀ (i : Nat) (x : Int) (j : Nat), hs[i]? = some x → t.place.toList[i]? = some j → ∃ k, way t.mask x k = j ∧ ∀ k', k' < k → way t.mask x k' ∈ t.place.toList
theorem Tb.gap {t : SetTable} {hs : List Int} (T : Tb t hs) (few : hs.length ≤ t.mask) (x : Int) : ∃ n, n < 10 * SetTable.turns t.mask ∧ way t.mask x n ∉ t.place.toList ∧ ∀ k, k < n → way t.mask x k ∈ t.place.toList := by
  obtain ⟨j, hj, free⟩ := st_missing t.place.toList (t.mask + 1) (by
    rw [Array.length_toList, T.size]
    omega)
  obtain ⟨k, hk, e⟩ := T.mo.meets x (Nat.le_of_lt_succ hj)
  obtain ⟨n, h1, h2, h3⟩ := st_least (p := fun k => way t.mask x k ∉ t.place.toList) k (by
    show way t.mask x k ∉ _
    rw [e]
    exact free)
  exact ⟨n, by omega, h2, fun k' hk' => Classical.byContradiction (h3 k' hk')⟩
theorem Tb.ahead {t : SetTable} {hs : List Int} (T : Tb t hs) {x : Int} {n i j : Nat} (free : way t.mask x n ∉ t.place.toList) (hi : hs[i]? = some x) (hj : t.place.toList[i]? = some j) : ∃ k, k < n ∧ way t.mask x k = j := by
  obtain ⟨k, e, before⟩ := T.met i x j hi hj
  refine ⟨k, Nat.lt_of_not_le fun c => ?_, e⟩
  rcases Nat.lt_or_eq_of_le c with c | c
  · exact free (before n c)
  · subst c
    rw [e] at free
    exact free (List.mem_of_getElem? hj)
theorem Tb.more {t : SetTable} {hs : List Int} (T : Tb t hs) {x : Int} {n : Nat} (free : way t.mask x n ∉ t.place.toList) (before : ∀ k, k < n → way t.mask x k ∈ t.place.toList) :
    SetTable.below t.place (way t.mask x n) ≤ hs.length ∧ Tb (t.put (way t.mask x n)).1 (hs.take (SetTable.below t.place (way t.mask x n)) ++ x :: hs.drop (SetTable.below t.place (way t.mask x n))) ∧ (t.put (way t.mask x n)).1.fill = hs.length + 1 := by
  have hin : way t.mask x n ≤ t.mask := way_in _ _ _
  generalize hw : way t.mask x n = j at *
  have cut := (below_cut T.up j).1
  have cl : SetTable.below t.place j ≤ t.place.toList.length := by
    rw [Array.length_toList]
    exact cut
  have ch : SetTable.below t.place j ≤ hs.length := T.size ▸ cut
  have pl := put_place t j
  have sz : (t.put j).1.place.size = hs.length + 1 := by
    rw [← Array.length_toList, pl, len_ins _ cl, Array.length_toList, T.size]
  have grow : ∀ {y : Nat}, y ∈ t.place.toList → y ∈ (t.put j).1.place.toList := fun hy => by
    rw [pl]
    exact mem_ins.2 (.inr hy)
  have nd := put_dm T.none j
  refine ⟨ch, ⟨ris_insert T.up fun e => free (List.mem_of_getElem? (by rw [Array.getElem?_toList]; exact e)), nd, by rw [len_ins _ ch]; exact sz, T.mo, fun y hy => ?_, fun i x' j' h1 h2 => ?_⟩, ?_⟩
  · rw [pl] at hy
    exact (mem_ins.1 hy).elim (fun e => e ▸ hin) fun e => T.within y e
  · rw [tins_get hs ch] at h1
    rw [pl, tins_get _ cl] at h2
    have old : ∀ {i : Nat}, hs[i]? = some x' → t.place.toList[i]? = some j' → ∃ k, way t.mask x' k = j' ∧ ∀ k', k' < k → way t.mask x' k' ∈ (t.put j).1.place.toList := fun e1 e2 => by
      obtain ⟨k, e, r⟩ := T.met _ x' j' e1 e2
      exact ⟨k, e, fun k' hk' => grow (r k' hk')⟩
    by_cases c : i < SetTable.below t.place j
    · rw [if_pos c] at h1 h2
      exact old h1 h2
    · rw [if_neg c] at h1 h2
      by_cases d : i = SetTable.below t.place j
      · rw [if_pos d] at h1 h2
        cases h1
        cases h2
        exact ⟨n, hw, fun k' hk' => grow (before k' hk')⟩
      · rw [if_neg d] at h1 h2
        exact old h1 h2
  · show (t.put j).1.place.size + (t.put j).1.dummies.size = hs.length + 1
    rw [sz, nd]
    rfl
/-! ### laid anew -/
theorem Mo.frees {m : Nat} (hm : Mo m) (owner : Array (Option Nat)) (x : Int) {j : Nat} (hj : j ≤ m) (hf : oAt owner j = none) :
    ∃ n, SetTable.layClean.free m owner (SetTable.turns m) (SetTable.bits x % (m + 1)) (SetTable.bits x) = some (way m x n) ∧ oAt owner (way m x n) = none ∧ ∀ k, k < n → oAt owner (way m x k) ≠ none := by
  obtain ⟨r, hr, e⟩ := hm.starts x hj
  have hw : way m x (off m (SetTable.bits x % (m + 1)) (SetTable.bits x) r) = j := by
    show (nth m _ _).j = j
    rw [nth_off, itL_run]
    exact e
  obtain ⟨n, n1, n2, n3⟩ := st_least (p := fun k => oAt owner (way m x k) = none) _ (show oAt owner (way m x _) = none from hw ▸ hf)
  refine ⟨n, free_spec m owner (SetTable.turns m) r _ _ n (by show r < m + 15; omega) n1 (fun k hk => ?_) ?_, n2, n3⟩
  · cases z : oAt owner (nth m (runAt m (SetTable.bits x % (m + 1)) (SetTable.bits x)) k).j with
    | none => exact absurd z (n3 k hk)
    | some _ => rfl
  · rw [show oAt owner (nth m (runAt m (SetTable.bits x % (m + 1)) (SetTable.bits x)) n).j = none from n2]
    rfl
theorem Mo.owns {m : Nat} (hm : Mo m) {done : List Int} {owner : Array (Option Nat)} (W : Own m done owner) (few : done.length ≤ m) (x : Int) :
    ∃ j, SetTable.layClean.free m owner (SetTable.turns m) (SetTable.bits x % (m + 1)) (SetTable.bits x) = some j ∧ Own m (done ++ [x]) (owner.setIfInBounds j (some done.length)) := by
  obtain ⟨qs, many, inq⟩ := W.ps
  obtain ⟨j0, lt0, no0⟩ := st_missing qs (m + 1) (by omega)
  have free0 : oAt owner j0 = none := by
    cases z : oAt owner j0 with
    | none => rfl
    | some k => exact absurd (inq j0 (by omega) (by rw [z]; simp)) no0
  obtain ⟨n, f1, f2, f3⟩ := hm.frees owner x (Nat.le_of_lt_succ lt0) free0
  have lem := way_in m x n
  have own := oAt_set_self (some done.length) (show way m x n < owner.size by rw [W.sz]; omega)
  have keep : ∀ {i : Nat}, oAt owner i ≠ none → oAt (owner.setIfInBounds (way m x n) (some done.length)) i ≠ none := fun {i} hi => by
    by_cases c : i = way m x n
    · rw [c, own]
      simp
    · rw [oAt_set_ne _ c]
      exact hi
  refine ⟨_, f1, ⟨by rw [Array.size_setIfInBounds]; exact W.sz, fun j k hj e => ?_, fun k hk => ?_, ⟨way m x n :: qs, by simp [many], fun j hj e => ?_⟩⟩⟩
  · by_cases c : j = way m x n
    · subst c
      rw [own] at e
      cases e
      exact ⟨x, n, by simp, rfl, fun k' hk' => keep (f3 k' hk')⟩
    · rw [oAt_set_ne _ c] at e
      obtain ⟨x', n', a1, a2, a3⟩ := W.at_ j k hj e
      exact ⟨x', n', by rw [List.getElem?_append_left (List.getElem?_eq_some_iff.mp a1).1]; exact a1, a2, fun k' hk' => keep (a3 k' hk')⟩
  · by_cases c : k < done.length
    · obtain ⟨j, hj, e⟩ := W.all k c
      exact ⟨j, hj, by rw [oAt_set_ne _ (fun z => by rw [z, f2] at e; cases e)]; exact e⟩
    · rw [List.length_append] at hk
      have ek : k = done.length := by
        have : ([x] : List Int).length = 1 := rfl
        omega
      exact ⟨_, lem, by rw [own, ek]⟩
  · by_cases c : j = way m x n
    · rw [c]
      exact List.mem_cons_self
    · rw [oAt_set_ne _ c] at e
      exact List.mem_cons_of_mem _ (inq j hj e)
theorem Mo.folds {m : Nat} (hm : Mo m) : ∀ (rest done : List Int) (owner : Array (Option Nat)), Own m done owner → done.length + rest.length ≤ m →
    ∃ ow, rest.foldl (stepF m) (some (owner, done.length)) = some (ow, (done ++ rest).length) ∧ Own m (done ++ rest) ow
  | [], done, owner, W, _ => ⟨owner, by rw [List.append_nil]; rfl, by rw [List.append_nil]; exact W⟩
  | x :: rest, done, owner, W, few => by
    have few2 : done.length + (rest.length + 1) ≤ m := few
    obtain ⟨j, e, W1⟩ := hm.owns W (by omega) x
    have l1 : (done ++ [x]).length = done.length + 1 := by simp
    obtain ⟨ow, f, W2⟩ := Mo.folds hm rest (done ++ [x]) _ W1 (by omega)
    rw [List.append_assoc, List.singleton_append] at f W2
    rw [l1] at f
    exact ⟨ow, by rw [List.foldl_cons, stepF_some e]; exact f, W2⟩
theorem relaid_mo (t : SetTable) {hs : Array Int} {wanted M : Nat} (hw : SetTable.sizeAbove wanted - 1 = M) (hM : Mo M) (few : hs.size ≤ M) :
    ∃ t' order, t.relaid hs wanted = some (t', order) ∧ order.toList.Perm (List.range hs.size) ∧ Tb t' (order.toList.map fun i => hs.getD i 0) ∧ t'.mask = M ∧ t'.led = t.led ∧ t'.plain = t.plain := by
  obtain ⟨owner, f, W⟩ := hM.folds hs.toList [] _ (Own.init M) (by show 0 + hs.toList.length ≤ M; rw [Array.length_toList]; omega)
  rw [List.nil_append] at W
  have lay : SetTable.layClean M hs = some owner := by
    rw [layClean_eq, show hs.toList.foldl (stepF M) (some (Array.replicate (M + 1) none, 0)) = some (owner, ([] ++ hs.toList).length) from f]
    rfl
  have rising := ris_live (fun j => owner.getD j none) (List.range (M + 1)) (by
    unfold Ris
    first | exact List.pairwise_lt_range | exact List.pairwise_lt_range _)
  have up : Ris ((liveOf M owner).map (·.1)) := rising.1
  have many : (liveOf M owner).length = hs.size := by
    obtain ⟨qs, q1, q2⟩ := W.ps
    have unlike : ((liveOf M owner).map (·.1)).Nodup := List.Pairwise.imp (fun h => Nat.ne_of_lt h) up
    have le1 := nat_nodup_len ((liveOf M owner).map (·.1)) qs unlike (fun y hy => by
      obtain ⟨⟨y', k⟩, hq, rfl⟩ := List.mem_map.mp hy
      obtain ⟨b1, b2⟩ := (mem_live W.sz).1 hq
      exact q2 _ b1 (by rw [b2]; simp))
    have le2 := nat_nodup_len (List.range hs.size) ((liveOf M owner).map (·.2)) List.nodup_range (fun k hk => by
      obtain ⟨j, b1, b2⟩ := W.all k (by rw [Array.length_toList]; exact List.mem_range.mp hk)
      exact List.mem_map.mpr ⟨(j, k), (mem_live W.sz).2 ⟨b1, b2⟩, rfl⟩)
    rw [List.length_map, q1] at le1
    have hz : hs.toList.length = hs.size := Array.length_toList
    rw [List.length_map, List.length_range] at le2
    omega
  refine ⟨tabOf t M owner, ((liveOf M owner).map (·.2)).toArray, by rw [relaid_eq, hw, lay]; rfl, ?_, ⟨up, rfl, ?_, hM, fun y hy => ?_, fun i x j h1 h2 => ?_⟩, rfl, rfl, rfl⟩
  · refine perm_range hs.size _ (by show ((liveOf M owner).map (·.2)).length = hs.size; rw [List.length_map]; exact many) fun k hk => ?_
    obtain ⟨j, b1, b2⟩ := W.all k (by rw [Array.length_toList]; exact hk)
    exact List.mem_map.mpr ⟨(j, k), (mem_live W.sz).2 ⟨b1, b2⟩, rfl⟩
  · show ((liveOf M owner).map (·.1)).toArray.size = (((liveOf M owner).map (·.2)).map fun i => hs.getD i 0).length
    simp
  · exact Nat.le_of_lt_succ (List.mem_range.mp (rising.2 y hy))
  · have h1' : (((liveOf M owner).map (·.2)).map fun i => hs.getD i 0)[i]? = some x := h1
    have h2' : ((liveOf M owner).map (·.1))[i]? = some j := h2
    rw [List.getElem?_map] at h2'
    rw [List.getElem?_map, List.getElem?_map] at h1'
    obtain ⟨⟨y, k⟩, hq, rfl⟩ := Option.map_eq_some_iff.mp h2'
    rw [hq] at h1'
    have ex : hs.getD k 0 = x := Option.some.inj h1'
    obtain ⟨b1, b2⟩ := (mem_live W.sz).1 (List.mem_of_getElem? hq)
    obtain ⟨x0, n, a1, a2, a3⟩ := W.at_ y k b1 b2
    have e0 : hs.getD k 0 = x0 := by
      rw [Array.getD_eq_getD_getElem?, ← Array.getElem?_toList, a1]
      rfl
    have exx : x0 = x := e0.symm.trans ex
    rw [exx] at a2 a3
    refine ⟨n, a2, fun k' hk' => ?_⟩
    show way M x k' ∈ (liveOf M owner).map (·.1)
    cases z : oAt owner (way M x k') with
    | none => exact absurd z (a3 k' hk')
    | some k2 => exact List.mem_map.mpr ⟨(_, k2), (mem_live W.sz).2 ⟨way_in _ _ _, z⟩, rfl⟩
end HF
/-! sets of tuples of texts -/
namespace HF
open PySem PySem.Spec PyProof.Rows L2
abbrev hk (P : Program) (w : World) (k : List Str) : Int := tupleKeyHash (strKind P w) k
abbrev IsS (P : Program) (w : World) (h : Heap) (k : List Str) (a : Addr) : Prop := IsTupleKey (strKind P w) h k a
abbrev SL := List (Addr × List Str)
def ents (P : Program) (w : World) (L : SL) : List (Int × Value) := L.map fun p => (hk P w p.2, Value.ref p.1)
section
variable {P : Program} {w : World} {A : Around} {E : Value → Shared → Prop} {s : Shared}
theorem its_str {k : List Str} {vs : List Value} (h : ItemsAre (strKind P w) k vs) : ∀ v ∈ vs, ∃ x t, v = Value.str x t := by
  induction h with
  | nil => exact fun v hv => nomatch hv
  | @cons k0 v0 ks vs0 h1 _ ih =>
    intro v hv
    rcases List.mem_cons.mp hv with rfl | hv
    · obtain ⟨t, e⟩ := Value.isStrOf_shape (x := k0) h1
      exact ⟨k0, t, e⟩
    · exact ih v hv
theorem cls_str (n : Nat) (x : Str) (t : Tok) : ofAClassStatement n (.str x t) = pure false := by cases n <;> rfl
theorem hby_str (n : Nat) (x : Str) (t : Tok) : hashByValue n (.str x t) = pure false := by cases n <;> rfl
theorem cls_tup {k : List Str} {b : Addr} {Q : Bool → Shared → Prop} (hb : IsS P w s.heap k b) (q : Q false s) : wpAny (model P w) A (ofAClassStatement 8 (.ref b)) Q E s := by
  have ty := hb.typeIs
  obtain ⟨ob, its, n, h1, _, h2, h3⟩ := hb
  unfold ofAClassStatement
  refine wpAny_bind (wpAny_typeOf ty ?_)
  dsimp only
  simp only [show (("tuple" : String) == "tuple") = true by decide, if_true, Bool.not_true, Bool.false_eq_true, if_false]
  try refine wpAny_bind (wpAny_pure ?_)
  try simp only [Bool.not_true, Bool.false_eq_true, if_false]
  show wpAny _ _ (seqItems? (.ref b) >>= _) _ _ s
  refine wpAny_bind (wpAny_seqItems h1 h2 ?_)
  dsimp only
  refine wpAny_bind ?_
  show wpAny _ _ (forIn its _ _) _ _ s
  rw [← Array.forIn_toList]
  refine wpAny_forIn_list _ (fun left r st => r.1 = none ∧ st = s ∧ ∀ v ∈ left, ∃ x t, v = Value.str x t) _ ?_ ?_ _ _ ⟨rfl, rfl, its_str h3⟩
  · rintro v left r st ⟨hr, rfl, hall⟩
    obtain ⟨x, t, rfl⟩ := hall v List.mem_cons_self
    rw [cls_str]
    refine wpAny_bind (wpAny_pure ?_)
    simp only [Bool.false_eq_true, if_false]
    exact wpAny_pure ⟨rfl, rfl, fun u hu => hall u (List.mem_cons_of_mem _ hu)⟩
  · rintro ⟨r1, r2⟩ st ⟨hr, rfl, _⟩
    cases (show r1 = none from hr)
    exact wpAny_pure q
theorem hby_tup {k : List Str} {b : Addr} {Q : Bool → Shared → Prop} (hb : IsS P w s.heap k b) (q : ∀ c, Q c s) : wpAny (model P w) A (hashByValue 8 (.ref b)) Q E s := by
  have ty := hb.typeIs
  obtain ⟨ob, its, n, h1, _, h2, h3⟩ := hb
  unfold hashByValue
  refine wpAny_bind (wpAny_specialOf ty F.slot_tuple_hash.lookup ?_)
  show wpAny _ _ (seqItems? (.ref b) >>= _) _ _ s
  refine wpAny_bind (wpAny_seqItems h1 h2 (wpAny_bind ?_))
  show wpAny _ _ (forIn its _ _) _ _ s
  rw [← Array.forIn_toList]
  refine wpAny_mono (wpAny_forIn_list _ (fun left r st => r.1 = none ∧ st = s ∧ ∀ v ∈ left, ∃ x t, v = Value.str x t) (fun r st => (r.1 = none ∨ r.1 = some false) ∧ st = s) ?_ ?_ _ _ ⟨rfl, rfl, its_str h3⟩) ?_ fun _ _ z => z
  · rintro v left r st ⟨hr, rfl, hall⟩
    obtain ⟨x, t, rfl⟩ := hall v List.mem_cons_self
    rw [hby_str]
    refine wpAny_bind (wpAny_pure ?_)
    simp only [Bool.not_false, if_true]
    exact wpAny_pure ⟨.inr rfl, rfl⟩
  · rintro ⟨r1, r2⟩ st ⟨hr, rfl, _⟩
    exact ⟨.inl hr, rfl⟩
  · rintro ⟨r1, r2⟩ st ⟨hr, rfl⟩
    rcases hr with hr | hr
    · cases (show r1 = none from hr)
      exact wpAny_pure (q true)
    · cases (show r1 = some false from hr)
      exact wpAny_pure (q false)
theorem seen_s {k : List Str} {b : Addr} {Q : Bool → Shared → Prop} (hb : IsS P w s.heap k b) {ys : List Value} (hy : ∀ y ∈ ys, ∃ k' c, y = Value.ref c ∧ IsS P w s.heap k' c) (q : Q false s) :
    wpAny (model P w) A (searchCouldBeSeen (.ref b) ys) Q E s := by
  unfold searchCouldBeSeen
  refine wpAny_bind ?_
  refine wpAny_forIn_list _ (fun left r st => r.1 = none ∧ st = s ∧ ∀ y ∈ left, ∃ k' c, y = Value.ref c ∧ IsS P w s.heap k' c) _ ?_ ?_ _ _ ⟨rfl, rfl, hy⟩
  · rintro v left r st ⟨hr, rfl, hall⟩
    obtain ⟨k', c, rfl, hc⟩ := hall v List.mem_cons_self
    have later := fun u hu => hall u (List.mem_cons_of_mem _ hu)
    dsimp only
    by_cases hv : (b == c || (carriedByValue (.ref b) && carriedByValue (.ref c))) = true
    · exact wp_if_pos hv (wpAny_pure ⟨rfl, rfl, later⟩)
    · refine wp_if_neg hv (wpAny_bind (wpAny_eqIsQuiet_tuple hb ?_))
      simp only [Bool.not_true, Bool.false_eq_true, if_false]
      refine wpAny_bind (wpAny_eqIsQuiet_tuple hc ?_)
      simp only [Bool.not_true, Bool.false_eq_true, if_false]
      refine wpAny_bind (cls_tup hb ?_)
      simp only [Bool.false_eq_true, if_false]
      refine wpAny_bind (cls_tup hc ?_)
      simp only [Bool.false_eq_true, if_false]
      exact wpAny_pure ⟨rfl, rfl, later⟩
  · rintro ⟨r1, r2⟩ st ⟨hr, rfl, _⟩
    cases (show r1 = none from hr)
    exact wpAny_pure q
/-- the set of the tuples of L at a -/
structure SR (P : Program) (w : World) (h : Heap) (a : Addr) (L : SL) (es : Array (Int × Value)) (ep : Nat) (t : SetTable) : Prop where
  ob : ∃ o, h.get? a = some o ∧ o.ExactSet ∧ o.data = .set es ep t
  rows : es.toList = ents P w L
  tab : Tb t (L.map fun p => hk P w p.2)
  nd : (L.map (·.2)).Nodup
  tup : ∀ p ∈ L, IsS P w h p.2 p.1
  led : w.params.followText "set-order" = true ∨ t.led = true
  room : L.length * 5 < t.mask * 3
  four : t.mask = 7 ∨ t.mask = 31 ∨ t.mask = 127 ∨ t.mask = 511
variable {a : Addr} {L : SL} {es : Array (Int × Value)} {ep : Nat} {t : SetTable}
theorem ents_size {L : SL} {es : Array (Int × Value)} (h : es.toList = ents P w L) : es.size = L.length := by
  have e := congrArg List.length h
  unfold ents at e
  rw [Array.length_toList, List.length_map] at e
  exact e
theorem ents_at {L : SL} {es : Array (Int × Value)} (h : es.toList = ents P w L) {i : Nat} {p : Addr × List Str} (hi : L[i]? = some p) : es[i]? = some (hk P w p.2, Value.ref p.1) := by
  rw [← Array.getElem?_toList, h]
  unfold ents
  rw [List.getElem?_map, hi]
  rfl
theorem fits_of {t : SetTable} {n : Nat} (h1 : t.place.size = n) (h2 : t.dummies = #[]) (h3 : n ≤ t.mask) : t.fits n = true := by
  unfold SetTable.fits SetTable.fill
  rw [h2, Bool.and_eq_true, beq_iff_eq, decide_eq_true_eq]
  exact ⟨h1, by show t.place.size + 0 ≤ t.mask; omega⟩
theorem SR.fits (R : SR P w s.heap a L es ep t) : t.fits es.size = true := by
  have h1 := R.tab.size
  rw [List.length_map] at h1
  have h2 := ents_size R.rows
  have h3 := R.room
  exact fits_of (by omega) R.tab.none (by omega)
theorem SR.stays (R : SR P w s.heap a L es ep t) : ¬ t.gaveWay = true := by
  unfold SetTable.gaveWay
  rw [R.tab.mo.odd]
  decide
theorem calm_nth (m : Nat) : ∀ (n : Nat) (p : SetTable.Probe), p.dummy = none → (nth m p n).dummy = none
  | 0, _, h => h
  | n + 1, p, h => calm_nth m n (adv m p) (by
    unfold adv
    split <;> exact h)
theorem SR.search (R : SR P w s.heap a L es ep t) {x : Addr} {k : List Str} (hx : IsS P w s.heap k x) (hu : A.units < cLine) {n : Nat} (hn : n < 10 * SetTable.turns t.mask)
    (free : way t.mask (hk P w k) n ∉ t.place.toList) (before : ∀ c, c < n → way t.mask (hk P w k) c ∈ t.place.toList) {Q : SetFound → Shared → Prop}
    (hin : k ∈ L.map (·.2) → Q (.there none) s) (hout : k ∉ L.map (·.2) → Q (.free (way t.mask (hk P w k) n) false) s) :
    ∀ (f c : Nat) (stand : Option SetTable.Probe), stand.getD (t.probeStart (hk P w k)) = nth t.mask (runAt t.mask (SetTable.bits (hk P w k) % (t.mask + 1)) (SetTable.bits (hk P w k))) c → c ≤ n → n - c < f →
      (∀ (i : Nat) p, L[i]? = some p → p.2 = k → ∃ c', c ≤ c' ∧ c' < n ∧ t.place.toList[i]? = some (way t.mask (hk P w k) c')) →
      wpAny (model P w) A (setSearchFrom a (.ref x) (hk P w k) true f stand) Q E s
  | 0, _, _, _, _, hf, _ => absurd hf (Nat.not_lt_zero _)
  | f + 1, c, stand, at_c, hc, hf, left => by
    obtain ⟨ob, o1, o2, o3⟩ := R.ob
    rw [setSearchFrom_succ]
    refine wpAny_bind (wpAny_setState_of o1 o3 R.fits ?_)
    dsimp only
    refine wp_if_neg R.stays ?_
    try refine wpAny_bind (wpAny_pure ?_)
    generalize hst : runAt t.mask (SetTable.bits (hk P w k) % (t.mask + 1)) (SetTable.bits (hk P w k)) = st0 at at_c
    have wj : ∀ q, way t.mask (hk P w k) q = (nth t.mask st0 q).j := fun q => by rw [← hst]
    have calm : (nth t.mask st0 c).dummy = none := calm_nth _ _ _ (by rw [← hst]; rfl)
    have sum : ∀ q, nth t.mask (nth t.mask st0 c) q = nth t.mask st0 (c + q) := fun q => (nth_add t.mask c _ q).symm
    have wsum : ∀ q, (nth t.mask (nth t.mask st0 c) q).j = way t.mask (hk P w k) (c + q) := fun q => by rw [sum, wj]
    have hashes : ∀ (i : Nat) p, L[i]? = some p → (es[i]?.map (·.1)).getD 0 = hk P w p.2 := fun i p hp => by
      rw [ents_at R.rows hp]
      rfl
    rcases go_spec t R.tab.up R.tab.none (fun i => (es[i]?.map (·.1)).getD 0) (hk P w k) (10 * SetTable.turns t.mask) (n - c) _ calm (by omega)
      (fun q hq => by rw [wsum]; exact before (c + q) (by omega)) (by rw [wsum, show c + (n - c) = n by omega]; exact free) with ⟨q, i, hq, hi, hh, none_yet, pr⟩ | ⟨none_yet, pr⟩
    · have pr2 : t.probe (fun i => (es[i]?.map (·.1)).getD 0) (hk P w k) (stand.getD (t.probeStart (hk P w k))) = some (.candidate (way t.mask (hk P w k) (c + q)) i (nth t.mask st0 (c + (q + 1)))) := by
        rw [at_c, ← wsum, ← sum]
        exact pr
      rw [pr2]
      dsimp only
      rw [wsum] at hi
      have hil : i < L.length := by
        have h1 := (List.getElem?_eq_some_iff.mp hi).1
        have h2 := R.tab.size
        rw [List.length_map] at h2
        rw [Array.length_toList] at h1
        omega
      obtain ⟨p, hp⟩ : ∃ p, L[i]? = some p := ⟨_, List.getElem?_eq_getElem hil⟩
      have hm := List.mem_of_getElem? hp
      have rest : wpAny (model P w) A (searchRest a (.ref x) (hk P w k) true f es t (way t.mask (hk P w k) (c + q)) i (nth t.mask st0 (c + (q + 1)))) Q E s := by
        unfold searchRest
        rw [ents_at R.rows hp]
        dsimp only
        refine wpAny_bind (wpAny_holding (wpAny_eqBool_tuple hu (R.tup p hm) hx (wpAny_bind (wpAny_setState_of o1 o3 R.fits ?_))))
        dsimp only
        by_cases same : p.2 = k
        · exact wp_if_pos (by simp [same]) (wpAny_pure (hin (List.mem_map.mpr ⟨p, hm, same⟩)))
        · refine wp_if_neg (by simp [same]) ?_
          try refine wpAny_bind (wpAny_pure ?_)
          rw [sameMem]
          dsimp only
          have live : t.slot (way t.mask (hk P w k) (c + q)) = .live i := slot_live R.tab.up hi
          simp only [if_true, live, ents_at R.rows hp]
          refine wpAny_bind (wpAny_isSame_ref_self (wpAny_bind (wpAny_pure ?_)))
          simp only [if_true]
          refine wp_if_neg (by simp [same]) ?_
          refine SR.search R hx hu hn free before hin hout f (c + (q + 1)) _ (by rw [hst]; rfl) (by omega) (by omega) fun i0 p0 h0 e0 => ?_
          obtain ⟨c', l1, l2, l3⟩ := left i0 p0 h0 e0
          refine ⟨c', ?_, l2, l3⟩
          apply Classical.byContradiction
          intro small
          by_cases c'lt : c' < c + q
          · refine none_yet (c' - c) i0 (by omega) (by rw [wsum, show c + (c' - c) = c' by omega]; exact l3) ?_
            exact (hashes i0 p0 h0).trans (congrArg (hk P w) e0)
          · have ec : c' = c + q := by omega
            rw [ec] at l3
            have live0 := slot_live R.tab.up l3
            rw [live] at live0
            cases live0
            rw [hp] at h0
            cases h0
            exact same e0
      by_cases hl : t.led = true
      · refine wp_if_neg (by simp [hl]) ?_
        try refine wpAny_bind (wpAny_pure ?_)
        exact rest
      · refine wp_if_pos (by simp [hl]) (wpAny_bind (seen_s hx (fun y hy => ?_) ?_))
        · obtain ⟨e, he, rfl⟩ := List.mem_map.mp hy
          have he1 : e ∈ es ∧ e.1 = hk P w k := by simpa using he
          have he2 : e ∈ es.toList := by simpa using he1.1
          rw [R.rows] at he2
          obtain ⟨p2, hp2, rfl⟩ := List.mem_map.mp he2
          exact ⟨p2.2, p2.1, rfl, R.tup p2 hp2⟩
        · refine wp_if_neg (by decide) ?_
          try refine wpAny_bind (wpAny_pure ?_)
          exact rest
    · have pr2 : t.probe (fun i => (es[i]?.map (·.1)).getD 0) (hk P w k) (stand.getD (t.probeStart (hk P w k))) = some (.empty (way t.mask (hk P w k) n) none) := by
        rw [at_c, show way t.mask (hk P w k) n = (nth t.mask (nth t.mask st0 c) (n - c)).j by rw [wsum, show c + (n - c) = n by omega]]
        exact pr
      rw [pr2]
      dsimp only
      refine wpAny_pure (hout fun hm => ?_)
      obtain ⟨p0, h0, e0⟩ := List.mem_map.mp hm
      obtain ⟨i0, hi0, ei⟩ := List.getElem_of_mem h0
      have h00 : L[i0]? = some p0 := by rw [List.getElem?_eq_getElem hi0, ei]
      obtain ⟨c', l1, l2, l3⟩ := left i0 p0 h00 e0
      refine none_yet (c' - c) i0 (by omega) (by rw [wsum, show c + (c' - c) = c' by omega]; exact l3) ?_
      exact (hashes i0 p0 h00).trans (congrArg (hk P w) e0)
theorem SR.look (R : SR P w s.heap a L es ep t) {x : Addr} {k : List Str} (hx : IsS P w s.heap k x) (hu : A.units < cLine) {Q : SetFound → Shared → Prop}
    (hin : k ∈ L.map (·.2) → Q (.there none) s)
    (hout : ∀ n, k ∉ L.map (·.2) → way t.mask (hk P w k) n ∉ t.place.toList → (∀ c, c < n → way t.mask (hk P w k) c ∈ t.place.toList) → Q (.free (way t.mask (hk P w k) n) false) s) :
    wpAny (model P w) A (setSearch a (.ref x) (hk P w k) true) Q E s := by
  have room := R.room
  obtain ⟨n, n1, n2, n3⟩ := R.tab.gap (by rw [List.length_map]; omega) (hk P w k)
  have small : n < 100000 := by
    have h1 := R.tab.mo.few
    have h2 : 10 * SetTable.turns t.mask = 10 * (t.mask + 15) := rfl
    omega
  unfold setSearch
  refine R.search hx hu n1 n2 n3 hin (fun hn => hout n hn n2 n3) 100000 0 none rfl (Nat.zero_le _) (by omega) fun i p hp e => ?_
  have hi : (L.map fun p => hk P w p.2)[i]? = some (hk P w k) := by
    rw [List.getElem?_map, hp, ← e]
    rfl
  have hil : i < t.place.toList.length := by
    have h1 := (List.getElem?_eq_some_iff.mp hp).1
    have h2 := R.tab.size
    rw [List.length_map] at h2
    rw [Array.length_toList]
    omega
  have hj := List.getElem?_eq_getElem hil
  obtain ⟨c, hc, ec⟩ := R.tab.ahead n2 hi hj
  exact ⟨c, Nat.zero_le _, hc, by rw [hj, ec]⟩
end
end HF
namespace HF
open PySem PySem.Spec PyProof.Rows L2
section
variable {P : Program} {w : World} {A : Around} {E : Value → Shared → Prop} {s : Shared} {a : Addr} {L : SL} {es : Array (Int × Value)} {ep : Nat} {t : SetTable}
theorem IsS.but {h h' : Heap} {k : List Str} {b : Addr} {o : Obj} (hb : IsS P w h k b) (ho : h.get? a = some o) (hd : o.data = .set es ep t) (sb : Heap.SameBut a h h') : IsS P w h' k b := by
  obtain ⟨ob, its, n, h1, h2, h3, h4⟩ := hb
  have ne : b ≠ a := by
    rintro rfl
    rw [h1] at ho
    cases ho
    rw [hd] at h3
    cases h3
  exact ⟨ob, its, n, (sb.2 b ne).trans h1, h2, h3, h4⟩
theorem IsS.keep {h h' : Heap} {k : List Str} {b : Addr} (hb : IsS P w h k b) (kp : ∀ c o, h.get? c = some o → h'.get? c = some o) : IsS P w h' k b := by
  obtain ⟨ob, its, n, h1, r⟩ := hb
  exact ⟨ob, its, n, kp _ _ h1, r⟩
theorem ents_put (L : SL) (p : Nat) (x : Addr) (k : List Str) : ents P w (L.take p ++ (x, k) :: L.drop p) = (ents P w L).take p ++ (hk P w k, Value.ref x) :: (ents P w L).drop p := by
  unfold ents
  rw [List.map_append, List.map_cons, List.map_take, List.map_drop]
theorem fm_get (L : SL) : ∀ n, n ≤ L.length → (List.range n).filterMap (fun i => L[i]?) = L.take n
  | 0, _ => rfl
  | n + 1, h => by
    rw [List.range_succ, List.filterMap_append, fm_get L n (by omega), List.take_add_one, List.getElem?_eq_getElem (show n < L.length by omega)]
    rw [List.filterMap_cons_some (List.getElem?_eq_getElem (show n < L.length by omega))]
    rfl
theorem ents_order {L : SL} {es : Array (Int × Value)} (h : es.toList = ents P w L) {order : Array Nat} (hp : order.toList.Perm (List.range L.length)) :
    ∃ L2, (order.filterMap (es[·]?)).toList = ents P w L2 ∧ L2.Perm L ∧ (L2.map fun p => hk P w p.2) = order.toList.map fun i => (es.map (·.1)).getD i 0 := by
  have key : ∀ l : List Nat, (∀ i ∈ l, i < L.length) → l.filterMap (fun i => es[i]?) = ents P w (l.filterMap fun i => L[i]?) ∧ ((l.filterMap fun i => L[i]?).map fun p => hk P w p.2) = l.map fun i => (es.map (·.1)).getD i 0 := by
    intro l
    induction l with
    | nil => exact fun _ => ⟨rfl, rfl⟩
    | cons i l ih =>
      intro hl
      obtain ⟨e1, e2⟩ := ih fun j hj => hl j (List.mem_cons_of_mem _ hj)
      have hil := hl i List.mem_cons_self
      have hi : L[i]? = some L[i] := List.getElem?_eq_getElem hil
      have he := ents_at h hi
      rw [List.filterMap_cons_some he, List.filterMap_cons_some hi, e1]
      refine ⟨rfl, ?_⟩
      rw [List.map_cons, List.map_cons, e2]
      have e5 : (es.map (·.1))[i]? = some (hk P w (L[i]).2) := by
        rw [Array.getElem?_map, he]
        rfl
      rw [show (es.map (·.1)).getD i 0 = hk P w (L[i]).2 by simp [Array.getD_eq_getD_getElem?, e5]]
  obtain ⟨e1, e2⟩ := key order.toList fun i hi => List.mem_range.mp (hp.mem_iff.mp hi)
  refine ⟨_, by first | (rw [Array.toList_filterMap]; exact e1) | simpa using e1, ?_, e2⟩
  have := hp.filterMap (fun i => L[i]?)
  rw [fm_get L _ (Nat.le_refl _), List.take_length] at this
  exact this
theorem mo_of {m : Nat} (h : m = 7 ∨ m = 31 ∨ m = 127 ∨ m = 511) : Mo m := by
  rcases h with e | e | e | e
  · exact e ▸ mo7
  · exact e ▸ mo31
  · exact e ▸ mo127
  · exact e ▸ mo511
theorem relay_s {o : Obj} (ho : s.heap.get? a = some o) (ex : o.ExactSet) (hd : o.data = .set es ep t) (rows : es.toList = ents P w L) (sz : t.place.size = es.size) (dm : t.dummies = #[]) (fl : es.size ≤ t.mask)
    (nd : (L.map (·.2)).Nodup) (tup : ∀ p ∈ L, IsS P w s.heap p.2 p.1) (ld : w.params.followText "set-order" = true ∨ t.led = true) {wanted M : Nat}
    (hw : SetTable.sizeAbove wanted - 1 = M) (hm : M = 7 ∨ M = 31 ∨ M = 127 ∨ M = 511) (hw2 : SetTable.sizeAbove wanted ≤ 512) (room : L.length * 5 < M * 3) {Q : Unit → Shared → Prop}
    (hQ : ∀ h' L' es' ep' t', Heap.SameBut a s.heap h' → SR P w h' a L' es' ep' t' → L'.Perm L → Q () { s with heap := h' }) : wpAny (model P w) A (setRelay a wanted) Q E s := by
  have hM := mo_of hm
  have el := ents_size rows
  obtain ⟨t2, order, e, hp, T, em, eled, _⟩ := relaid_mo t (hs := es.map (·.1)) hw hM (by rw [Array.size_map, el]; omega)
  rw [Array.size_map, el] at hp
  obtain ⟨L2, r1, r2, r3⟩ := ents_order rows hp
  rw [← r3] at T
  have s2 : (order.filterMap (es[·]?)).size = es.size := by rw [ents_size r1, r2.length_eq, el]
  rw [setRelay_eq]
  refine wpAny_bind (wpAny_setState_of ho hd (fits_of sz dm fl) ?_)
  dsimp only
  refine wp_if_neg (by rw [sizeLine_eq]; omega) ?_
  try refine wpAny_bind (wpAny_pure ?_)
  rw [e]
  dsimp only
  refine wpAny_bind (wp_if_neg (by rw [s2]; simp) ?_)
  try refine wpAny_bind (wpAny_pure ?_)
  refine wpAny_pure ?_
  dsimp only
  refine wpAny_storeSet_of ho hd ?_ (by rw [s2, el, sizeLine_eq]; have := hM.few; omega)
  have sb : Heap.SameBut a s.heap (s.heap.update a (Obj.putSet (order.filterMap (es[·]?)) t2)) := Heap.SameBut.update ..
  exact hQ _ L2 _ (ep + 1) t2 sb ⟨⟨_, store_at ho hd, ⟨ex.1, ex.2.1, ex.2.2⟩, rfl⟩, r1, T, (r2.map (·.2)).nodup_iff.mpr nd, fun p hpm => (tup p (r2.mem_iff.mp hpm)).but ho hd sb, by rw [eled]; exact ld, by rw [r2.length_eq, em]; exact room, by rw [em]; exact hm⟩ r2
theorem grow_sizes {m n : Nat} (hm : m = 7 ∨ m = 31 ∨ m = 127 ∨ m = 511) (r : n * 5 < m * 3) (f : (n + 1) * 5 ≥ m * 3) (few : n + 1 ≤ 306) :
    ∃ M, SetTable.sizeAbove (SetTable.grown (n + 1)) - 1 = M ∧ (M = 7 ∨ M = 31 ∨ M = 127 ∨ M = 511) ∧ SetTable.sizeAbove (SetTable.grown (n + 1)) ≤ 512 ∧ (n + 1) * 5 < M * 3 ∧ n + 1 ≤ m := by
  rcases hm with e | e | e | e
  · have en : n = 4 := by omega
    subst en e
    exact ⟨31, by decide +kernel, .inr (.inl rfl), by decide +kernel, by decide, by decide⟩
  · have en : n = 18 := by omega
    subst en e
    exact ⟨127, by decide +kernel, .inr (.inr (.inl rfl)), by decide +kernel, by decide, by decide⟩
  · have en : n = 76 := by omega
    subst en e
    exact ⟨511, by decide +kernel, .inr (.inr (.inr rfl)), by decide +kernel, by decide, by decide⟩
  · omega
/-- one more -/
theorem SR.add (R : SR P w s.heap a L es ep t) {x : Addr} {k : List Str} (hx : IsS P w s.heap k x) (hu : A.units < cLine) (few : L.length + 1 ≤ 306) {Q : Bool → Shared → Prop}
    (hQ : ∀ b h' L' es' ep' t', Heap.SameBut a s.heap h' → SR P w h' a L' es' ep' t' → (k ∈ L.map (·.2) → L' = L) → (k ∉ L.map (·.2) → L'.Perm ((x, k) :: L)) → Q b { s with heap := h' }) :
    wpAny (model P w) A (setAddHashed a (.ref x) (hk P w k)) Q E s := by
  obtain ⟨o, o1, ex, o2⟩ := R.ob
  have el := ents_size R.rows
  have room := R.room
  unfold setAddHashed
  refine wpAny_holding ?_
  rw [show (100000 : Nat) = 99999 + 1 from rfl, setAddHashedIn_succ]
  refine wpAny_bind (wpAny_setState_of o1 o2 R.fits ?_)
  dsimp only
  refine wp_if_neg (by simp [byScan, Value.scannable]) ?_
  try refine wpAny_bind (wpAny_pure ?_)
  refine wpAny_bind (R.look hx hu (fun hm => ?_) fun n hm free before => ?_)
  · dsimp only
    exact wpAny_pure (hQ false s.heap L es ep t (Heap.SameBut.refl a s.heap) R (fun _ => rfl) fun z => absurd hm z)
  · dsimp only
    refine wpAny_bind (wpAny_setState_of o1 o2 R.fits ?_)
    dsimp only
    obtain ⟨q1, q2, q3⟩ := R.tab.more free before
    have hrows : (SetTable.insertAt es (SetTable.below t.place (way t.mask (hk P w k) n)) (hk P w k, Value.ref x)).toList = ents P w (L.take (SetTable.below t.place (way t.mask (hk P w k) n)) ++ (x, k) :: L.drop (SetTable.below t.place (way t.mask (hk P w k) n))) := by
      rw [SetTable.toList_insertAt, ents_put, R.rows]
    have hhash : (L.take (SetTable.below t.place (way t.mask (hk P w k) n)) ++ (x, k) :: L.drop (SetTable.below t.place (way t.mask (hk P w k) n))).map (fun p => hk P w p.2) = (L.map fun p => hk P w p.2).take (SetTable.below t.place (way t.mask (hk P w k) n)) ++ hk P w k :: (L.map fun p => hk P w p.2).drop (SetTable.below t.place (way t.mask (hk P w k) n)) := by
      rw [List.map_append, List.map_cons, List.map_take, List.map_drop]
    rw [← hhash] at q2
    have hmask : (t.put (way t.mask (hk P w k) n)).1.mask = t.mask := rfl
    have hled : (t.put (way t.mask (hk P w k) n)).1.led = t.led := rfl
    have hsnd : (t.put (way t.mask (hk P w k) n)).2 = SetTable.below t.place (way t.mask (hk P w k) n) := rfl
    have pm := put_perm L (SetTable.below t.place (way t.mask (hk P w k) n)) (x, k)
    rw [List.length_map] at q3
    generalize t.put (way t.mask (hk P w k) n) = pt at *
    obtain ⟨t0, p0⟩ := pt
    dsimp only at q2 q3 hmask hled hsnd ⊢
    subst hsnd
    generalize SetTable.below t.place (way t.mask (hk P w k) n) = p at *
    have fin : ∀ t1 : SetTable, t1.mask = t0.mask → t1.led = t0.led → t1.place = t0.place → t1.dummies = t0.dummies →
        wpAny (model P w) A (do
          storeSet a (SetTable.insertAt es p (hk P w k, Value.ref x)) t1
          if !false && t1.tooFull then setRelay a (SetTable.grown (es.size + 1))
          return true) Q E s := by
      intro t1 m1 l1 p1 d1
      have T1 : Tb t1 ((L.take p ++ (x, k) :: L.drop p).map fun p => hk P w p.2) := by
        obtain ⟨a1, a2, a3, a4, a5, a6⟩ := q2
        exact ⟨p1 ▸ a1, d1.trans a2, p1 ▸ a3, m1 ▸ a4, fun y hy => by rw [m1]; exact a5 y (p1 ▸ hy), fun i y j h1 h2 => by rw [m1, p1]; exact a6 i y j h1 (p1 ▸ h2)⟩
      have f1 : t1.fill = L.length + 1 := by
        rw [← q3]
        show t1.place.size + t1.dummies.size = t0.place.size + t0.dummies.size
        rw [p1, d1]
      have el1 := ents_size hrows
      have ln : (L.take p ++ (x, k) :: L.drop p).length = L.length + 1 := pm.length_eq
      have nd1 : ((L.take p ++ (x, k) :: L.drop p).map (·.2)).Nodup := by
        refine (pm.map (·.2)).nodup_iff.mpr ?_
        rw [List.map_cons]
        exact List.nodup_cons.mpr ⟨hm, R.nd⟩
      rw [ln] at el1
      have rows1 := hrows
      generalize SetTable.insertAt es p (hk P w k, Value.ref x) = es1 at *
      generalize L.take p ++ (x, k) :: L.drop p = L1 at *
      refine wpAny_bind (wpAny_storeSet_of o1 o2 ?_ (by rw [el1, sizeLine_eq]; omega))
      have sb : Heap.SameBut a s.heap (s.heap.update a (Obj.putSet es1 t1)) := Heap.SameBut.update ..
      have at1 := store_at (es' := es1) (t' := t1) o1 o2
      generalize s.heap.update a (Obj.putSet es1 t1) = h1 at *
      have tup1 : ∀ p ∈ L1, IsS P w h1 p.2 p.1 := fun p hp => by
        rcases List.mem_cons.mp (pm.mem_iff.mp hp) with rfl | hp
        · exact IsS.but hx o1 o2 sb
        · exact (R.tup p hp).but o1 o2 sb
      have ld1 : w.params.followText "set-order" = true ∨ t1.led = true := by
        rw [l1, hled]
        exact R.led
      by_cases full : t1.tooFull = true
      · have f2 : (L.length + 1) * 5 ≥ t.mask * 3 := by
          unfold SetTable.tooFull at full
          rw [decide_eq_true_eq, f1, m1, hmask] at full
          exact full
        obtain ⟨M, g1, g2, g3, g4, g5⟩ := grow_sizes R.four room f2 few
        have sz1 : t1.place.size = es1.size := by
          have h := T1.size
          rw [List.length_map] at h
          omega
        have relay : ∀ {Q2 : Unit → Shared → Prop}, (∀ h2 L2 es2 ep2 t2, Heap.SameBut a h1 h2 → SR P w h2 a L2 es2 ep2 t2 → L2.Perm L1 → Q2 () { s with heap := h2 }) → wpAny (model P w) A (setRelay a (SetTable.grown (es.size + 1))) Q2 E { s with heap := h1 } := fun hq => by
          rw [el]
          exact relay_s (s := { s with heap := h1 }) at1 ⟨ex.1, ex.2.1, ex.2.2⟩ rfl rows1 sz1 T1.none (by rw [el1, m1, hmask]; exact g5) nd1 tup1 ld1 g1 g2 g3 (by rw [ln]; exact g4) hq
        first
          | (refine wpAny_bind ?_; refine wp_if_pos (by simp [full]) ?_; exact relay fun h2 L2 es2 ep2 t2 sb2 R2 pm2 => wpAny_pure (hQ true h2 L2 es2 ep2 t2 (sb.trans sb2) R2 (fun z => absurd z hm) fun _ => pm2.trans pm))
          | (refine wp_if_pos (by simp [full]) ?_; refine wpAny_bind ?_; exact relay fun h2 L2 es2 ep2 t2 sb2 R2 pm2 => wpAny_pure (hQ true h2 L2 es2 ep2 t2 (sb.trans sb2) R2 (fun z => absurd z hm) fun _ => pm2.trans pm))
      · have R1 : SR P w h1 a L1 es1 (ep + 1) t1 := ⟨⟨_, at1, ⟨ex.1, ex.2.1, ex.2.2⟩, rfl⟩, rows1, T1, nd1, tup1, ld1, by
          unfold SetTable.tooFull at full
          rw [decide_eq_true_eq, f1] at full
          rw [ln]
          omega, by rw [m1, hmask]; exact R.four⟩
        first
          | exact wp_if_neg (by simp [full]) (wpAny_pure (hQ true h1 L1 es1 (ep + 1) t1 sb R1 (fun z => absurd z hm) fun _ => pm))
          | exact wpAny_bind (wp_if_neg (by simp [full]) (wpAny_pure (wpAny_pure (hQ true h1 L1 es1 (ep + 1) t1 sb R1 (fun z => absurd z hm) fun _ => pm))))
    by_cases pl : t0.plain = true
    · first
        | (refine wpAny_bind ?_; refine wp_if_pos pl ?_; refine hby_tup hx fun c => ?_)
        | refine wp_if_pos pl (wpAny_bind (hby_tup hx fun c => ?_))
      cases c
      · exact fin { t0 with plain := false } rfl rfl rfl rfl
      · exact fin t0 rfl rfl rfl rfl
    · first
        | (refine wpAny_bind ?_; refine wp_if_neg pl ?_; refine wpAny_pure ?_; exact fin t0 rfl rfl rfl rfl)
        | (refine wp_if_neg pl ?_; refine wpAny_bind (wpAny_pure ?_); exact fin t0 rfl rfl rfl rfl)
end
end HF
namespace HF
open PySem PySem.Spec PyProof.Rows L2
/-- what the first i of ks have left -/
structure Gt (ks : SL) (i : Nat) (L : SL) : Prop where
  sub : ∀ p ∈ L, p ∈ ks.take i
  all : ∀ p ∈ ks.take i, p.2 ∈ L.map (·.2)
  few : L.length ≤ i
theorem Gt.none (ks : SL) : Gt ks 0 [] := ⟨fun p h => (nomatch h), fun p h => by simp at h, Nat.le_refl _⟩
theorem take1 {ks : SL} {i : Nat} {p : Addr × List Str} (h : ks[i]? = some p) : ks.take (i + 1) = ks.take i ++ [p] := by
  rw [List.take_add_one, h]
  rfl
theorem Gt.same {ks L : SL} {i : Nat} {p : Addr × List Str} (g : Gt ks i L) (h : ks[i]? = some p) (hm : p.2 ∈ L.map (·.2)) : Gt ks (i + 1) L := by
  refine ⟨fun q hq => ?_, fun q hq => ?_, Nat.le_succ_of_le g.few⟩
  · rw [take1 h]
    exact List.mem_append_left _ (g.sub q hq)
  · rw [take1 h] at hq
    exact (List.mem_append.mp hq).elim (g.all q) fun z => (List.mem_singleton.mp z) ▸ hm
theorem Gt.more {ks L L' : SL} {i : Nat} {p : Addr × List Str} (g : Gt ks i L) (h : ks[i]? = some p) (pm : L'.Perm (p :: L)) : Gt ks (i + 1) L' := by
  refine ⟨fun q hq => ?_, fun q hq => ?_, ?_⟩
  · rw [take1 h]
    exact (List.mem_cons.mp (pm.mem_iff.mp hq)).elim (fun e => List.mem_append_right _ (List.mem_singleton.mpr e)) fun z => List.mem_append_left _ (g.sub q z)
  · rw [(pm.map (·.2)).mem_iff, List.map_cons]
    rw [take1 h] at hq
    exact (List.mem_append.mp hq).elim (fun z => List.mem_cons_of_mem _ (g.all q z)) fun z => (List.mem_singleton.mp z) ▸ List.mem_cons_self
  · rw [pm.length_eq, List.length_cons]
    exact Nat.succ_le_succ g.few
section
variable {P : Program} {w : World} {A : Around} {E : Value → Shared → Prop} {s : Shared}
theorem SR.keep {h h' : Heap} {a : Addr} {L : SL} {es : Array (Int × Value)} {ep : Nat} {t : SetTable} (R : SR P w h a L es ep t) (ha : ∀ o, h.get? a = some o → h'.get? a = some o) (ht : ∀ p ∈ L, IsS P w h' p.2 p.1) : SR P w h' a L es ep t := by
  obtain ⟨o, ho, r⟩ := R.ob
  exact ⟨⟨o, ha o ho, r⟩, R.rows, R.tab, R.nd, ht, R.led, R.room, R.four⟩
abbrev bareSet (w : World) : Obj := { cls := .type "set", dict := none, data := .set #[] 0 (.fresh 0 0 (!w.params.followText "set-order")) }
theorem SR.bare {h : Heap} {a : Addr} (ho : h.get? a = some (bareSet w)) : SR P w h a [] #[] 0 (.fresh 0 0 (!w.params.followText "set-order")) := by
  refine ⟨⟨_, ho, ⟨rfl, rfl, rfl⟩, rfl⟩, rfl, ⟨List.Pairwise.nil, rfl, rfl, mo7, fun y hy => (nomatch hy), fun i y j hi => by simp at hi⟩, List.nodup_nil, fun p hp => (nomatch hp), ?_, by show 0 * 5 < 7 * 3; decide, .inl rfl⟩
  show _ ∨ (!w.params.followText "set-order") = true
  cases w.params.followText "set-order"
  · exact .inr rfl
  · exact .inl rfl
theorem update_s {I : Addr} {fp wr : List Addr} {G : Array GenState → Array GenState → Prop} {n : Nat} {Pv : Nat → Value → Prop} {St : Nat → Shared → Prop} {R : Result → Shared → Prop}
    (W : WalksS P w A.in1 I fp wr G n Pv St) (S : Addr) (out : S ∉ fp) (ks : SL) (hn : n = ks.length) (few : ks.length ≤ 306) (vals : ∀ i v, Pv i v → ∃ p, ks[i]? = some p ∧ v = .ref p.1)
    (h0 : Heap) (tups : ∀ p ∈ ks, IsS P w h0 p.2 p.1) (new : h0.get? S = none) (new2 : ∀ b ∈ wr, h0.get? b = none) (hu : A.in1.units < cLine) :
    ∀ (k i : Nat) (st : Shared), n - i = k → i ≤ n → St i st → (∀ b o, h0.get? b = some o → st.heap.get? b = some o) → (∃ L es ep t, SR P w st.heap S L es ep t ∧ Gt ks i L) →
      (∀ s' L es ep t, Moved (S :: wr) G st s' → SR P w s'.heap S L es ep t → Gt ks n L → (∀ b o, h0.get? b = some o → s'.heap.get? b = some o) → R (.ok (.ret .none)) s') →
      codeAny (model P w) A (.builtin "set.update.loop" ⟨[.ref S, .ref I], []⟩) R st := by
  have outw : S ∉ wr := fun h => out (W.sub _ h)
  have wider : ∀ b ∈ wr, b ∈ S :: wr := fun b hb => List.mem_cons_of_mem _ hb
  have stays : ∀ {s1 s2 : Shared}, Moved wr G s1 s2 → (∀ b o, h0.get? b = some o → s1.heap.get? b = some o) → ∀ b o, h0.get? b = some o → s2.heap.get? b = some o := fun mv kp b o e =>
    mv.heap b o (fun hb => by rw [new2 b hb] at e; cases e) (kp b o e)
  have part : ∀ {i : Nat} {L : SL}, Gt ks i L → ∀ p ∈ L, p ∈ ks := fun g p hp => List.mem_of_mem_take (g.sub p hp)
  intro k
  induction k with
  | zero =>
    rintro i st e0 hi hst kp ⟨L, es, ep, t, hS, g⟩ hR
    obtain rfl : i = n := by omega
    refine codeAny_builtin F.entry_set_update_loop ?_
    rw [Around.under_plainId F.plain_set_update_loop _]
    show wpAny _ A.in1 (pyNext (.ref I) >>= _) _ _ st
    refine wpAny_bind (W.done st _ _ hst fun s1 mv => ?_)
    have kp1 := stays mv kp
    show wpAny _ A.in1 (ret Value.none) _ _ s1
    exact wpAny_pure (hR s1 L es ep t (mv.mono wider) (hS.keep (fun o e => mv.heap S o outw e) fun p hp => (tups p (part g p hp)).keep kp1) g kp1)
  | succ k ih =>
    rintro i st e0 hi hst kp ⟨L, es, ep, t, hS, g⟩ hR
    have lt : i < n := by omega
    refine codeAny_builtin F.entry_set_update_loop ?_
    rw [Around.under_plainId F.plain_set_update_loop _]
    show wpAny _ A.in1 (pyNext (.ref I) >>= _) _ _ st
    refine wpAny_bind (W.item i st _ _ lt hst fun v s1 hP hst1 mv => ?_)
    obtain ⟨p, hp, rfl⟩ := vals i v hP
    have kp1 := stays mv kp
    have hS1 : SR P w s1.heap S L es ep t := hS.keep (fun o e => mv.heap S o outw e) fun q hq => (tups q (part g q hq)).keep kp1
    have hx : IsS P w s1.heap p.2 p.1 := (tups p (List.mem_of_getElem? hp)).keep kp1
    show wpAny _ A.in1 (holding [Value.ref p.1] (setAdd S (.ref p.1)) >>= _) _ _ s1
    refine wpAny_bind (wpAny_holding ?_)
    unfold setAdd
    refine wpAny_holding (wpAny_bind (wpAny_pyHash_tuple hu hx ?_))
    refine SR.add (s := { s1 with toks := s1.toks + (p.2.length + 1) }) hS1 hx hu (by have := g.few; omega) fun b h2 L2 es2 ep2 t2 sb hS2 c1 c2 => ?_
    have g2 : Gt ks (i + 1) L2 := by
      by_cases c : p.2 ∈ L.map (·.2)
      · rw [c1 c]
        exact g.same hp c
      · exact g.more hp (c2 c)
    have kp2 : ∀ b o, h0.get? b = some o → h2.get? b = some o := fun b o e => (sb.2 b fun z => by rw [z, new] at e; cases e).trans (kp1 b o e)
    refine wpAny_pure ⟨plainId_quiet F.plain_set_update_loop _, ih (i + 1) _ (by omega) lt (W.frame _ s1 _ _ hst1 (Nat.le_add_right _ _) fun b hb o e => ?_) kp2 ⟨L2, es2, ep2, t2, hS2, g2⟩ fun s3 L3 es3 ep3 t3 mv3 hS3 g3 kp3 => ?_⟩
    · rw [sb.2 b fun z => out (z ▸ hb)]
      exact e
    · refine hR s3 L3 es3 ep3 t3 (Moved.trans W.gtrans ((mv.mono wider).then_heap (Nat.le_add_right _ _) fun b o hb e => ?_) mv3) hS3 g3 kp3
      rw [sb.2 b fun z => hb (z ▸ List.mem_cons_self)]
      exact e
theorem call_set_s {l : Addr} {items : Array Value} (ks : SL) {Q : Value → Shared → Prop} (hh : A.handled = none) (hl : s.heap.IsList l items) (hit : items.toList = ks.map fun p => Value.ref p.1)
    (tups : ∀ p ∈ ks, IsS P w s.heap p.2 p.1) (few : ks.length ≤ 306) (hu : A.units + 3 < cLine)
    (hQ : ∀ (h' : Heap) (tk : Nat) L es ep t, SR P w h' s.heap.objs.size L es ep t → Gt ks ks.length L → (∀ b o, s.heap.get? b = some o → h'.get? b = some o) → Q (.ref s.heap.objs.size) { s with heap := h', toks := tk }) :
    wpAny (model P w) A (call (.type "set") [.ref l]) Q E s := by
  have many : items.size = ks.length := by
    have q := congrArg List.length hit
    rw [Array.length_toList, List.length_map] at q
    exact q
  obtain ⟨c, tl, hmro⟩ := F.called_set.mro
  have hmade := F.called_set.made
  have hsub := F.called_set.sub
  refine wpAny_call (codeAny_of_tree ?_)
  show wpAny _ _ (callAny (.type "set") _) _ _ _
  refine wpAny_pure ⟨Code.quiet_builtin _ (by decide +kernel), codeAny_builtin F.entry_type_call ?_⟩
  rw [Around.under_plain (weight_type_call_type "set" [.ref l] []) rfl]
  have h1 := F.called_set.notType
  have h2 := F.called_set.canCreate
  have hct := F.typeCall_set_1 (.ref l)
  repeat (any_goals (first | assumption | wp_step))
  refine codeAny_mono (code_set_led1 (.ref l) (E := E) (Q₁ := fun obj s₁ => obj = .ref s.heap.objs.size ∧ s₁ = { s with heap := s.heap.push (bareSet w) }) ⟨rfl, rfl⟩) fun r s₁ hr => ?_
  cases r with
  | error e => exact hr
  | ok fl =>
    cases fl with
    | ret obj =>
      obtain ⟨rfl, rfl⟩ := hr
      have atS : (s.heap.push (bareSet w)).get? s.heap.objs.size = some (bareSet w) := Heap.get?_push_size _ rfl
      have hT : Shared.TypeIs { s with heap := s.heap.push (bareSet w) } (.ref s.heap.objs.size) "set" := ⟨_, atS, rfl⟩
      have hli := F.called_set.init.lookup
      have hbi := F.called_set.init.bind (.ref s.heap.objs.size)
      repeat (any_goals (first | assumption | wp_step))
      refine codeAny_mono (codeAny_call_builtin (R := wants (fun r s₂ => r = .none ∧ ∃ h' tk L es ep t, s₂ = { s with heap := h', toks := tk } ∧ SR P w h' s.heap.objs.size L es ep t ∧ Gt ks ks.length L ∧ (∀ b o, s.heap.get? b = some o → h'.get? b = some o)) E) F.called_set.init.plain F.entry_set_init (check_set_init_1 hT ?_)) fun r₂ s₂ hr₂ => ?_
      · obtain ⟨⟨ocls, odict, odata, oslots⟩, hol, hcl, nl, hdl⟩ := hl
        simp only at hcl hdl
        subst hcl hdl
        have hol1 : (s.heap.push (bareSet w)).get? l = some { cls := .type "list", dict := odict, data := .seq items nl, slots := oslots } := Heap.get?_push_of_some _ hol
        have hsls := F.sub_list_set
        have hslf := F.sub_list_frozenset
        have hne : (Value.type "list" == Value.type "dict") = false := by decide
        have hl1 : (s.heap.push (bareSet w)).IsList l items := ⟨_, hol1, rfl, nl, rfl⟩
        unfold Builtin.«set.__init__» noKeywords Builtin.Frozenset.updateFrom
        generalize hPI : pyIter = PI
        wp_walk
        subst hPI
        refine wpAny_pyIter_list hl1 (wpAny_bind (wpAny_runValue ?_))
        have ltl : l < s.heap.objs.size := Heap.lt_size hol
        have sz1 : (s.heap.push (bareSet w)).objs.size = s.heap.objs.size + 1 := Heap.size_push ..
        have hval : ∀ (i : Nat) (v : Value), items[i]? = some v → ∃ p, ks[i]? = some p ∧ v = .ref p.1 := fun i v hv => by
          have q : items.toList[i]? = some v := by
            rw [Array.getElem?_toList]
            exact hv
          rw [hit, List.getElem?_map] at q
          obtain ⟨p, hp, e⟩ := Option.map_eq_some_iff.mp q
          exact ⟨p, hp, e.symm⟩
        have beyond : ∀ b, s.heap.objs.size ≤ b → s.heap.get? b = none := fun b hb => by
          cases q : s.heap.get? b with
          | none => rfl
          | some o => exact absurd (Nat.lt_of_lt_of_le (Heap.lt_size q) hb) (Nat.lt_irrefl _)
        refine update_s ((Walks.list (by simp [hh]) _ l (by rw [sz1]; exact Nat.ne_of_lt (Nat.lt_succ_of_lt ltl)) items).toS) s.heap.objs.size
          (by rw [sz1]; simp only [List.mem_cons, List.not_mem_nil, or_false, not_or]; exact ⟨Nat.ne_of_lt (Nat.lt_succ_self _), Nat.ne_of_gt ltl⟩) ks many few hval s.heap tups (beyond _ (Nat.le_refl _))
          (fun b hb => beyond b (by rw [List.mem_singleton.mp hb, sz1]; exact Nat.le_succ _)) hu (items.size - 0) 0 _ (by omega) (Nat.zero_le _)
          ⟨⟨_, Heap.get?_push_size _ rfl, rfl, rfl⟩, (hl1.push _)⟩ (fun b o e => Heap.get?_push_of_some _ (Heap.get?_push_of_some _ e)) ?hS0 ?hR
        case hS0 =>
          exact ⟨[], #[], 0, _, SR.bare (Heap.get?_push_of_some _ atS), Gt.none ks⟩
        case hR =>
          rintro ⟨h', g2, d', tk', os'⟩ L es ep t mv hS' g' kp
          have eg : g2 = s.gens := mv.gens
          have ed : d' = s.drawn := mv.drawn
          have eo : os' = s.os := mv.os
          subst eg ed eo
          show wpAny _ _ _ _ _ _
          refine wpAny_pure ?_
          show wpAny _ _ (ret Value.none) _ _ _
          rw [many] at g'
          exact wpAny_pure ⟨rfl, h', tk', L, es, ep, t, rfl, hS', g', kp⟩
      · cases r₂ with
        | error e => exact hr₂
        | ok fl₂ =>
          cases fl₂ with
          | ret r =>
            obtain ⟨rfl, h', tk, L, es, ep, t, rfl, hS', g', kp⟩ := hr₂
            repeat (any_goals (first | assumption | wp_step))
            exact hQ _ _ _ _ _ _ hS' g' kp
          | _ => exact hr₂.elim
    | _ => exact hr.elim
end
end HF
namespace HF
open PySem PySem.Spec PyProof.Rows L2
theorem perm_back {α β : Type} {f : α → β} {l m : List β} (h : l.Perm m) : ∀ L : List α, m = L.map f → ∃ L1 : List α, L1.Perm L ∧ l = L1.map f := by
  induction h with
  | nil =>
    intro L e
    cases L with
    | nil => exact ⟨[], .refl _, rfl⟩
    | cons _ _ => cases e
  | cons x _ ih =>
    intro L e
    cases L with
    | nil => cases e
    | cons y r =>
      rw [List.map_cons] at e
      cases e
      obtain ⟨L1, p, rfl⟩ := ih r rfl
      exact ⟨y :: L1, p.cons y, rfl⟩
  | swap x y l =>
    intro L e
    cases L with
    | nil => cases e
    | cons a r =>
      cases r with
      | nil => cases e
      | cons b r =>
        rw [List.map_cons, List.map_cons] at e
        cases e
        exact ⟨b :: a :: r, .swap a b r, rfl⟩
  | trans _ _ ih1 ih2 =>
    intro L e
    obtain ⟨L1, p1, e1⟩ := ih2 L e
    obtain ⟨L2, p2, e2⟩ := ih1 L1 e1
    exact ⟨L2, p2.trans p1, e2⟩
/-- the data of such a tuple -/
abbrev encS (p : Addr × List Str) : PyData := .tuple (p.2.map PyData.str)
section
variable {P : Program} {w : World} {A : Around} {E : Value → Shared → Prop} {s : Shared}
theorem reads_items {h : Heap} {k : List Str} {vs : List Value} (hi : ItemsAre (strKind P w) k vs) : ReadsAll h vs (k.map PyData.str) [] := by
  induction hi with
  | nil => exact .nil
  | @cons k0 v ks vs h1 _ ih =>
    obtain ⟨tk, rfl⟩ := Value.isStrOf_shape (x := k0) h1
    exact ReadsAll.cons (as := []) (bs := []) (.str _ _) ih
theorem IsS.reads {h : Heap} {k : List Str} {b : Addr} (hb : IsS P w h k b) : Reads h (.ref b) (.tuple (k.map PyData.str)) [] := by
  obtain ⟨o, its, n, h1, h2, h3, h4⟩ := hb
  exact .tuple h1 h2 h3 (reads_items h4)
theorem alike_strs : ∀ {xs ys : List Str}, xs.length = ys.length → PySem.W.alikeAll (xs.map PyData.str) (ys.map PyData.str) = true
  | [], [], _ => rfl
  | x :: xs, y :: ys, h => by
    show (true && PySem.W.alikeAll (xs.map PyData.str) (ys.map PyData.str)) = true
    rw [alike_strs (by simpa using h)]
    rfl
theorem each_refs {h : Heap} : ∀ {L : SL}, (∀ p ∈ L, IsS P w h p.2 p.1) → PySem.W.EachIs (fun v (p : Addr × List Str) => ∃ as, Reads h v (encS p) as ∧ ∀ a : Addr, a ∉ as) (L.map fun p => Value.ref p.1) L
  | [], _ => .nil
  | p :: r, h => .cons ⟨[], (h p List.mem_cons_self).reads, fun a z => (nomatch z)⟩ (each_refs fun q hq => h q (List.mem_cons_of_mem _ hq))
theorem each_self : ∀ L : SL, PySem.W.EachIs (fun v (p : Addr × List Str) => v = Value.ref p.1) (L.map fun p => Value.ref p.1) L
  | [] => .nil
  | p :: r => .cons rfl (each_self r)
theorem each_out : ∀ {out : List Value} {L : SL}, PySem.W.EachIs (fun v (p : Addr × List Str) => v = Value.ref p.1) out L → out = L.map fun p => Value.ref p.1
  | _, _, .nil => rfl
  | _, _, .cons h t => by rw [h, each_out t]; rfl
theorem depth_encS (p : Addr × List Str) : (encS p).depth = 1 := by
  have key : ∀ zs : List Str, PyData.depthAll (zs.map PyData.str) = 0 := by
    intro zs
    induction zs with
    | nil => rfl
    | cons z r ih =>
      show max 0 (PyData.depthAll (r.map PyData.str)) = 0
      rw [ih]
      rfl
  show PyData.depthAll (p.2.map PyData.str) + 1 = 1
  rw [key]
theorem sorted_s {a : Addr} {L : SL} {es : Array (Int × Value)} {ep : Nat} {t : SetTable} {Q : Value → Shared → Prop} (R : SR P w s.heap a L es ep t) (hh : A.handled = none) (hu : A.units + 64 < cLine) {d : Nat} (hlen : ∀ p ∈ L, p.2.length = d + 1) (few : L.length ≤ 306)
    (hQ : ∀ (s' : Shared) (p : Addr) (out : Array Value) (c : Nat) (L' : SL), (∀ b o, s.heap.get? b = some o → s'.heap.get? b = some o) → s'.gens = s.gens → s'.os = s.os → s.heap.objs.size ≤ p → s'.heap.get? p = some (seqObj "list" out c) → out.toList = L'.map (fun q => Value.ref q.1) → L'.Perm L →
      L'.Pairwise (fun p q => PySem.W.dataLe false encS p q = true) → Q (.ref p) s') :
    wpAny (model P w) A (call (.builtin "sorted") [.ref a]) Q E s := by
  obtain ⟨o, o1, ex, o2⟩ := R.ob
  have el := ents_size R.rows
  refine Calls.call_function_entry kind_sorted plain_sorted entry_sorted (args_sorted1 _) ?_
  unfold Builtin.«sorted»
  refine wpAny_bind (m := checkCount "sorted" 1 1 _) (wpAny_pure ?_)
  refine wpAny_bind (collect_set (A := A.in1) hh ⟨o, o1, ex.1, o2⟩ R.fits (by unfold scanBound; omega) R.tab.up R.led fun s1 vs k1 hz g1 os1 pm => ?_)
  have hes : es.toList.map (·.2) = L.map fun q => Value.ref q.1 := by
    rw [R.rows]
    unfold ents
    rw [List.map_map]
    rfl
  rw [hes] at pm
  obtain ⟨L1, p1, rfl⟩ := perm_back pm L rfl
  have many : (L1.map fun q => Value.ref q.1).length ≤ 306 := by rw [List.length_map, p1.length_eq]; exact few
  refine wpAny_bind (wpAny_newList ?_ (by rw [sizeLine_eq]; omega))
  have hoL : (s1.heap.push (seqObj "list" (L1.map fun q => Value.ref q.1).toArray 0)).get? s1.heap.objs.size = some (seqObj "list" (L1.map fun q => Value.ref q.1).toArray 0) := Heap.get?_push_size _ rfl
  have tup1 : ∀ q ∈ L1, IsS P w (s1.heap.push (seqObj "list" (L1.map fun q => Value.ref q.1).toArray 0)) q.2 q.1 := fun q hq => (R.tup q (p1.mem_iff.mp hq)).keep fun b u e => Heap.get?_push_of_some _ (k1 b u e)
  have len1 : ∀ q ∈ L1, q.2.length = d + 1 := fun q hq => hlen q (p1.mem_iff.mp hq)
  have hal : PySem.W.AllAlike (L1.map encS) := fun x hx y hy => by
    obtain ⟨q, hq, rfl⟩ := List.mem_map.mp hx
    obtain ⟨r, hr, rfl⟩ := List.mem_map.mp hy
    exact alike_strs ((len1 q hq).trans (len1 r hr).symm)
  have hso : PySem.W.Sortable (L1.map encS) := .inl fun x hx => by
    obtain ⟨q, hq, rfl⟩ := List.mem_map.mp hx
    have := len1 q hq
    cases e : q.2 with
    | nil => rw [e] at this; cases this
    | cons z r => exact ⟨.str z, r.map PyData.str, by show PyData.tuple (q.2.map PyData.str) = _; rw [e]; rfl⟩
  refine wpAny_bind (wpAny_holding (PySem.W.list_sort_data (s := { s1 with heap := s1.heap.push (seqObj "list" (L1.map fun q => Value.ref q.1).toArray 0) }) (enc := encS) hoL (each_self L1)
    ((each_refs tup1).mono fun v p ⟨as, h1, h2⟩ => ⟨as, h1, h2 _⟩) hal hso (by have h5 := many; rw [List.length_map] at h5; rw [sizeLine_eq]; omega) (fun b _ => by rw [depth_encS]; show A.units + 1 + 1 + 1 < cLine; omega) fun out ho eo => ?_))
  have eout := each_out eo
  obtain ⟨c, hc⟩ := sortedHeap_at (vs := L1.map fun q => Value.ref q.1) (out := List.toArray out) hoL
  have pmS := List.mergeSort_perm L1 (PySem.W.dataLe false encS)
  refine wpAny_pure ⟨_, rfl, hQ _ s1.heap.objs.size (List.toArray out) c _ (fun b u e => ?_) g1 os1 hz hc (by rw [← eout]) (pmS.trans p1) ?_⟩
  · have q := k1 b u e
    have lt := Heap.lt_size q
    show (sortedHeap (s1.heap.push (seqObj "list" (L1.map fun q => Value.ref q.1).toArray 0)) s1.heap.objs.size _ _).get? b = some u
    rw [sortedHeap_old (Nat.ne_of_lt lt) (by rw [size_push']; exact Nat.lt_succ_of_lt lt)]
    exact Heap.get?_push_of_some _ q
  · exact PySem.W.sort_pairwise (PySem.W.sortLe_total (PyProof.Rows.listOrd PyProof.Rows.itemOrd) false fun b : Addr × List Str => PySem.W.keyToks (encS b)) L1
end
/-- the set at a, without the tuples themselves -/
def S0 (P : Program) (w : World) (h : Heap) (a : Addr) (L : SL) : Prop := ∃ (es : Array (Int × Value)) (ep : Nat) (t : SetTable), (∃ o, h.get? a = some o ∧ o.ExactSet ∧ o.data = .set es ep t) ∧ es.toList = ents P w L ∧ Tb t (L.map fun p => hk P w p.2) ∧ (L.map (·.2)).Nodup ∧
  (w.params.followText "set-order" = true ∨ t.led = true) ∧ L.length * 5 < t.mask * 3 ∧ (t.mask = 7 ∨ t.mask = 31 ∨ t.mask = 127 ∨ t.mask = 511)
def SetO (P : Program) (w : World) (a : Addr) (L : SL) : HO := .ext fun h => S0 P w h a L
theorem SR.s0 {P : Program} {w : World} {h : Heap} {a : Addr} {L : SL} {es : Array (Int × Value)} {ep : Nat} {t : SetTable} (R : SR P w h a L es ep t) : S0 P w h a L := ⟨es, ep, t, R.ob, R.rows, R.tab, R.nd, R.led, R.room, R.four⟩
theorem S0.full {P : Program} {w : World} {h : Heap} {a : Addr} {L : SL} (R : S0 P w h a L) (ht : ∀ p ∈ L, IsS P w h p.2 p.1) : ∃ es ep t, SR P w h a L es ep t := by
  obtain ⟨es, ep, t, h1, h2, h3, h4, h5, h6, h7⟩ := R
  exact ⟨es, ep, t, h1, h2, h3, h4, ht, h5, h6, h7⟩
theorem SetO.new {P : Program} {w : World} {H : Hp} {h : Heap} {a : Addr} {L : SL} (R : S0 P w h a L) : ObjOk P w H h a (SetO P w a L) := by
  have ⟨_, _, _, ⟨o, ho, _⟩, _⟩ := R
  refine ⟨R, ⟨o, ho⟩, fun h1 h2 p kp => ?_⟩
  obtain ⟨es, ep, t, ⟨o2, ho2, r⟩, q⟩ := (show S0 P w h1 a L from p)
  exact ⟨es, ep, t, ⟨o2, kp o2 ho2, r⟩, q⟩
theorem items_vals {P : Program} {w : World} : ∀ {k : List Str} {us : List Value}, Vals (k.map V.str) us → ItemsAre (strKind P w) k us
  | [], _, .nil => .nil
  | n :: k, _, .cons r t => by
    obtain ⟨tk, rfl⟩ := r
    exact .cons (by show Value.isStrOf n (.str n tk) = true; simp [Value.isStrOf]) (items_vals t)
theorem refs_vals : ∀ {ks : SL} {us : List Value}, Vals (ks.map fun p => V.ref p.1) us → us = ks.map fun p => Value.ref p.1
  | [], _, .nil => rfl
  | p :: ks, _, .cons r t => by
    cases r
    rw [refs_vals t]
    rfl
theorem vals_refs : ∀ (ks : SL), Vals (ks.map fun p => V.ref p.1) (ks.map fun p => Value.ref p.1)
  | [] => .nil
  | p :: ks => .cons rfl (vals_refs ks)
section
variable {X : Cx}
theorem isS_of {pins : List (Addr × Obj)} {σ : L2.St} {H : Hp} {s : Shared} {b : Addr} {k : List Str} (I : Inv X pins σ H s) (h : SqT X.K H b (k.map V.str)) : IsS X.prog X.w s.heap k b := by
  obtain ⟨its, r, ⟨o, h1, h2, n, h3⟩, _⟩ := I.tuple h
  exact ⟨o, its.toArray, n, h1, h2, h3, by simpa using items_vals r⟩
/-- set(xs), xs a list of tuples of texts -/
def rSetS (K : PySem.W.Frag) (P : Program) (w : World) : List V → Hp → VK → Prop := fun us H Q => ∃ (l : Addr) (ks : SL), us = [V.ref l] ∧ SqL K H l (ks.map fun p => V.ref p.1) ∧ (∀ p ∈ ks, SqT K H p.1 (p.2.map V.str)) ∧ ks.length ≤ 306 ∧
  ∀ a L, H a = none → (∀ p ∈ L, p ∈ ks) → (∀ p ∈ ks, p.2 ∈ L.map (·.2)) → (L.map (·.2)).Nodup → L.length ≤ ks.length → Q (.ref a) (upd H a (SetO P w a L))
theorem cr_setS (hc : X.calm = true) (hu : X.A.units + 64 < cLine) : CallR X (.type "set") (rSetS X.K X.prog X.w) := by
  intro pins st σ H us ws Q I rel hyp
  obtain ⟨l, ks, rfl, hl, ht, few, q⟩ := hyp
  rw [Vals.ref1 rel]
  obtain ⟨its, rv, pl, hz⟩ := I.list hl
  refine call_set_s (P := X.prog) (w := X.w) ks (I.ok.hd hc) pl.isList (by simpa using refs_vals rv) (fun p hp => isS_of I (ht p hp)) few (by omega) fun h1 tk L es ep t R g kp => ?_
  exact ⟨.ref st.heap.objs.size, _, I.laid (t' := tk) kp (Nat.le_refl _) (SetO.new R.s0), rfl, q _ L (I.hok.fresh (Nat.le_refl _)) (fun p hp => List.mem_of_mem_take (g.sub p hp)) (fun p hp => g.all p (by rw [List.take_length]; exact hp)) R.nd g.few⟩
/-- sorted(set) -/
def rSortS (K : PySem.W.Frag) (P : Program) (w : World) : List V → Hp → VK → Prop := fun us H Q => ∃ (a : Addr) (L : SL) (d : Nat), us = [V.ref a] ∧ H a = some (SetO P w a L) ∧ (∀ p ∈ L, SqT K H p.1 (p.2.map V.str)) ∧ (∀ p ∈ L, p.2.length = d + 1) ∧ L.length ≤ 306 ∧
  ∀ (L' : SL) (p : Addr), L'.Perm L → (L'.map (·.2)).Nodup → L'.Pairwise (fun p q => PySem.W.dataLe false encS p q = true) → H p = none → Q (.ref p) (upd H p (.lst (L'.map fun q => V.ref q.1)))
theorem cr_sortS (hc : X.calm = true) (hu : X.A.units + 64 < cLine) : CallR X (.builtin "sorted") (rSortS X.K X.prog X.w) := by
  intro pins st σ H us ws Q I rel hyp
  obtain ⟨a, L, d, rfl, ha, ht, hlen, few, q⟩ := hyp
  obtain ⟨es, ep, t, R⟩ := S0.full (show S0 X.prog X.w st.heap a L from (I.hok a _ ha).1) fun p hp => isS_of I (ht p hp)
  rw [Vals.ref1 rel]
  refine sorted_s R (I.ok.hd hc) hu hlen few fun s2 p out c L2 kp g2 o2 hp hg hout pm pw => ?_
  have fresh : H p = none := I.hok.fresh hp
  have hv : Vals (L2.map fun q => V.ref q.1) out.toList := hout ▸ vals_refs L2
  have hz : (L2.map fun q => V.ref q.1).length ≤ sizeLine := by
    rw [List.length_map, pm.length_eq, sizeLine_eq]
    omega
  have J : Inv X pins σ (upd H p (.lst (L2.map fun q => V.ref q.1))) { st with heap := s2.heap, gens := s2.gens, drawn := s2.drawn, toks := s2.toks } :=
    I.call (ch := []) (Un.laid kp hp fresh) (I.hok.laid kp hp ⟨hz, out.toList, c, hv, hg⟩) (by rw [g2]; exact I.bare) (fun _ z => nomatch z)
  have e : s2 = { st with heap := s2.heap, gens := s2.gens, drawn := s2.drawn, toks := s2.toks } := by
    cases s2
    cases st
    cases o2
    rfl
  rw [e]
  exact ⟨.ref p, _, J, rfl, q L2 p pm ((pm.map (·.2)).nodup_iff.mpr R.nd) pw fresh⟩
end
end HF
namespace HF
open PySem PySem.Spec PyProof.Rows L2
theorem show_strs : ∀ zs : List Str, PyData.showableAll (zs.map PyData.str) = true
  | [] => rfl
  | z :: r => show_strs r
theorem nodict_strs : ∀ zs : List Str, PyData.hasDictAll (zs.map PyData.str) = false
  | [] => rfl
  | z :: r => nodict_strs r
theorem ints_strs (B : Nat) : ∀ zs : List Str, PyData.intsShortAll B (zs.map PyData.str) = true
  | [] => rfl
  | z :: r => ints_strs B r
theorem weight_strs : ∀ {zs : List Str}, (∀ z ∈ zs, Nm z) → PyData.weightAll (zs.map PyData.str) ≤ 7 * zs.length
  | [], _ => Nat.le_refl _
  | z :: r, h => by
    have ih := weight_strs fun y hy => h y (List.mem_cons_of_mem _ hy)
    have hz := (h z List.mem_cons_self).2.1
    rw [Array.length_toList] at hz
    show z.cps.size + 1 + PyData.weightAll (r.map PyData.str) ≤ 7 * (r.length + 1)
    omega
abbrev dTwo (xs ys : List Str) : PyData := .list [.tuple (xs.map PyData.str), .list (ys.map PyData.str)]
theorem two_show (xs ys : List Str) : (dTwo xs ys).showable = true := by
  show (PyData.showableAll (xs.map PyData.str) && (PyData.showableAll (ys.map PyData.str) && true)) = true
  rw [show_strs, show_strs]
  rfl
theorem two_nodict (xs ys : List Str) : (dTwo xs ys).hasDict = false := by
  show (PyData.hasDictAll (xs.map PyData.str) || (PyData.hasDictAll (ys.map PyData.str) || false)) = false
  rw [nodict_strs, nodict_strs]
  rfl
theorem two_depth (xs ys : List Str) : (dTwo xs ys).depth < 60 := by
  show max (PyData.depthAll (xs.map PyData.str) + 1) (max (PyData.depthAll (ys.map PyData.str) + 1) 0) + 1 < 60
  rw [depth_strs, depth_strs]
  decide
theorem two_fits {xs ys : List Str} (hx : ∀ z ∈ xs, Nm z) (hy : ∀ z ∈ ys, Nm z) (lx : xs.length ≤ 1000) (ly : ys.length ≤ 1000) : (dTwo xs ys).shown.length ≤ sizeLine := by
  refine PyData.shown_fits (B := 13) (by decide) (by decide) (PyData.leavesShort_of_canLay0 13 _ ?_ ?_) ?_
  · show (PyData.canLayAll0 (xs.map PyData.str) && (PyData.canLayAll0 (ys.map PyData.str) && true)) = true
    rw [canLay_strs hx, canLay_strs hy]
    rfl
  · show (PyData.intsShortAll 13 (xs.map PyData.str) && (PyData.intsShortAll 13 (ys.map PyData.str) && true)) = true
    rw [ints_strs, ints_strs]
    rfl
  · show PyData.weightAll (xs.map PyData.str) + 1 + (PyData.weightAll (ys.map PyData.str) + 1 + 0) ≤ 2 ^ 20
    have h1 := weight_strs hx
    have h2 := weight_strs hy
    omega
theorem cutTo (xs : List V) (k : Nat) : cutV xs none (some (k : Int)) = xs.take k := by
  unfold cutV
  rw [HT.sIx_none, HT.sIx_nat, List.drop_zero, Nat.sub_zero]
  rcases Nat.le_total k xs.length with h | h
  · rw [Nat.min_eq_left h]
  · rw [Nat.min_eq_right h, List.take_of_length_le (Nat.le_refl _), List.take_of_length_le h]
theorem cutFrom (xs : List V) (k : Nat) : cutV xs (some (k : Int)) none = xs.drop k := by
  unfold cutV
  rw [HT.sIx_none, HT.sIx_nat]
  rcases Nat.le_total k xs.length with h | h
  · rw [Nat.min_eq_left h]
    exact List.take_of_length_le (by rw [List.length_drop]; omega)
  · rw [Nat.min_eq_right h, Nat.sub_self, List.take_zero, List.drop_of_length_le h]
theorem Hq.of_tp {K : PySem.W.Frag} {H : Hp} {a : Addr} {zs : List Str} (h : Tp H a (zs.map V.str)) : Hq K H a zs := .inr h
theorem Tp.ne {H : Hp} {a p : Addr} {xs : List V} {c : Int} (h : Tp H a xs) (hb : Bx H p c) : a ≠ p := by
  obtain ⟨ob, e, _⟩ := h
  obtain ⟨x, y, e2, _⟩ := hb
  exact ne_of e e2 (by intro z; cases z)
theorem Bx.same {H H' : Hp} {p : Addr} {c : Int} (h : Bx H p c) (sm : Same H H') : Bx H' p c := by
  obtain ⟨a, b, e, r⟩ := h
  exact ⟨a, b, sm _ _ e, r⟩
end HF
namespace HF
open PySem PySem.Spec PyProof.Rows L2
theorem rep_mem {bs : List Addr} {k i : Nat} {x : V} (h : (List.replicate k (bs.map V.ref)).flatten[i]? = some x) : ∃ b ∈ bs, x = .ref b := by
  have hm := List.mem_of_getElem? h
  obtain ⟨l, hl, hx⟩ := List.mem_flatten.mp hm
  rw [(List.mem_replicate.mp hl).2] at hx
  obtain ⟨b, hb, rfl⟩ := List.mem_map.mp hx
  exact ⟨b, hb, rfl⟩
theorem Bx.oth {H H' : Hp} {p b : Addr} {c : Int} (h : Bx H b c) (o : Oth p H H') (n : b ≠ p) : Bx H' b c := by
  obtain ⟨x, y, e, r⟩ := h
  exact ⟨x, y, o _ _ e n, r⟩
def spLaw (K : PySem.W.Frag) : Sp := fun vs H Q _ => ∃ (a : Addr) (ns : List Int), vs = [.ref a] ∧ SqL K H a (ns.map V.int) ∧ ns.length ≤ 63 ∧ ∀ H', Q (.bl true) H'
end HF
namespace HF
open PySem PySem.Spec PyProof.Rows L2
/-- what the top has written, told once -/
structure At (K : PySem.W.Frag) (x : Str) (st : Stmt) (f : Addr) : Prop where
  ns : PySem.W.nsIn K mainGlobals x = some (some (.ref f))
  fn : ∃ (oc : Value) (od an : Option Addr) (osl : Array (Option Value)) (kV doc pm cdv ct : Value), K.lookup f = some ⟨oc, od, .func (PySem.W.fnOf x x (defArgs st) (defBody st) (defScope st) .none kV doc pm an cdv ct), osl⟩ ∧ PySem.W.codeIn K cdv x = true
  kp : PySem.W.keepIn K (.ref f) = true
theorem at_mk {K : PySem.W.Frag} {x : Str} {st : Stmt} {f : Addr} {oc : Value} {od an : Option Addr} {osl : Array (Option Value)} {kV doc pm cdv ct : Value} (n : PySem.W.nsIn K mainGlobals x = some (some (.ref f)))
    (l : K.lookup f = some ⟨oc, od, .func (PySem.W.fnOf x x (defArgs st) (defBody st) (defScope st) .none kV doc pm an cdv ct), osl⟩) (c : PySem.W.codeIn K cdv x = true) (k : PySem.W.keepIn K (.ref f) = true) : At K x st f := ⟨n, ⟨oc, od, an, osl, kV, doc, pm, cdv, ct, l, c⟩, k⟩
theorem At.fun {K : PySem.W.Frag} {x : Str} {st : Stmt} {f : Addr} (a : At K x st f) : ∃ fd, Fun K x x st f fd ∧ ∃ (kV doc pm : Value) (an : Option Addr) (cdv ct : Value), fd = PySem.W.fnOf x x (defArgs st) (defBody st) (defScope st) .none kV doc pm an cdv ct := by
  obtain ⟨oc, od, an, osl, kV, doc, pm, cdv, ct, l, c⟩ := a.fn
  exact ⟨_, fun_mk l c a.kp, kV, doc, pm, an, cdv, ct, rfl⟩
end HF
namespace HF
open PySem PySem.Spec PyProof.Rows L2
/-! ### sorted texts, as a function of the texts -/
def srt (xs : List Str) : List Str := xs.mergeSort (PySem.W.dataLe false PyData.str)
theorem srt_perm (xs : List Str) : (srt xs).Perm xs := List.mergeSort_perm xs _
theorem srt_len (xs : List Str) : (srt xs).length = xs.length := (srt_perm xs).length_eq
theorem each_texts : ∀ {xs : List Str} {us : List Value}, Vals (xs.map V.str) us → PySem.W.EachIs (fun v (x : Str) => ∃ t, v = Value.str x t) us xs
  | [], _, .nil => .nil
  | x :: r, _, .cons h t => .cons h (each_texts t)
theorem texts_each : ∀ {xs : List Str} {us : List Value}, PySem.W.EachIs (fun v (x : Str) => ∃ t, v = Value.str x t) us xs → Vals (xs.map V.str) us
  | _, _, .nil => .nil
  | _, _, .cons h t => .cons h (texts_each t)
theorem each_reads {h : Heap} : ∀ {xs : List Str} {us : List Value}, PySem.W.EachIs (fun v (x : Str) => ∃ t, v = Value.str x t) us xs → PySem.W.EachIs (fun v (x : Str) => ∃ as, Reads h v (PyData.str x) as ∧ ∀ a : Addr, a ∉ as) us xs
  | _, _, .nil => .nil
  | _, _, .cons ⟨t, e⟩ r => .cons ⟨[], e ▸ .str _ t, fun _ z => nomatch z⟩ (each_reads r)
theorem alike_texts (xs : List Str) : PySem.W.AllAlike (xs.map PyData.str) := fun x hx y hy => by
  obtain ⟨a, _, rfl⟩ := List.mem_map.mp hx
  obtain ⟨b, _, rfl⟩ := List.mem_map.mp hy
  rfl
theorem sortable_texts (xs : List Str) : PySem.W.Sortable (xs.map PyData.str) := .inr fun x hx => by
  obtain ⟨a, _, rfl⟩ := List.mem_map.mp hx
  exact ⟨by simp, by simp⟩
section
variable {X : Cx}
def rSrt (K : PySem.W.Frag) : List V → Hp → VK → Prop := fun us H Q => ∃ (a : Addr) (xs : List Str), us = [V.ref a] ∧ Sq K H a (xs.map V.str) ∧ xs.length ≤ 1000 ∧ ∀ p, H p = none → Q (.ref p) (upd H p (.lst ((srt xs).map V.str)))
theorem cr_srt (hu : X.A.units + 64 < cLine) : CallR X (.builtin "sorted") (rSrt X.K) := by
  intro pins st σ H us ws Q I rel hyp
  obtain ⟨a, xs, rfl, hq, few, q⟩ := hyp
  rw [Vals.ref1 rel]
  have hz : ((srt xs).map V.str).length ≤ sizeLine := by
    rw [List.length_map, srt_len, sizeLine_eq]
    omega
  rcases hq with hq | hq
  · obtain ⟨its, rv, hl, _⟩ := I.list hq
    have ev := each_texts rv
    refine PySem.W.sorted_data (enc := PyData.str) hl.isList ev ((each_reads ev).mono fun v x ⟨as, h1, _⟩ => ⟨as, h1⟩) (alike_texts xs) (sortable_texts xs) (by rw [sizeLine_eq]; omega) (fun b _ => by show X.A.units + 2 + 0 < cLine; omega) fun out hout eo => ?_
    obtain ⟨ep, he⟩ := PyProof.Rows.sortedAll_at st.heap its (List.toArray out)
    exact ⟨.ref _, _, I.laid (t' := st.toks) (o := .lst ((srt xs).map V.str)) (fun _ _ => PyProof.Rows.sortedAll_old) (Nat.le_succ _) ⟨hz, out, ep, texts_each eo, he⟩, rfl, q _ (I.hok.fresh (Nat.le_succ _))⟩
  · obtain ⟨its, rv, ⟨ob, h1, h2, n, h3⟩, _⟩ := I.tuple hq
    have hlen := rv.length
    rw [List.length_map] at hlen
    have ev := each_texts rv
    refine Calls.call_function_entry kind_sorted plain_sorted entry_sorted (args_sorted1 _) ?_
    unfold Builtin.«sorted»
    refine wpAny_bind (m := checkCount "sorted" 1 1 _) (wpAny_pure ?_)
    refine wpAny_bind (wpAny_collect_seq a (.inr rfl) h1 h2 h3 (fun h4 kp => ?_) (by rw [List.size_toArray, sizeLine_eq]; omega))
    show wpAny _ _ (newList its >>= _) _ _ _
    refine wpAny_bind (wpAny_newList ?_ (by rw [sizeLine_eq]; omega))
    have hoL : (h4.push (seqObj "list" its.toArray 0)).get? h4.objs.size = some (seqObj "list" its.toArray 0) := Heap.get?_push_size _ rfl
    refine wpAny_bind (wpAny_holding (PySem.W.list_sort_data (s := { st with heap := h4.push (seqObj "list" its.toArray 0) }) (enc := PyData.str) hoL ev ((each_reads ev).mono fun v x ⟨as, g1, g2⟩ => ⟨as, g1, g2 _⟩) (alike_texts xs) (sortable_texts xs) (by rw [sizeLine_eq]; omega)
      (fun b _ => by show X.A.units + 1 + 1 + 0 < cLine; omega) fun out hout eo => ?_))
    obtain ⟨c, hc⟩ := sortedHeap_at (vs := its) (out := List.toArray out) hoL
    have I4 : Inv X pins σ H { st with heap := h4 } := I.kept (t' := st.toks) kp
    refine wpAny_pure ⟨_, rfl, .ref h4.objs.size, _, I4.laid (t' := st.toks) (o := .lst ((srt xs).map V.str)) (fun b u e => ?_) (Nat.le_refl _) ⟨hz, out, c, texts_each eo, hc⟩, rfl, q _ (I4.hok.fresh (Nat.le_refl _))⟩
    have lt := Heap.lt_size e
    show (sortedHeap (h4.push (seqObj "list" its.toArray 0)) h4.objs.size _ _).get? b = some u
    rw [sortedHeap_old (Nat.ne_of_lt lt) (by rw [size_push']; exact Nat.lt_succ_of_lt lt)]
    exact Heap.get?_push_of_some _ e
end
end HF
namespace HF
open PySem PySem.Spec PyProof.Rows L2
def topS (i : Nat) : Stmt := PySem.Challenge.pw_heapfriends_k57_told_otherwise.main.body.getD i (.Pass ⟨0, 0, 0, 0⟩)
abbrev sBox : Stmt := topS 13
abbrev sTake : Stmt := topS 14
abbrev sStrewn : Stmt := topS 17
abbrev sNames : Stmt := topS 18
abbrev sHeap : Stmt := topS 19
abbrev sSame : Stmt := topS 15
section
variable {P : Program} {w : World} {K : PySem.W.Frag} {mg : Str → Option Value} {base : Heap}
theorem scBox : FnScope ["_law_script", "_law_k", "_law_cell"] ["_law_script", "_law_k"] (defScope sBox) := ⟨rfl, rfl, rfl, by decide +kernel, rfl, by decide +kernel, by decide +kernel⟩
theorem scTake : FnScope ["_law_box_here", "_law_bound", "_law_found", "_law_once"] ["_law_box_here", "_law_bound"] (defScope sTake) := ⟨rfl, rfl, rfl, by decide +kernel, rfl, by decide +kernel, by decide +kernel⟩
theorem ok_take {f : Addr} {fd : FuncData} {k : Nat} (F : Fun K "_law_take" "_law_take" sTake f fd) : FnOk P w K mg base CX0 (k + 1) f fd ["_law_box_here", "_law_bound"] spTake := by
  refine F.ok scTake (fun vs H Q E h => ?_) (fun cdv A outer s H vs Q E hr h => ?_)
  · obtain ⟨p, m, c, rfl, _⟩ := h
    rfl
  · obtain ⟨p, m, c, rfl, ⟨a, b, hp, ha, hb, hb2, hc⟩, hc2, hm, hm2, q⟩ := h
    refine ⟨_, pss_cons (ps_if (pt_cmpR op_gt (pe_ix ix_list (pv 0) pe_int (fun _ _ => rfl)) pe_int (nomark _))
        (pss_cons (ps_set (i := 2) scTake.nd rfl (.inl rfl) (pe_op op_modN (pe_ix ix_list (pv 0) pe_int (fun _ _ => rfl)) (pv 1)))
        (pss_cons (ps_asg (pe_op op_fdivN (pe_ix ix_list (pv 0) pe_int (fun _ _ => rfl)) (pv 1)) (pg_sub (pv 0) pe_int set_list))
        (pss_one (ps_ret (pv 2))))) pss_nil)
      (pss_cons (ps_asg (pe_op op_add (pe_ix ix_list (pv 0) pe_int (fun _ _ => rfl)) pe_int) (pg_sub (pv 0) pe_int set_list))
      (pss_cons (ps_set (i := 3) scTake.nd rfl (.inl rfl) (pe_op op_modN (pe_op op_pow (pe_op op_add (pe_ix ix_list (pv 0) pe_int (fun _ _ => rfl)) (pe_op op_mul pe_int (pe_ix ix_list (pv 0) pe_int (fun _ _ => rfl)))) pe_int) pe_int))
      (pss_one (ps_ret (pe_op op_modN (pe_op op_fdivN (pe_op op_modN (pe_op op_add (pe_op op_mul (pv 3) (pe_op op_add (pe_op op_modN (pv 3) pe_int) pe_int)) (pe_op op_mul (pe_ix ix_list (pv 0) pe_int (fun _ _ => rfl)) pe_int)) pe_int) pe_int) (pv 1)))))), ?_⟩
    refine ⟨.ref p, rfl, p, _, 0, .int a, rfl, rfl, .inl (.inl hp), atI_nat (j := 0) rfl, a, 0, rfl, rfl, _, rfl, ite2 (fun e => ?_) (fun e => ?_)⟩
    · refine ⟨.ref p, rfl, p, _, 0, .int a, rfl, rfl, .inl (.inl hp), atI_nat (j := 0) rfl, .int m, rfl, a, m, rfl, rfl, by omega, ?_⟩
      refine ⟨.ref p, rfl, p, _, 0, .int a, rfl, rfl, .inl (.inl hp), atI_nat (j := 0) rfl, .int m, rfl, a, m, rfl, rfl, ⟨by omega, by omega⟩, .ref p, rfl, p, _, 0, 0, rfl, rfl, hp, rfl, ?_⟩
      exact ⟨_, rfl, q _ c _ (fmod_in a hm).1 (fmod_in a hm).2 (by omega) (by omega) ⟨_, _, upd_same, fdiv_nn ha hm, hb, hb2, hc⟩⟩
    · have hp2 : (upd H p (.lst [.int a, .int b, .int (c + 1)])) p = some (.lst [.int a, .int b, .int (c + 1)]) := upd_same
      have ho := fmod_in ((b + 39373 * (c + 1)) ^ 5) (m := 2147483647) (by decide)
      refine ⟨.ref p, rfl, p, _, 2, .int c, rfl, rfl, .inl (.inl hp), atI_nat (j := 2) rfl, c, 1, rfl, rfl, .ref p, rfl, p, _, 2, 2, rfl, rfl, hp, rfl, ?_⟩
      refine ⟨.ref p, rfl, p, _, 1, .int b, rfl, rfl, .inl (.inl hp2), atI_nat (j := 1) rfl, .ref p, rfl, p, _, 2, .int (c + 1), rfl, rfl, .inl (.inl hp2), atI_nat (j := 2) rfl,
        39373, c + 1, rfl, rfl, .inl ⟨by decide, by decide⟩, b, 39373 * (c + 1), rfl, rfl, b + 39373 * (c + 1), 5, rfl, rfl, ⟨by decide, by decide, by omega⟩, _, 2147483647, rfl, rfl, nz (by decide), ?_⟩
      refine ⟨_, rfl, _, rfl, _, 40009, rfl, rfl, nz (by decide), _, 7, rfl, rfl, _, _, rfl, rfl, .inl ⟨?_, ?_⟩, .ref p, rfl, p, _, 2, .int (c + 1), rfl, rfl, .inl (.inl hp2), atI_nat (j := 2) rfl, c + 1, 7919, rfl, rfl, .inr ⟨by decide, by decide⟩,
        _, _, rfl, rfl, _, 2147483629, rfl, rfl, nz (by decide), _, 64, rfl, rfl, ⟨by decide, by decide⟩, .int m, rfl, _, m, rfl, rfl, by omega, ?_⟩
      · exact Int.lt_of_lt_of_le (by decide) ho.1
      · exact Int.lt_trans ho.2 (by decide)
      · exact q _ (c + 1) _ (fmod_in _ hm).1 (fmod_in _ hm).2 (by omega) (by omega) ⟨_, _, upd_same, ha, hb, hb2, by omega⟩
theorem ok_box {f : Addr} {fd : FuncData} {k : Nat} (F : Fun K "_law_box" "_law_box" sBox f fd) (ml : mg "len" = none) (mA : mg "abs" = none) (mi : mg "int" = none) : FnOk P w K mg base CX0 (k + 1) f fd ["_law_script", "_law_k"] (spBox K) := by
  refine F.ok scBox (fun vs H Q E h => ?_) (fun cdv A outer s H vs Q E hr h => ?_)
  · obtain ⟨a, ns, k, rfl, _⟩ := h
    rfl
  · obtain ⟨a, ns, k, rfl, hS, hk, q⟩ := h
    refine ⟨_, pss_cons (ps_set (i := 2) scBox.nd rfl (.inl rfl) pe_int)
      (pss_cons (ps_if (pt_cmpR op_lt (pv 1) (pe_callB call_len_seq (by rfl) ml PySem.boot_len (pa_cons (pv 0) pa_nil)) (nomark _))
        (pss_one (ps_set (i := 2) scBox.nd rfl (.inl rfl) (pe_ix ix_list (pv 0) (pv 1) (fun _ _ => rfl)))) pss_nil)
      (pss_one (ps_ret (pe_lst (pa_cons (pe_op op_mul (pe_callB call_abs (by rfl) mA (by decide +kernel) (pa_cons (pv 2) pa_nil))
          (pe_callTy call_int1 (by rfl) mi (by decide +kernel) (pa_cons (pe_cmpR op_ge (pe_callB call_abs (by rfl) mA (by decide +kernel) (pa_cons (pv 2) pa_nil)) (pe_op op_pow pe_int pe_int) (nomark _)) pa_nil)))
        (pa_cons (pe_op op_add (pe_op op_add (pe_op op_modN (pv 2) pe_int) (pe_op op_mul pe_int (pv 1))) pe_int) (pa_cons pe_int pa_nil))))))), ?_⟩
    refine ⟨_, rfl, .ref a, rfl, a, _, rfl, .inl hS, _, _, rfl, rfl, _, rfl, ?_⟩
    have hz : (3 : Nat) ≤ sizeLine := by decide
    refine ite2 (fun e => ?_) (fun e => ?_)
    · have e1 : (k : Int) < ((ns.map V.int).length : Nat) := of_decide_eq_true e
      have hk2 : k < ns.length := by
        rw [List.length_map] at e1
        omega
      refine ⟨.ref a, rfl, .int k, rfl, a, _, k, .int ns[k], rfl, rfl, hS, atI_nat (j := k) (by rw [List.getElem?_map, List.getElem?_eq_getElem hk2]; rfl), ?_⟩
      have hm := fmod_in ns[k] (m := 2147483629) (by decide)
      refine ⟨_, rfl, ns[k], rfl, _, rfl, ns[k], rfl, 10, 18, rfl, rfl, ⟨by decide, by decide, by decide⟩, _, _, rfl, rfl, .inr ⟨_, rfl, _, _, rfl, rfl, .inr ⟨?_, ?_⟩, _, rfl, ns[k], 2147483629, rfl, rfl, nz (by decide), .int k, rfl, 6151, k, rfl, rfl, .inl ⟨by decide, by decide⟩, _, _, rfl, rfl, _, 29, rfl, rfl, hz, fun p hp => ?_⟩⟩
      · exact (b01 _).1
      · exact (b01 _).2
      · refine q p _ hp ⟨_, _, upd_same, ?_, ?_, ?_, by decide⟩
        · split <;> split <;> omega
        · omega
        · omega
    · have hm := fmod_in 0 (m := 2147483629) (by decide)
      refine ⟨_, rfl, 0, rfl, _, rfl, 0, rfl, 10, 18, rfl, rfl, ⟨by decide, by decide, by decide⟩, _, _, rfl, rfl, .inr ⟨_, rfl, _, _, rfl, rfl, .inr ⟨?_, ?_⟩, _, rfl, 0, 2147483629, rfl, rfl, nz (by decide), .int k, rfl, 6151, k, rfl, rfl, .inl ⟨by decide, by decide⟩, _, _, rfl, rfl, _, 29, rfl, rfl, hz, fun p hp => ?_⟩⟩
      · exact (b01 _).1
      · exact (b01 _).2
      · refine q p _ hp ⟨_, _, upd_same, ?_, ?_, ?_, by decide⟩
        · split <;> split <;> omega
        · omega
        · omega
theorem scStrewn : FnScope ["_law_box_here", "_law_some", "_law_found", "_law_part"] ["_law_box_here", "_law_some"] (defScope sStrewn) := ⟨rfl, rfl, rfl, by decide +kernel, rfl, by decide +kernel, by decide +kernel⟩
theorem ok_strewn {f fT : Addr} {fd fdT : FuncData} {k : Nat} (F : Fun K "_law_strewn" "_law_strewn" sStrewn f fd) (FT : Fun K "_law_take" "_law_take" sTake fT fdT) (bT : Binds K fdT ["_law_box_here", "_law_bound"] []) (gT : mg "_law_take" = some (.ref fT)) (ml : mg "len" = none) :
    FnOk P w K mg base CX0 (k + 2) f fd ["_law_box_here", "_law_some"] (spStrewn K) := by
  have GT : FnOk P w K mg base CX0 (k + 1) fT fdT ["_law_box_here", "_law_bound"] spTake := ok_take FT
  refine F.ok scStrewn (fun vs H Q E h => ?_) (fun cdv A outer s H vs Q E hr h => ?_)
  · obtain ⟨p, a, c, xs, rfl, _⟩ := h
    rfl
  · obtain ⟨p, a, c, xs, rfl, hB, hc, nap, hS, hlen, q⟩ := h
    have hBnn := hB.nn
    rcases hS with hS | hS
    · refine ⟨_, pss_cons (ps_set (i := 2) scStrewn.nd rfl (.inl rfl) (pe_lst pa_nil))
        (pss_cons (ps_for PassesOwn.never rfl (pi_list (pv 1)) (pg_name (i := 3) scStrewn.nd rfl (.inl rfl))
          (pss_one (ps_expr (pe_bm PySem.F.plainAttrs_list PySem.F.slot_list_insert PySem.F.type_list_insert mt_insert (pv 2)
            (pa_cons (pe_call GT hr (by rfl) gT FT.kp bT .nil pass0 (pa_cons (pv 0) (pa_cons (pe_op op_add (pe_callB call_len_seq (by rfl) ml PySem.boot_len (pa_cons (pv 2) pa_nil)) pe_int) pa_nil))) (pa_cons (pv 3) pa_nil))))))
        (pss_one (ps_ret (pv 2)))), ?_⟩
      refine ⟨Nat.zero_le _, fun l nl => ?_⟩
      have npl : p ≠ l := hB.new nl
      refine ⟨.ref a, rfl, a, rfl, ⟨xs, (Same.seq (same_upd nl) hS)⟩, for_list (xs := xs) (fun i σ H3 => ∃ y3 ys c', σ = [some (.ref p), some (.ref a), some (.ref l), y3] ∧ ys.Perm (xs.take i) ∧ c ≤ c' ∧ c' ≤ c + i ∧ H3 l = some (.lst ys) ∧ Bx H3 p c' ∧ Oth p H H3) ?_ ?_ ?_ ?_⟩
      · exact ⟨none, [], c, rfl, by simp, by omega, by omega, upd_same, hB.ne npl, (Oth.refl p H).new nl⟩
      · rintro i σ H3 hi ⟨y3, ys, c', rfl, hpm, h1, h2, hl, hb, ho⟩
        exact ho.seq nap hS
      · rintro i x σ H3 hx ⟨y3, ys, c', rfl, hpm, h1, h2, hl, hb, ho⟩
        have hi : i < xs.length := by
          rcases Nat.lt_or_ge i xs.length with h | h
          · exact h
          · rw [List.getElem?_eq_none h] at hx
            cases hx
        have hyl : ys.length = i := by
          rw [hpm.length_eq, List.length_take]
          omega
        refine ⟨.ref l, rfl, .inl ⟨rfl, _, .inl (.inl hl)⟩, .ref p, rfl, .ref l, rfl, l, ys, rfl, .inl (.inl (.inl hl)), ys.length, 1, rfl, rfl, p, (ys.length : Int) + 1, c', rfl, hb, by omega, by omega, by omega, ?_⟩
        intro r c2 o hr0 hr1 hc0 hc1 hb2
        have hl2 : (upd H3 p o) l = some (.lst ys) := by
          rw [upd_ne npl.symm]
          exact hl
        refine ⟨x, rfl, l, ys, r, x, rfl, rfl, hl2, ?_, hr0, by omega, ?_⟩
        · rw [hyl, PySem.sizeLine_eq]
          omega
        · refine ⟨some x, _, c2, rfl, (ins_perm ys x r.toNat).trans ?_, by omega, by omega, upd_same, hb2.ne npl, (ho.trans Oth.put).new nl⟩
          rw [List.take_add_one, hx]
          exact hpm.append_right _
      · rintro σ H3 ⟨y3, ys, c', rfl, hpm, h1, h2, hl, hb, ho⟩
        rw [List.take_length] at hpm
        exact ⟨.ref l, rfl, q H3 l ys c' nl ho hl hpm hb h1 h2⟩
    · refine ⟨_, pss_cons (ps_set (i := 2) scStrewn.nd rfl (.inl rfl) (pe_lst pa_nil))
        (pss_cons (ps_for PassesOwn.never rfl (pi_tup (pv 1)) (pg_name (i := 3) scStrewn.nd rfl (.inl rfl))
          (pss_one (ps_expr (pe_bm PySem.F.plainAttrs_list PySem.F.slot_list_insert PySem.F.type_list_insert mt_insert (pv 2)
            (pa_cons (pe_call GT hr (by rfl) gT FT.kp bT .nil pass0 (pa_cons (pv 0) (pa_cons (pe_op op_add (pe_callB call_len_seq (by rfl) ml PySem.boot_len (pa_cons (pv 2) pa_nil)) pe_int) pa_nil))) (pa_cons (pv 3) pa_nil))))))
        (pss_one (ps_ret (pv 2)))), ?_⟩
      refine ⟨Nat.zero_le _, fun l nl => ?_⟩
      have npl : p ≠ l := hB.new nl
      refine ⟨.ref a, rfl, a, rfl, ⟨xs, (sameT (same_upd nl) hS)⟩, for_tup (xs := xs) (fun i σ H3 => ∃ y3 ys c', σ = [some (.ref p), some (.ref a), some (.ref l), y3] ∧ ys.Perm (xs.take i) ∧ c ≤ c' ∧ c' ≤ c + i ∧ H3 l = some (.lst ys) ∧ Bx H3 p c' ∧ Oth p H H3) ?_ ?_ ?_ ?_⟩
      · exact ⟨none, [], c, rfl, by simp, by omega, by omega, upd_same, hB.ne npl, (Oth.refl p H).new nl⟩
      · rintro i σ H3 hi ⟨y3, ys, c', rfl, hpm, h1, h2, hl, hb, ho⟩
        exact ho.sqT nap hS
      · rintro i x σ H3 hx ⟨y3, ys, c', rfl, hpm, h1, h2, hl, hb, ho⟩
        have hi : i < xs.length := by
          rcases Nat.lt_or_ge i xs.length with h | h
          · exact h
          · rw [List.getElem?_eq_none h] at hx
            cases hx
        have hyl : ys.length = i := by
          rw [hpm.length_eq, List.length_take]
          omega
        refine ⟨.ref l, rfl, .inl ⟨rfl, _, .inl (.inl hl)⟩, .ref p, rfl, .ref l, rfl, l, ys, rfl, .inl (.inl (.inl hl)), ys.length, 1, rfl, rfl, p, (ys.length : Int) + 1, c', rfl, hb, by omega, by omega, by omega, ?_⟩
        intro r c2 o hr0 hr1 hc0 hc1 hb2
        have hl2 : (upd H3 p o) l = some (.lst ys) := by
          rw [upd_ne npl.symm]
          exact hl
        refine ⟨x, rfl, l, ys, r, x, rfl, rfl, hl2, ?_, hr0, by omega, ?_⟩
        · rw [hyl, PySem.sizeLine_eq]
          omega
        · refine ⟨some x, _, c2, rfl, (ins_perm ys x r.toNat).trans ?_, by omega, by omega, upd_same, hb2.ne npl, (ho.trans Oth.put).new nl⟩
          rw [List.take_add_one, hx]
          exact hpm.append_right _
      · rintro σ H3 ⟨y3, ys, c', rfl, hpm, h1, h2, hl, hb, ho⟩
        rw [List.take_length] at hpm
        exact ⟨.ref l, rfl, q H3 l ys c' nl ho hl hpm hb h1 h2⟩
abbrev nNames : List Str := ["_law_box_here", "_law_size", "_law_letters", "_law_found", "_law_k", "_law_name", "_law_j", "_law_sign", "_law_maybe"]
theorem scNames : FnScope nNames ["_law_box_here", "_law_size"] (defScope sNames) := ⟨rfl, rfl, rfl, by decide +kernel, rfl, by decide +kernel, by decide +kernel⟩
theorem ok_names {f fT : Addr} {fd fdT : FuncData} {k : Nat} (F : Fun K "_law_names" "_law_names" sNames f fd) (FT : Fun K "_law_take" "_law_take" sTake fT fdT) (bT : Binds K fdT ["_law_box_here", "_law_bound"] []) (gT : mg "_law_take" = some (.ref fT)) (mR : mg "range" = none) (mS : mg "sorted" = none) :
    FnOk P w K mg base CX0 (k + 2) f fd ["_law_box_here", "_law_size"] (spNames K) := by
  have GT : FnOk P w K mg base CX0 (k + 1) fT fdT ["_law_box_here", "_law_bound"] spTake := ok_take FT
  refine F.ok scNames (fun vs H Q E h => ?_) (fun cdv A outer s H vs Q E hr h => ?_)
  · obtain ⟨p, c, n, rfl, _⟩ := h
    rfl
  · obtain ⟨p, c, n, rfl, hB, hc, hn, q⟩ := h
    have hBnn := hB.nn
    refine ⟨_, pss_cons (ps_asg (pe_tup (pa_cons pe_str (pa_cons (pe_lst pa_nil) pa_nil))) (pg_tup rfl (pgs_cons (pg_name (i := 2) scNames.nd rfl (.inr rfl)) (pgs_cons (pg_name (i := 3) scNames.nd rfl (.inr rfl)) pgs_nil))))
      (pss_cons (ps_for PassesOwn.never rfl (pi_range1 (by rfl) mR (pa_cons (pv 1) pa_nil)) (pg_name (i := 4) scNames.nd rfl (.inl rfl))
        (pss_cons (ps_set (i := 5) scNames.nd rfl (.inr rfl) (pe_join pe_str (pe_lc (own := [("_law_j", 6)]) (g := gName 6) (tt := tYes) rfl scNames.nd
            (pi_range1 (by rfl) mR (pa_cons (pe_ix ix_list (pe_lst (pa_cons pe_int (pa_cons pe_int (pa_cons pe_int pa_nil)))) (pe_call GT hr (by rfl) gT FT.kp bT .nil pass0 (pa_cons (pv 0) (pa_cons pe_int pa_nil))) (fun _ _ => rfl)) pa_nil))
            (blkOk_by (N := nNames) (sc := defScope sNames) (by decide +kernel)) (fun _ _ _ _ _ => pg_name (i := 6) scNames.nd rfl (Or.inl rfl)) (fun _ _ _ _ _ => pts_nil)
            (fun _ _ _ _ _ => pe_ix ix_str (pv 2) (pe_call GT hr (by rfl) gT FT.kp bT .nil pass0 (pa_cons (pv 0) (pa_cons pe_int pa_nil))) (fun _ _ => rfl)))))
        (pss_cons (ps_if (PW.pt (pw_and (pt_cmpR (op_neD hr.units) (pv 3) (pe_lst pa_nil) (nomark _)) (pw_and1 (pt_cmpR op_eq (pe_call GT hr (by rfl) gT FT.kp bT .nil pass0 (pa_cons (pv 0) (pa_cons pe_int pa_nil))) pe_int (nomark _)))))
          (pss_one (ps_set (i := 5) scNames.nd rfl (.inr rfl) (pe_op op_add_str (pe_slice sl_str (pe_ix ix_list (pv 3) pe_int (fun _ _ => rfl)) po_none (po_some pe_int)) (pe_ix ix_str (pv 2) (pe_call GT hr (by rfl) gT FT.kp bT .nil pass0 (pa_cons (pv 0) (pa_cons pe_int pa_nil))) (fun _ _ => rfl))))) pss_nil)
        (pss_one (ps_expr (pe_bm PySem.F.plainAttrs_list PySem.F.slot_list_append PySem.F.type_list_append mt_append (pv 3) (pa_cons (pe_ix ix_list
          (pe_lc (own := [("_law_maybe", 8)]) (g := gName 8) rfl scNames.nd
            (pi_list (pe_op op_cat (pe_lst (pa_cons (pv 5) pa_nil)) (pe_lc (own := [("_law_sign", 7)]) (g := gName 7) (tt := tYes) rfl scNames.nd (pi_str (pv 2))
              (blkOk_by (N := nNames) (sc := defScope sNames) (by decide +kernel)) (fun _ _ _ _ _ => pg_name (i := 7) scNames.nd rfl (Or.inl rfl)) (fun _ _ _ _ _ => pts_nil)
              (fun _ _ _ _ _ => pe_op op_add_str (pe_slice sl_str (pv 5) po_none (po_some pe_int)) (pv 7)))))
            (blkOk_by (N := nNames) (sc := defScope sNames) (by decide +kernel)) (fun _ _ _ _ _ => pg_name (i := 8) scNames.nd rfl (Or.inl rfl)) (fun _ _ _ _ _ => pts_one (pt_cmpR (r := rIn K true) op_notIn_seq (pv 8) (pv 3) (by rfl)))
            (fun _ _ _ _ _ => pv 8)) pe_int (fun _ _ => rfl)) pa_nil)))))))
      (pss_one (ps_ret (pe_callB cr_sortedS (by rfl) mS (by decide +kernel) (pa_cons (pv 3) pa_nil))))), ?_⟩
    refine ⟨Nat.zero_le _, fun l nl => ⟨(by decide : (2 : Nat) ≤ sizeLine), fun t nt => ⟨t, _, rfl, .inl (.inl upd_same), rfl, _, _, rfl, _, _, rfl, rfl, ?_⟩⟩⟩
    have npl : p ≠ l := hB.new nl
    have hlt : l ≠ t := ne_of_none upd_same nt
    have hB0 : Bx (upd (upd H l (.lst [])) t (.tup [.str abc, .ref l])) p c := (hB.ne npl).ne ((hB.ne npl).new nt)
    have hO0 : Oth p H (upd (upd H l (.lst [])) t (.tup [.str abc, .ref l])) := Oth.of ((same_upd nl).trans (same_upd nt))
    refine ⟨.int n, rfl, n, rfl, by omega, by omega, for_range (lo := 0) (n := n) (fun i σ H3 => ∃ (y4 y5 : Option V) (zs : List Str) (c' : Int), σ = [some (.ref p), some (.int n), some (.str abc), some (.ref l), y4, y5, none, none, none] ∧ zs.length = i ∧ zs.Nodup ∧ (∀ z ∈ zs, Nm z) ∧ c ≤ c' ∧ c' ≤ c + 10 * i ∧ H3 l = some (.lst (zs.map V.str)) ∧ Bx H3 p c' ∧ Oth p H H3) ?_ ?_ ?_⟩
    · refine ⟨none, none, [], c, rfl, rfl, List.nodup_nil, by simp, by omega, by omega, ?_, hB0, hO0⟩
      rw [upd_ne hlt, upd_same]
      rfl
    · rintro i σ H3 hi ⟨y4, y5, zs, c', rfl, hzl, hznd, hznm, h1, h2, hl, hb, ho⟩
      refine ⟨⟨_, rfl⟩, (by decide : (3 : Nat) ≤ sizeLine), fun D0 nD0 => ⟨.ref p, rfl, p, 3, c', rfl, hb.ne (hb.new nD0), by omega, by decide, by decide, ?_⟩⟩
      intro r c2 o hr0 hr1 hc0 hc1 hb2
      obtain ⟨j, hj, hj1, hj6⟩ := at3 hr0 hr1
      have npD0 : D0 ≠ p := (hb.new nD0).symm
      refine ⟨D0, _, r, _, rfl, rfl, .inl (.inl (by rw [upd_ne npD0]; exact upd_same)), hj, j, rfl, by omega, by omega, fun D nD => ?_⟩
      have hlA : (upd (upd H3 D0 (.lst [.int 1, .int 6, .int 2])) p o) l = some (.lst (zs.map V.str)) := by
        rw [upd_ne npl.symm, upd_ne (ne_of_none hl nD0)]
        exact hl
      have hoA : Oth p H (upd (upd H3 D0 (.lst [.int 1, .int 6, .int 2])) p o) := (ho.trans (Oth.of (same_upd nD0))).trans Oth.put
      refine lc_range (lo := 0) (n := j) (fun i H4 => ∃ (cs : List Nat) (c4 : Int), cs.length = i ∧ Lt cs ∧ c2 ≤ c4 ∧ c4 ≤ c2 + i ∧ H4 D = some (.lst ((cs.map fun c => (⟨#[c]⟩ : Str)).map V.str)) ∧ Bx H4 p c4 ∧ Oth p (upd (upd H3 D0 (.lst [.int 1, .int 6, .int 2])) p o) H4) ?_ ?_ ?_
      · exact ⟨[], c2, rfl, lt_nil, by omega, by omega, upd_same, hb2.ne (hb2.new nD), Oth.of (same_upd nD)⟩
      · rintro i2 H4 hi2 ⟨cs, c4, hcl, hcL, hc4, hc5, hD, hb4, ho4⟩
        have npD : D ≠ p := (hb2.new nD).symm
        refine ⟨rfl, ?_⟩
        refine ⟨.str abc, rfl, .ref p, rfl, p, 26, c4, rfl, hb4, by omega, by decide, by decide, ?_⟩
        intro r2 c6 o2 hr20 hr21 hc60 hc61 hb6
        obtain ⟨ch, hch, hch1, hch2⟩ := abc_at hr20 hr21
        refine ⟨abc, r2, ch, rfl, rfl, by rw [abc_len]; decide, hch, _, (by rw [upd_ne npD]; exact hD), ?_, ?_⟩
        · rw [List.length_map, List.length_map, hcl, PySem.sizeLine_eq]
          omega
        · refine ⟨cs ++ [ch], c6, by rw [List.length_append, hcl]; rfl, hcL.snoc hch1 hch2, by omega, by omega, ?_, hb6.ne npD.symm, (ho4.trans Oth.put).new nD⟩
          rw [upd_same, List.map_append, List.map_append]
          rfl
      · rintro H4 ⟨cs, c4, hcl, hcL, hc4, hc5, hD, hb4, ho4⟩
        refine ⟨"", D, _, rfl, rfl, .inl (.inl (.inl hD)), ?_, ?_⟩
        · rw [ones_sum, List.length_map, show ("" : Str).length = 0 by decide]
          omega
        · rw [join_one]
          have hl4 : H4 l = some (.lst (zs.map V.str)) := ho4 _ _ hlA npl.symm
          have hoB : Oth p H H4 := hoA.trans ho4
          have hnm0 : Nm ⟨cs.toArray⟩ := ⟨by show 1 ≤ cs.length; omega, by show cs.length ≤ 6; omega, hcL⟩
          generalize (⟨cs.toArray⟩ : Str) = nm at hnm0
          refine ⟨.ref l, rfl, Nat.zero_le _, fun D1 nD1 => ?_⟩
          have sD1 : Same H4 (upd H4 D1 (.lst [])) := same_upd nD1
          have hl5 := sD1 _ _ hl4
          have hb5 : Bx (upd H4 D1 (.lst [])) p c4 := hb4.ne (hb4.new nD1)
          have hoD : Oth p H (upd H4 D1 (.lst [])) := hoB.trans (Oth.of sD1)
          refine ⟨.list (zs.map PyData.str), .list [], .lst (.inl (.inl hl5)) (dp_strs zs), .lst (.inl (.inl upd_same)) .nil, shaped_strs hznm, rfl, _, rfl, ite2 (fun e => ?_) (fun e => ?_)⟩
          · refine ⟨.ref p, rfl, p, 4, c4, rfl, hb5, by omega, by decide, by decide, ?_⟩
            intro r4 c7 o4 hr40 hr41 hc70 hc71 hb7
            have hl6 : (upd (upd H4 D1 (.lst [])) p o4) l = some (.lst (zs.map V.str)) := by
              rw [upd_ne npl.symm]
              exact hl5
            refine ⟨rfl, _, rfl, ite2 (fun e2 => ?_) (fun e2 => ?_)⟩
            · cases zs with
              | nil => exact absurd e (by decide)
              | cons z0 zr =>
                refine ⟨.ref l, rfl, l, _, 0, .str z0, rfl, rfl, .inl (.inl hl6), atI_nat (j := 0) rfl, 5, rfl, z0, rfl, ?_, .str abc, rfl, .ref p, rfl, p, 26, c7, rfl, hb7, by omega, by decide, by decide, ?_⟩
                · rw [str_len, PySem.sizeLine_eq]
                  have := (hznm z0 List.mem_cons_self).2.1
                  omega
                · intro r5 c8 o5 hr50 hr51 hc80 hc81 hb8
                  obtain ⟨ch, hch, hch1, hch2⟩ := abc_at hr50 hr51
                  refine ⟨abc, r5, ch, rfl, rfl, by rw [abc_len]; decide, hch, _, _, rfl, rfl, ?_, ?_⟩
                  · have e6 : (cutS z0 none (some 5)).length ≤ 5 := by
                      rw [cut5, str_len]
                      show (z0.cps.toList.take 5).length ≤ 5
                      rw [List.length_take]
                      omega
                    have e7 : (⟨#[ch]⟩ : Str).length = 1 := rfl
                    rw [e7, PySem.sizeLine_eq]
                    omega
                  · have hnm := cand_nm (hznm z0 List.mem_cons_self) hch1 hch2
                    have hlC : (upd (upd (upd H4 D1 (.lst [])) p o4) p o5) l = some (.lst ((z0 :: zr).map V.str)) := by
                      rw [upd_ne npl.symm]
                      exact hl6
                    have hbC := hb8
                    have hoC : Oth p H (upd (upd (upd H4 D1 (.lst [])) p o4) p o5) := (hoD.trans Oth.put).trans Oth.put
                    show _
                    generalize hcand : cutS z0 none (some 5) ++ (⟨#[ch]⟩ : Str) = nm at *
                    replace hnm : Nm nm := by rw [← hcand]; exact hnm
                    clear hcand
                    generalize (upd (upd (upd H4 D1 (.lst [])) p o4) p o5) = HC at *
                    generalize hcc : c8 = cc at *
                    generalize (z0 :: zr) = zs at *
                    have fl := str_len nm
                    have hnm6 := hnm.2.1
                    refine ⟨.ref l, rfl, .inl ⟨rfl, _, .inl (.inl hlC)⟩, .str nm, rfl, (by decide : (1 : Nat) ≤ sizeLine), fun L1 nL1 => ?_⟩
                    have nlL1 : l ≠ L1 := ne_of_none hlC nL1
                    refine ⟨.str abc, rfl, abc, rfl, fun D2 nD2 => lc_it (walk_str (z := abc)) (fun j H4 => H4 = upd (upd HC L1 (.lst [.str nm])) D2 (.lst (((List.range j).map fun x => cand nm (97 + x)).map V.str))) rfl (fun _ _ _ _ => trivial) ?_ ?_⟩
                    · rintro j x H4 H5 hj rfl ⟨rfl, ch, hch, rfl⟩
                      have hj26 : j < 26 := hj
                      have ech : ch = 97 + j := by
                        have e1 : abc.cps.toList[j]? = some ch := by
                          rw [Array.getElem?_toList]
                          exact hch
                        rw [abc_tl, List.getElem?_map, List.getElem?_range hj26] at e1
                        exact (Option.some.inj e1).symm
                      subst ech
                      refine ⟨rfl, ?_⟩
                      refine ⟨.str nm, rfl, 5, rfl, nm, rfl, by rw [PySem.sizeLine_eq]; omega, .str ⟨#[97 + j]⟩, rfl, _, _, rfl, rfl, ?_, _, upd_same, ?_, ?_⟩
                      · have e5 := congrArg (fun x : Str => x.length) (cut5 nm)
                        have e6 : (cutS nm none (some 5)).length ≤ 5 := by
                          rw [cut5, str_len]
                          show (nm.cps.toList.take 5).length ≤ 5
                          rw [List.length_take]
                          omega
                        have e7 : (⟨#[97 + j]⟩ : Str).length = 1 := rfl
                        rw [e7, PySem.sizeLine_eq]
                        omega
                      · rw [List.length_map, List.length_map, List.length_range, PySem.sizeLine_eq]
                        omega
                      · rw [upd_upd, List.range_succ, List.map_append, List.map_append]
                        rfl
                    · rintro H4 rfl
                      have hL1 : (upd (upd HC L1 (.lst [.str nm])) D2 (.lst (((List.range abc.cps.size).map fun x => cand nm (97 + x)).map V.str))) L1 = some (.lst [.str nm]) := by
                        rw [upd_ne (ne_of_none upd_same nD2), upd_same]
                      refine ⟨L1, D2, _, _, rfl, rfl, hL1, upd_same, sz27 nm, fun L3 nL3 => ?_⟩
                      have hlE : (upd (upd (upd HC L1 (.lst [.str nm])) D2 (.lst (((List.range abc.cps.size).map fun x => cand nm (97 + x)).map V.str))) L3 (.lst ((cands nm).map V.str))) l = some (.lst (zs.map V.str)) := by
                        have hl1 : (upd HC L1 (.lst [.str nm])) l = some (.lst (zs.map V.str)) := by
                          rw [upd_ne nlL1]
                          exact hlC
                        have hl2 : (upd (upd HC L1 (.lst [.str nm])) D2 (.lst (((List.range abc.cps.size).map fun x => cand nm (97 + x)).map V.str))) l = some (.lst (zs.map V.str)) := by
                          rw [upd_ne (ne_of_none hl1 nD2)]
                          exact hl1
                        rw [upd_ne (ne_of_none hl2 nL3)]
                        exact hl2
                      have sE : Same HC (upd (upd (upd HC L1 (.lst [.str nm])) D2 (.lst (((List.range abc.cps.size).map fun x => cand nm (97 + x)).map V.str))) L3 (.lst ((cands nm).map V.str))) := ((same_upd nL1).trans (same_upd nD2)).trans (same_upd nL3)
                      have hL3 : (upd (upd (upd HC L1 (.lst [.str nm])) D2 (.lst (((List.range abc.cps.size).map fun x => cand nm (97 + x)).map V.str))) L3 (.lst ((cands nm).map V.str))) L3 = some (.lst ((cands nm).map V.str)) := upd_same
                      generalize hHE : (upd (upd (upd HC L1 (.lst [.str nm])) D2 (.lst (((List.range abc.cps.size).map fun x => cand nm (97 + x)).map V.str))) L3 (.lst ((cands nm).map V.str))) = HE at hlE sE hL3
                      refine ⟨L3, rfl, ⟨(cands nm).map V.str, .inl (.inl upd_same)⟩, fun D4 nD4 => ?_⟩
                      have eHE : (upd (upd (upd HC L1 (.lst [.str nm])) D2 (.lst (((List.range abc.cps.size).map fun x => cand nm (97 + x)).map V.str))) L3 (.lst ([V.str nm] ++ (((List.range abc.cps.size).map fun x => cand nm (97 + x)).map V.str)))) = HE := hHE
                      rw [eHE] at nD4
                      rw [eHE]
                      refine lc_list (xs := (cands nm).map V.str) (fun j H4 => H4 = upd HE D4 (.lst ((((cands nm).take j).filter (fun y => decide (y ∉ zs))).map V.str))) rfl ?_ ?_ ?_
                      · rintro j H4 hj rfl
                        refine .inl (.inl ?_)
                        rw [upd_ne (ne_of_none hL3 nD4)]
                        exact hL3
                      · rintro j x H4 hx rfl
                        rw [List.getElem?_map] at hx
                        obtain ⟨y, hy, rfl⟩ := Option.map_eq_some_iff.mp hx
                        have hl4 : (upd HE D4 (.lst ((((cands nm).take j).filter (fun y => decide (y ∉ zs))).map V.str))) l = some (.lst (zs.map V.str)) := by
                          rw [upd_ne (ne_of_none hlE nD4)]
                          exact hlE
                        refine ⟨rfl, .str y, rfl, .ref l, rfl, l, _, rfl, .inl (.inl (.inl hl4)), rfl, strs_all, _, rfl, ?_⟩
                        have eT : (if true = true then !inV (.str y) (zs.map V.str) else inV (.str y) (zs.map V.str)) = decide (y ∉ zs) := by
                          rw [if_pos rfl, inV_strs]
                          simp
                        rw [eT]
                        refine ite2 (fun e => ?_) (fun e => ?_)
                        · refine ⟨.str y, rfl, _, upd_same, ?_, ?_⟩
                          · rw [List.length_map, PySem.sizeLine_eq]
                            have h1 := List.length_filter_le (fun y => decide (y ∉ zs)) ((cands nm).take j)
                            have h2 : ((cands nm).take j).length ≤ (cands nm).length := List.length_take_le' _ _
                            have h3 : (cands nm).length = 27 := by simp [cands]
                            omega
                          · rw [upd_upd, List.take_add_one, hy, List.filter_append]
                            show _ = upd HE D4 (.lst ((_ ++ [y].filter _).map V.str))
                            rw [show [y].filter (fun y => decide (y ∉ zs)) = [y] from List.filter_cons_of_pos (p := fun y => decide (y ∉ zs)) e, List.map_append]
                            rfl
                        · rw [List.take_add_one, hy, List.filter_append]
                          show _ = upd HE D4 (.lst ((_ ++ [y].filter _).map V.str))
                          rw [show [y].filter (fun y => decide (y ∉ zs)) = [] from List.filter_cons_of_neg (p := fun y => decide (y ∉ zs)) e, List.append_nil]
                      · rintro H4 rfl
                        obtain ⟨y, r, hyr, hyc, hyz⟩ := cands_free nm zs (by omega)
                        rw [List.length_map, List.take_length, hyr]
                        have hl4 : (upd HE D4 (.lst ((y :: r).map V.str))) l = some (.lst (zs.map V.str)) := by
                          rw [upd_ne (ne_of_none hlE nD4)]
                          exact hlE
                        refine ⟨D4, _, 0, .str y, rfl, rfl, .inl (.inl upd_same), atI_nat (j := 0) rfl, l, _, _, rfl, rfl, hl4, ?_, ?_⟩
                        · rw [List.length_map, PySem.sizeLine_eq]
                          omega
                        · have s4 : Same HC (upd HE D4 (.lst ((y :: r).map V.str))) := sE.trans (same_upd nD4)
                          have hb4 : Bx (upd HE D4 (.lst ((y :: r).map V.str))) p cc := by
                            obtain ⟨x1, x2, e1, e2⟩ := hbC
                            exact ⟨x1, x2, s4 _ _ e1, e2⟩
                          refine ⟨_, _, zs ++ [y], cc, rfl, by rw [List.length_append, hzl]; rfl, ?_, ?_, by omega, by omega, ?_, hb4.ne npl, (hoC.trans (Oth.of s4)).new nl⟩
                          · refine List.nodup_append.mpr ⟨hznd, by simp, ?_⟩
                            intro a ha b hb e
                            rw [List.mem_singleton] at hb
                            subst hb
                            subst e
                            exact hyz ha
                          · intro z hz
                            rcases List.mem_append.mp hz with h | h
                            · exact hznm z h
                            · rw [List.mem_singleton.mp h]
                              exact cands_nm hnm hyc
                          · rw [upd_same, List.map_append]
                            rfl
            · have hnm := hnm0
              have hlC := hl6
              have hbC := hb7
              have hoC : Oth p H (upd (upd H4 D1 (.lst [])) p o4) := hoD.trans Oth.put
              generalize (upd (upd H4 D1 (.lst [])) p o4) = HC at *
              generalize hcc : c7 = cc at *
              have fl := str_len nm
              have hnm6 := hnm.2.1
              refine ⟨.ref l, rfl, .inl ⟨rfl, _, .inl (.inl hlC)⟩, .str nm, rfl, (by decide : (1 : Nat) ≤ sizeLine), fun L1 nL1 => ?_⟩
              have nlL1 : l ≠ L1 := ne_of_none hlC nL1
              refine ⟨.str abc, rfl, abc, rfl, fun D2 nD2 => lc_it (walk_str (z := abc)) (fun j H4 => H4 = upd (upd HC L1 (.lst [.str nm])) D2 (.lst (((List.range j).map fun x => cand nm (97 + x)).map V.str))) rfl (fun _ _ _ _ => trivial) ?_ ?_⟩
              · rintro j x H4 H5 hj rfl ⟨rfl, ch, hch, rfl⟩
                have hj26 : j < 26 := hj
                have ech : ch = 97 + j := by
                  have e1 : abc.cps.toList[j]? = some ch := by
                    rw [Array.getElem?_toList]
                    exact hch
                  rw [abc_tl, List.getElem?_map, List.getElem?_range hj26] at e1
                  exact (Option.some.inj e1).symm
                subst ech
                refine ⟨rfl, ?_⟩
                refine ⟨.str nm, rfl, 5, rfl, nm, rfl, by rw [PySem.sizeLine_eq]; omega, .str ⟨#[97 + j]⟩, rfl, _, _, rfl, rfl, ?_, _, upd_same, ?_, ?_⟩
                · have e5 := congrArg (fun x : Str => x.length) (cut5 nm)
                  have e6 : (cutS nm none (some 5)).length ≤ 5 := by
                    rw [cut5, str_len]
                    show (nm.cps.toList.take 5).length ≤ 5
                    rw [List.length_take]
                    omega
                  have e7 : (⟨#[97 + j]⟩ : Str).length = 1 := rfl
                  rw [e7, PySem.sizeLine_eq]
                  omega
                · rw [List.length_map, List.length_map, List.length_range, PySem.sizeLine_eq]
                  omega
                · rw [upd_upd, List.range_succ, List.map_append, List.map_append]
                  rfl
              · rintro H4 rfl
                have hL1 : (upd (upd HC L1 (.lst [.str nm])) D2 (.lst (((List.range abc.cps.size).map fun x => cand nm (97 + x)).map V.str))) L1 = some (.lst [.str nm]) := by
                  rw [upd_ne (ne_of_none upd_same nD2), upd_same]
                refine ⟨L1, D2, _, _, rfl, rfl, hL1, upd_same, sz27 nm, fun L3 nL3 => ?_⟩
                have hlE : (upd (upd (upd HC L1 (.lst [.str nm])) D2 (.lst (((List.range abc.cps.size).map fun x => cand nm (97 + x)).map V.str))) L3 (.lst ((cands nm).map V.str))) l = some (.lst (zs.map V.str)) := by
                  have hl1 : (upd HC L1 (.lst [.str nm])) l = some (.lst (zs.map V.str)) := by
                    rw [upd_ne nlL1]
                    exact hlC
                  have hl2 : (upd (upd HC L1 (.lst [.str nm])) D2 (.lst (((List.range abc.cps.size).map fun x => cand nm (97 + x)).map V.str))) l = some (.lst (zs.map V.str)) := by
                    rw [upd_ne (ne_of_none hl1 nD2)]
                    exact hl1
                  rw [upd_ne (ne_of_none hl2 nL3)]
                  exact hl2
                have sE : Same HC (upd (upd (upd HC L1 (.lst [.str nm])) D2 (.lst (((List.range abc.cps.size).map fun x => cand nm (97 + x)).map V.str))) L3 (.lst ((cands nm).map V.str))) := ((same_upd nL1).trans (same_upd nD2)).trans (same_upd nL3)
                have hL3 : (upd (upd (upd HC L1 (.lst [.str nm])) D2 (.lst (((List.range abc.cps.size).map fun x => cand nm (97 + x)).map V.str))) L3 (.lst ((cands nm).map V.str))) L3 = some (.lst ((cands nm).map V.str)) := upd_same
                generalize hHE : (upd (upd (upd HC L1 (.lst [.str nm])) D2 (.lst (((List.range abc.cps.size).map fun x => cand nm (97 + x)).map V.str))) L3 (.lst ((cands nm).map V.str))) = HE at hlE sE hL3
                refine ⟨L3, rfl, ⟨(cands nm).map V.str, .inl (.inl upd_same)⟩, fun D4 nD4 => ?_⟩
                have eHE : (upd (upd (upd HC L1 (.lst [.str nm])) D2 (.lst (((List.range abc.cps.size).map fun x => cand nm (97 + x)).map V.str))) L3 (.lst ([V.str nm] ++ (((List.range abc.cps.size).map fun x => cand nm (97 + x)).map V.str)))) = HE := hHE
                rw [eHE] at nD4
                rw [eHE]
                refine lc_list (xs := (cands nm).map V.str) (fun j H4 => H4 = upd HE D4 (.lst ((((cands nm).take j).filter (fun y => decide (y ∉ zs))).map V.str))) rfl ?_ ?_ ?_
                · rintro j H4 hj rfl
                  refine .inl (.inl ?_)
                  rw [upd_ne (ne_of_none hL3 nD4)]
                  exact hL3
                · rintro j x H4 hx rfl
                  rw [List.getElem?_map] at hx
                  obtain ⟨y, hy, rfl⟩ := Option.map_eq_some_iff.mp hx
                  have hl4 : (upd HE D4 (.lst ((((cands nm).take j).filter (fun y => decide (y ∉ zs))).map V.str))) l = some (.lst (zs.map V.str)) := by
                    rw [upd_ne (ne_of_none hlE nD4)]
                    exact hlE
                  refine ⟨rfl, .str y, rfl, .ref l, rfl, l, _, rfl, .inl (.inl (.inl hl4)), rfl, strs_all, _, rfl, ?_⟩
                  have eT : (if true = true then !inV (.str y) (zs.map V.str) else inV (.str y) (zs.map V.str)) = decide (y ∉ zs) := by
                    rw [if_pos rfl, inV_strs]
                    simp
                  rw [eT]
                  refine ite2 (fun e => ?_) (fun e => ?_)
                  · refine ⟨.str y, rfl, _, upd_same, ?_, ?_⟩
                    · rw [List.length_map, PySem.sizeLine_eq]
                      have h1 := List.length_filter_le (fun y => decide (y ∉ zs)) ((cands nm).take j)
                      have h2 : ((cands nm).take j).length ≤ (cands nm).length := List.length_take_le' _ _
                      have h3 : (cands nm).length = 27 := by simp [cands]
                      omega
                    · rw [upd_upd, List.take_add_one, hy, List.filter_append]
                      show _ = upd HE D4 (.lst ((_ ++ [y].filter _).map V.str))
                      rw [show [y].filter (fun y => decide (y ∉ zs)) = [y] from List.filter_cons_of_pos (p := fun y => decide (y ∉ zs)) e, List.map_append]
                      rfl
                  · rw [List.take_add_one, hy, List.filter_append]
                    show _ = upd HE D4 (.lst ((_ ++ [y].filter _).map V.str))
                    rw [show [y].filter (fun y => decide (y ∉ zs)) = [] from List.filter_cons_of_neg (p := fun y => decide (y ∉ zs)) e, List.append_nil]
                · rintro H4 rfl
                  obtain ⟨y, r, hyr, hyc, hyz⟩ := cands_free nm zs (by omega)
                  rw [List.length_map, List.take_length, hyr]
                  have hl4 : (upd HE D4 (.lst ((y :: r).map V.str))) l = some (.lst (zs.map V.str)) := by
                    rw [upd_ne (ne_of_none hlE nD4)]
                    exact hlE
                  refine ⟨D4, _, 0, .str y, rfl, rfl, .inl (.inl upd_same), atI_nat (j := 0) rfl, l, _, _, rfl, rfl, hl4, ?_, ?_⟩
                  · rw [List.length_map, PySem.sizeLine_eq]
                    omega
                  · have s4 : Same HC (upd HE D4 (.lst ((y :: r).map V.str))) := sE.trans (same_upd nD4)
                    have hb4 : Bx (upd HE D4 (.lst ((y :: r).map V.str))) p cc := by
                      obtain ⟨x1, x2, e1, e2⟩ := hbC
                      exact ⟨x1, x2, s4 _ _ e1, e2⟩
                    refine ⟨_, _, zs ++ [y], cc, rfl, by rw [List.length_append, hzl]; rfl, ?_, ?_, by omega, by omega, ?_, hb4.ne npl, (hoC.trans (Oth.of s4)).new nl⟩
                    · refine List.nodup_append.mpr ⟨hznd, by simp, ?_⟩
                      intro a ha b hb e
                      rw [List.mem_singleton] at hb
                      subst hb
                      subst e
                      exact hyz ha
                    · intro z hz
                      rcases List.mem_append.mp hz with h | h
                      · exact hznm z h
                      · rw [List.mem_singleton.mp h]
                        exact cands_nm hnm hyc
                    · rw [upd_same, List.map_append]
                      rfl
          · refine iteF ?_
            have hnm := hnm0
            have hlC := hl5
            have hbC := hb5
            have hoC := hoD
            generalize (upd H4 D1 (.lst [])) = HC at *
            generalize hcc : c4 = cc at *
            have fl := str_len nm
            have hnm6 := hnm.2.1
            refine ⟨.ref l, rfl, .inl ⟨rfl, _, .inl (.inl hlC)⟩, .str nm, rfl, (by decide : (1 : Nat) ≤ sizeLine), fun L1 nL1 => ?_⟩
            have nlL1 : l ≠ L1 := ne_of_none hlC nL1
            refine ⟨.str abc, rfl, abc, rfl, fun D2 nD2 => lc_it (walk_str (z := abc)) (fun j H4 => H4 = upd (upd HC L1 (.lst [.str nm])) D2 (.lst (((List.range j).map fun x => cand nm (97 + x)).map V.str))) rfl (fun _ _ _ _ => trivial) ?_ ?_⟩
            · rintro j x H4 H5 hj rfl ⟨rfl, ch, hch, rfl⟩
              have hj26 : j < 26 := hj
              have ech : ch = 97 + j := by
                have e1 : abc.cps.toList[j]? = some ch := by
                  rw [Array.getElem?_toList]
                  exact hch
                rw [abc_tl, List.getElem?_map, List.getElem?_range hj26] at e1
                exact (Option.some.inj e1).symm
              subst ech
              refine ⟨rfl, ?_⟩
              refine ⟨.str nm, rfl, 5, rfl, nm, rfl, by rw [PySem.sizeLine_eq]; omega, .str ⟨#[97 + j]⟩, rfl, _, _, rfl, rfl, ?_, _, upd_same, ?_, ?_⟩
              · have e5 := congrArg (fun x : Str => x.length) (cut5 nm)
                have e6 : (cutS nm none (some 5)).length ≤ 5 := by
                  rw [cut5, str_len]
                  show (nm.cps.toList.take 5).length ≤ 5
                  rw [List.length_take]
                  omega
                have e7 : (⟨#[97 + j]⟩ : Str).length = 1 := rfl
                rw [e7, PySem.sizeLine_eq]
                omega
              · rw [List.length_map, List.length_map, List.length_range, PySem.sizeLine_eq]
                omega
              · rw [upd_upd, List.range_succ, List.map_append, List.map_append]
                rfl
            · rintro H4 rfl
              have hL1 : (upd (upd HC L1 (.lst [.str nm])) D2 (.lst (((List.range abc.cps.size).map fun x => cand nm (97 + x)).map V.str))) L1 = some (.lst [.str nm]) := by
                rw [upd_ne (ne_of_none upd_same nD2), upd_same]
              refine ⟨L1, D2, _, _, rfl, rfl, hL1, upd_same, sz27 nm, fun L3 nL3 => ?_⟩
              have hlE : (upd (upd (upd HC L1 (.lst [.str nm])) D2 (.lst (((List.range abc.cps.size).map fun x => cand nm (97 + x)).map V.str))) L3 (.lst ((cands nm).map V.str))) l = some (.lst (zs.map V.str)) := by
                have hl1 : (upd HC L1 (.lst [.str nm])) l = some (.lst (zs.map V.str)) := by
                  rw [upd_ne nlL1]
                  exact hlC
                have hl2 : (upd (upd HC L1 (.lst [.str nm])) D2 (.lst (((List.range abc.cps.size).map fun x => cand nm (97 + x)).map V.str))) l = some (.lst (zs.map V.str)) := by
                  rw [upd_ne (ne_of_none hl1 nD2)]
                  exact hl1
                rw [upd_ne (ne_of_none hl2 nL3)]
                exact hl2
              have sE : Same HC (upd (upd (upd HC L1 (.lst [.str nm])) D2 (.lst (((List.range abc.cps.size).map fun x => cand nm (97 + x)).map V.str))) L3 (.lst ((cands nm).map V.str))) := ((same_upd nL1).trans (same_upd nD2)).trans (same_upd nL3)
              have hL3 : (upd (upd (upd HC L1 (.lst [.str nm])) D2 (.lst (((List.range abc.cps.size).map fun x => cand nm (97 + x)).map V.str))) L3 (.lst ((cands nm).map V.str))) L3 = some (.lst ((cands nm).map V.str)) := upd_same
              generalize hHE : (upd (upd (upd HC L1 (.lst [.str nm])) D2 (.lst (((List.range abc.cps.size).map fun x => cand nm (97 + x)).map V.str))) L3 (.lst ((cands nm).map V.str))) = HE at hlE sE hL3
              refine ⟨L3, rfl, ⟨(cands nm).map V.str, .inl (.inl upd_same)⟩, fun D4 nD4 => ?_⟩
              have eHE : (upd (upd (upd HC L1 (.lst [.str nm])) D2 (.lst (((List.range abc.cps.size).map fun x => cand nm (97 + x)).map V.str))) L3 (.lst ([V.str nm] ++ (((List.range abc.cps.size).map fun x => cand nm (97 + x)).map V.str)))) = HE := hHE
              rw [eHE] at nD4
              rw [eHE]
              refine lc_list (xs := (cands nm).map V.str) (fun j H4 => H4 = upd HE D4 (.lst ((((cands nm).take j).filter (fun y => decide (y ∉ zs))).map V.str))) rfl ?_ ?_ ?_
              · rintro j H4 hj rfl
                refine .inl (.inl ?_)
                rw [upd_ne (ne_of_none hL3 nD4)]
                exact hL3
              · rintro j x H4 hx rfl
                rw [List.getElem?_map] at hx
                obtain ⟨y, hy, rfl⟩ := Option.map_eq_some_iff.mp hx
                have hl4 : (upd HE D4 (.lst ((((cands nm).take j).filter (fun y => decide (y ∉ zs))).map V.str))) l = some (.lst (zs.map V.str)) := by
                  rw [upd_ne (ne_of_none hlE nD4)]
                  exact hlE
                refine ⟨rfl, .str y, rfl, .ref l, rfl, l, _, rfl, .inl (.inl (.inl hl4)), rfl, strs_all, _, rfl, ?_⟩
                have eT : (if true = true then !inV (.str y) (zs.map V.str) else inV (.str y) (zs.map V.str)) = decide (y ∉ zs) := by
                  rw [if_pos rfl, inV_strs]
                  simp
                rw [eT]
                refine ite2 (fun e => ?_) (fun e => ?_)
                · refine ⟨.str y, rfl, _, upd_same, ?_, ?_⟩
                  · rw [List.length_map, PySem.sizeLine_eq]
                    have h1 := List.length_filter_le (fun y => decide (y ∉ zs)) ((cands nm).take j)
                    have h2 : ((cands nm).take j).length ≤ (cands nm).length := List.length_take_le' _ _
                    have h3 : (cands nm).length = 27 := by simp [cands]
                    omega
                  · rw [upd_upd, List.take_add_one, hy, List.filter_append]
                    show _ = upd HE D4 (.lst ((_ ++ [y].filter _).map V.str))
                    rw [show [y].filter (fun y => decide (y ∉ zs)) = [y] from List.filter_cons_of_pos (p := fun y => decide (y ∉ zs)) e, List.map_append]
                    rfl
                · rw [List.take_add_one, hy, List.filter_append]
                  show _ = upd HE D4 (.lst ((_ ++ [y].filter _).map V.str))
                  rw [show [y].filter (fun y => decide (y ∉ zs)) = [] from List.filter_cons_of_neg (p := fun y => decide (y ∉ zs)) e, List.append_nil]
              · rintro H4 rfl
                obtain ⟨y, r, hyr, hyc, hyz⟩ := cands_free nm zs (by omega)
                rw [List.length_map, List.take_length, hyr]
                have hl4 : (upd HE D4 (.lst ((y :: r).map V.str))) l = some (.lst (zs.map V.str)) := by
                  rw [upd_ne (ne_of_none hlE nD4)]
                  exact hlE
                refine ⟨D4, _, 0, .str y, rfl, rfl, .inl (.inl upd_same), atI_nat (j := 0) rfl, l, _, _, rfl, rfl, hl4, ?_, ?_⟩
                · rw [List.length_map, PySem.sizeLine_eq]
                  omega
                · have s4 : Same HC (upd HE D4 (.lst ((y :: r).map V.str))) := sE.trans (same_upd nD4)
                  have hb4 : Bx (upd HE D4 (.lst ((y :: r).map V.str))) p cc := by
                    obtain ⟨x1, x2, e1, e2⟩ := hbC
                    exact ⟨x1, x2, s4 _ _ e1, e2⟩
                  refine ⟨_, _, zs ++ [y], cc, rfl, by rw [List.length_append, hzl]; rfl, ?_, ?_, by omega, by omega, ?_, hb4.ne npl, (hoC.trans (Oth.of s4)).new nl⟩
                  · refine List.nodup_append.mpr ⟨hznd, by simp, ?_⟩
                    intro a ha b hb e
                    rw [List.mem_singleton] at hb
                    subst hb
                    subst e
                    exact hyz ha
                  · intro z hz
                    rcases List.mem_append.mp hz with h | h
                    · exact hznm z h
                    · rw [List.mem_singleton.mp h]
                      exact cands_nm hnm hyc
                  · rw [upd_same, List.map_append]
                    rfl
    · rintro σ H3 ⟨y4, y5, zs, c', rfl, hzl, hznd, hznm, h1, h2, hl, hb, ho⟩
      refine ⟨.ref l, rfl, l, zs, rfl, .inl (.inl hl), by omega, fun ys l2 hperm hsrt nl2 => ?_⟩
      exact q _ l2 ys c' (ho.none hb nl2) (ho.trans (Oth.of (same_upd nl2))) upd_same (hperm.length_eq.trans hzl) (hperm.nodup_iff.mpr hznd) (fun z hz => hznm z (hperm.mem_iff.mp hz)) hsrt (hb.ne (hb.new nl2)) h1 h2
theorem scHeap : FnScope ["_law_box_here", "_law_least", "_law_most"] ["_law_box_here", "_law_least", "_law_most"] (defScope sHeap) := ⟨rfl, rfl, rfl, by decide +kernel, rfl, by decide +kernel, by decide +kernel⟩
theorem ok_heap {f fT fS fN : Addr} {fd fdT fdS fdN : FuncData} {k : Nat} (F : Fun K "_law_heap" "_law_heap" sHeap f fd) (FT : Fun K "_law_take" "_law_take" sTake fT fdT) (FS : Fun K "_law_strewn" "_law_strewn" sStrewn fS fdS) (FN : Fun K "_law_names" "_law_names" sNames fN fdN)
    (bT : Binds K fdT ["_law_box_here", "_law_bound"] []) (bS : Binds K fdS ["_law_box_here", "_law_some"] []) (bN : Binds K fdN ["_law_box_here", "_law_size"] []) (gT : mg "_law_take" = some (.ref fT)) (gS : mg "_law_strewn" = some (.ref fS)) (gN : mg "_law_names" = some (.ref fN))
    (mR : mg "range" = none) (mS : mg "sorted" = none) (ml : mg "len" = none) (mt : mg "tuple" = none) :
    FnOk P w K mg base CX0 (k + 3) f fd ["_law_box_here", "_law_least", "_law_most"] spHeap := by
  have GT : FnOk P w K mg base CX0 (k + 1) fT fdT ["_law_box_here", "_law_bound"] spTake := ok_take FT
  have GS : FnOk P w K mg base CX0 (k + 2) fS fdS ["_law_box_here", "_law_some"] (spStrewn K) := ok_strewn FS FT bT gT ml
  have GN : FnOk P w K mg base CX0 (k + 2) fN fdN ["_law_box_here", "_law_size"] (spNames K) := ok_names FN FT bT gT mR mS
  refine F.ok scHeap (fun vs H Q E h => ?_) (fun cdv A outer s H vs Q E hr h => ?_)
  · obtain ⟨p, c, m, n, rfl, _⟩ := h
    rfl
  · obtain ⟨p, c, m, n, rfl, hB, hc, hmn, hn, q⟩ := h
    have hBnn := hB.nn
    refine ⟨_, pss_one (ps_ret (pe_callTy call_tupleF (by rfl) mt (by decide +kernel) (pa_cons (pe_call GS hr (by rfl) gS FS.kp bS .nil pass0 (pa_cons (pv 0) (pa_cons
      (pe_call GN hr (by rfl) gN FN.kp bN .nil pass0 (pa_cons (pv 0) (pa_cons (pe_op op_add (pv 1) (pe_call GT (hr.mono (by omega)) (by rfl) gT FT.kp bT .nil pass0 (pa_cons (pv 0) (pa_cons (pe_op op_add (pe_op op_sub (pv 2) (pv 1)) pe_int) pa_nil)))) pa_nil))) pa_nil))) pa_nil))), ?_⟩
    refine ⟨.ref p, rfl, .ref p, rfl, .int m, rfl, .ref p, rfl, .int n, rfl, .int m, rfl, n, m, rfl, rfl, _, 1, rfl, rfl, p, (n : Int) - m + 1, c, rfl, hB, by omega, by omega, by omega, ?_⟩
    intro r c1 o hr0 hr1 hc0 hc1 hb1
    obtain ⟨rn, rfl⟩ := Int.eq_ofNat_of_zero_le hr0
    refine ⟨m, rn, rfl, rfl, p, c1, m + rn, rfl, hb1, by omega, by omega, ?_⟩
    intro H2 l zs c2 nl ho2 hl hzl hznd hznm _ hb2 hc2 hc3
    have nlp : l ≠ p := by
      rintro rfl
      rw [upd_same] at nl
      cases nl
    refine ⟨p, l, c2, _, rfl, hb2, by omega, nlp, .inl (.inl (.inl hl)), by rw [List.length_map]; omega, ?_⟩
    intro H3 l2 ys c3 nl2 ho3 hl2 hpm hb3 hc4 hc5
    obtain ⟨xs, rfl, hxs⟩ := perm_strs hpm
    refine ⟨l2, _, rfl, .inl (.inl hl2), fun t ob nt h1 h2 => ?_⟩
    rw [List.length_map] at hc5
    have hxl := hxs.length_eq
    have hoA : Oth p H H3 := (Oth.put.trans ho2).trans ho3
    exact q _ t xs c3 (hoA.none hb3 nt) (hoA.trans (Oth.of (same_upd nt))) ⟨ob, upd_same, h1, h2⟩ (by omega) (by omega) (hxs.nodup_iff.mpr hznd) (fun z hz => hznm z (hxs.mem_iff.mp hz)) (hb3.ne (hb3.new nt)) (by omega) (by omega)
abbrev nSame : List Str := ["_law_found", "_law_due", "_law_mine", "_law_its"]
theorem scSame : FnScope nSame ["_law_found", "_law_due"] (defScope sSame) := ⟨rfl, rfl, rfl, by decide +kernel, rfl, by decide +kernel, by decide +kernel⟩
theorem same_scal {f : Addr} {fd : FuncData} {k : Nat} (F : Fun K "_law_same" "_law_same" sSame f fd) (mI : mg "isinstance" = none) (mL : mg "list" = none) (mT : mg "tuple" = none) (mB : mg "bool" = none) (mS : mg "str" = none) (mN : mg "int" = none)
    {cdv : Value} {A : Around} {outer : List Env} {s : Shared} {H : Hp} {Q : VK} {E : XK} (hr : Room k (A.deeper (envOfC "_law_same" (defScope sSame) s.heap.objs.size f cdv))) {x y : V} {d : PyData} (hx : Dp K H x d) (hy : Dp K H y d) (hc : d.canLay0 = true) (h0 : d.depth = 0) (q : ∀ H' : Hp, Same H H' → Q (.bl true) H') :
    ∃ t, PSs (cxOf CX0 P w K mg base nSame "_law_same" (defScope sSame) f cdv A outer s H E).nox (defBody sSame) t ∧ t { nx := fun _ H' => Q .non H', rt := Q } (start nSame [x, y]) H := by
  have hsh : SeqAt.shaped d = true := by
    show (d.canLay0 && decide (d.depth ≤ 64)) = true
    rw [hc, h0]
    rfl
  have hx2 := hx
  have hy2 := hy
  cases hx with
  | non =>
    cases hy
    refine ⟨_, pss_cons (ps_if (pt_val (pe_callB call_isiT (by rfl) mI (by decide +kernel) (pa_cons (pv 1) (pa_cons (pe_tup (pa_cons (pe_bltn (v := .ty "list") (by rfl) mL (by decide +kernel) rfl) (pa_cons (pe_bltn (v := .ty "tuple") (by rfl) mT (by decide +kernel) rfl) pa_nil))) pa_nil)))) pss_never pss_nil)
        (pss_cons (ps_if (PW.pt (pw_or (pt_cmpR op_isN (pv 1) pe_non (nomark _)) (pw_or1 (pt_val (pe_callB call_isiT (by rfl) mI (by decide +kernel) (pa_cons (pv 1) (pa_cons (pe_tup (pa_cons (pe_bltn (v := .ty "bool") (by rfl) mB (by decide +kernel) rfl) (pa_cons (pe_bltn (v := .ty "str") (by rfl) mS (by decide +kernel) rfl) pa_nil))) pa_nil)))))))
          (pss_one (ps_ret (pe_and (pe_cmpR (op_eqD hr.units) (pv 0) (pv 1) (nomark _)) (pe_and (pe_cmpR op_eq (pe_callB call_isi (by rfl) mI (by decide +kernel) (pa_cons (pv 0) (pa_cons (pe_bltn (v := .ty "bool") (by rfl) mB (by decide +kernel) rfl) pa_nil))) (pe_callB call_isi (by rfl) mI (by decide +kernel) (pa_cons (pv 1) (pa_cons (pe_bltn (v := .ty "bool") (by rfl) mB (by decide +kernel) rfl) pa_nil))) (nomark _)) (pe_one (pe_cmpR op_eq (pe_cmp (pc_isN (pv 0)) rfl) (pe_cmp (pc_isN (pv 1)) rfl) (nomark _))))))) pss_nil)
        (pss_one (ps_ret (pe_and (pe_callB call_isi (by rfl) mI (by decide +kernel) (pa_cons (pv 0) (pa_cons (pe_bltn (v := .ty "int") (by rfl) mN (by decide +kernel) rfl) pa_nil))) (pe_and (pe_not (pe_callB call_isi (by rfl) mI (by decide +kernel) (pa_cons (pv 0) (pa_cons (pe_bltn (v := .ty "bool") (by rfl) mB (by decide +kernel) rfl) pa_nil)))) (pe_one (pe_cmpR (op_eqD hr.units) (pv 0) (pv 1) (nomark _)))))))), ?_⟩
    refine ⟨_, rfl, (by decide : (2 : Nat) ≤ sizeLine), fun T nT => ⟨_, T, _, _, _, _, rfl, upd_same, two_cls, (.base .non), any2 (r1 := false) (r2 := false) (by decide +kernel) (by decide +kernel), _, rfl, iteF ?_⟩⟩
    have s1 : Same H (upd H T (.tup [V.ty "list", V.ty "tuple"])) := same_upd nT
    generalize (upd H T (.tup [V.ty "list", V.ty "tuple"])) = H1 at *
    refine ⟨_, rfl, rfl, _, rfl, iteT (iteT ?_)⟩
    have s2 := s1
    exact ⟨_, rfl, _, rfl, _, _, Dp.up s2 hx2, Dp.up s2 hy2, hsh, hsh, _, rfl, (by rw [SeqAt.eqv_refl _ hc]; refine iteT ?_; exact ⟨_, rfl, _, _, _, _, false, rfl, .ty _, (.base .non), kit_ty (by decide +kernel), _, rfl, _, _, _, _, false, rfl, .ty _, (.base .non), kit_ty (by decide +kernel), rfl, _, rfl, iteT ⟨_, rfl, _, rfl, rfl, q _ s2⟩⟩)⟩
  | bl b =>
    cases hy
    refine ⟨_, pss_cons (ps_if (pt_val (pe_callB call_isiT (by rfl) mI (by decide +kernel) (pa_cons (pv 1) (pa_cons (pe_tup (pa_cons (pe_bltn (v := .ty "list") (by rfl) mL (by decide +kernel) rfl) (pa_cons (pe_bltn (v := .ty "tuple") (by rfl) mT (by decide +kernel) rfl) pa_nil))) pa_nil)))) pss_never pss_nil)
        (pss_cons (ps_if (PW.pt (pw_or (pt_cmpR op_isN (pv 1) pe_non (nomark _)) (pw_or1 (pt_val (pe_callB call_isiT (by rfl) mI (by decide +kernel) (pa_cons (pv 1) (pa_cons (pe_tup (pa_cons (pe_bltn (v := .ty "bool") (by rfl) mB (by decide +kernel) rfl) (pa_cons (pe_bltn (v := .ty "str") (by rfl) mS (by decide +kernel) rfl) pa_nil))) pa_nil)))))))
          (pss_one (ps_ret (pe_and (pe_cmpR (op_eqD hr.units) (pv 0) (pv 1) (nomark _)) (pe_and (pe_cmpR op_eq (pe_callB call_isi (by rfl) mI (by decide +kernel) (pa_cons (pv 0) (pa_cons (pe_bltn (v := .ty "bool") (by rfl) mB (by decide +kernel) rfl) pa_nil))) (pe_callB call_isi (by rfl) mI (by decide +kernel) (pa_cons (pv 1) (pa_cons (pe_bltn (v := .ty "bool") (by rfl) mB (by decide +kernel) rfl) pa_nil))) (nomark _)) (pe_one (pe_cmpR op_eq (pe_cmp (pc_isN (pv 0)) rfl) (pe_cmp (pc_isN (pv 1)) rfl) (nomark _))))))) pss_nil)
        (pss_one (ps_ret (pe_and (pe_callB call_isi (by rfl) mI (by decide +kernel) (pa_cons (pv 0) (pa_cons (pe_bltn (v := .ty "int") (by rfl) mN (by decide +kernel) rfl) pa_nil))) (pe_and (pe_not (pe_callB call_isi (by rfl) mI (by decide +kernel) (pa_cons (pv 0) (pa_cons (pe_bltn (v := .ty "bool") (by rfl) mB (by decide +kernel) rfl) pa_nil)))) (pe_one (pe_cmpR (op_eqD hr.units) (pv 0) (pv 1) (nomark _)))))))), ?_⟩
    refine ⟨_, rfl, (by decide : (2 : Nat) ≤ sizeLine), fun T nT => ⟨_, T, _, _, _, _, rfl, upd_same, two_cls, (.base (.bl _)), any2 (r1 := false) (r2 := false) (by decide +kernel) (by decide +kernel), _, rfl, iteF ?_⟩⟩
    have s1 : Same H (upd H T (.tup [V.ty "list", V.ty "tuple"])) := same_upd nT
    generalize (upd H T (.tup [V.ty "list", V.ty "tuple"])) = H1 at *
    refine ⟨_, rfl, rfl, _, rfl, iteF ⟨_, rfl, (by decide : (2 : Nat) ≤ sizeLine), fun T2 nT2 => ⟨_, T2, _, _, _, _, rfl, upd_same, two_cls, (.base (.bl _)), any2 (r1 := true) (r2 := false) (by decide +kernel) (by decide +kernel), _, rfl, iteT ?_⟩⟩⟩
    have s2 : Same H (upd H1 T2 (.tup [V.ty "bool", V.ty "str"])) := s1.trans (same_upd nT2)
    generalize (upd H1 T2 (.tup [V.ty "bool", V.ty "str"])) = H2 at *
    exact ⟨_, rfl, _, rfl, _, _, Dp.up s2 hx2, Dp.up s2 hy2, hsh, hsh, _, rfl, (by rw [SeqAt.eqv_refl _ hc]; refine iteT ?_; exact ⟨_, rfl, _, _, _, _, true, rfl, .ty _, (.base (.bl _)), kit_ty (by decide +kernel), _, rfl, _, _, _, _, true, rfl, .ty _, (.base (.bl _)), kit_ty (by decide +kernel), rfl, _, rfl, iteT ⟨_, rfl, _, rfl, rfl, q _ s2⟩⟩)⟩
  | int i =>
    cases hy
    refine ⟨_, pss_cons (ps_if (pt_val (pe_callB call_isiT (by rfl) mI (by decide +kernel) (pa_cons (pv 1) (pa_cons (pe_tup (pa_cons (pe_bltn (v := .ty "list") (by rfl) mL (by decide +kernel) rfl) (pa_cons (pe_bltn (v := .ty "tuple") (by rfl) mT (by decide +kernel) rfl) pa_nil))) pa_nil)))) pss_never pss_nil)
        (pss_cons (ps_if (PW.pt (pw_or (pt_cmpR op_isN (pv 1) pe_non (nomark _)) (pw_or1 (pt_val (pe_callB call_isiT (by rfl) mI (by decide +kernel) (pa_cons (pv 1) (pa_cons (pe_tup (pa_cons (pe_bltn (v := .ty "bool") (by rfl) mB (by decide +kernel) rfl) (pa_cons (pe_bltn (v := .ty "str") (by rfl) mS (by decide +kernel) rfl) pa_nil))) pa_nil)))))))
          (pss_one (ps_ret (pe_and (pe_cmpR (op_eqD hr.units) (pv 0) (pv 1) (nomark _)) (pe_and (pe_cmpR op_eq (pe_callB call_isi (by rfl) mI (by decide +kernel) (pa_cons (pv 0) (pa_cons (pe_bltn (v := .ty "bool") (by rfl) mB (by decide +kernel) rfl) pa_nil))) (pe_callB call_isi (by rfl) mI (by decide +kernel) (pa_cons (pv 1) (pa_cons (pe_bltn (v := .ty "bool") (by rfl) mB (by decide +kernel) rfl) pa_nil))) (nomark _)) (pe_one (pe_cmpR op_eq (pe_cmp (pc_isN (pv 0)) rfl) (pe_cmp (pc_isN (pv 1)) rfl) (nomark _))))))) pss_nil)
        (pss_one (ps_ret (pe_and (pe_callB call_isi (by rfl) mI (by decide +kernel) (pa_cons (pv 0) (pa_cons (pe_bltn (v := .ty "int") (by rfl) mN (by decide +kernel) rfl) pa_nil))) (pe_and (pe_not (pe_callB call_isi (by rfl) mI (by decide +kernel) (pa_cons (pv 0) (pa_cons (pe_bltn (v := .ty "bool") (by rfl) mB (by decide +kernel) rfl) pa_nil)))) (pe_one (pe_cmpR (op_eqD hr.units) (pv 0) (pv 1) (nomark _)))))))), ?_⟩
    refine ⟨_, rfl, (by decide : (2 : Nat) ≤ sizeLine), fun T nT => ⟨_, T, _, _, _, _, rfl, upd_same, two_cls, (.base (.int _)), any2 (r1 := false) (r2 := false) (by decide +kernel) (by decide +kernel), _, rfl, iteF ?_⟩⟩
    have s1 : Same H (upd H T (.tup [V.ty "list", V.ty "tuple"])) := same_upd nT
    generalize (upd H T (.tup [V.ty "list", V.ty "tuple"])) = H1 at *
    refine ⟨_, rfl, rfl, _, rfl, iteF ⟨_, rfl, (by decide : (2 : Nat) ≤ sizeLine), fun T2 nT2 => ⟨_, T2, _, _, _, _, rfl, upd_same, two_cls, (.base (.int _)), any2 (r1 := false) (r2 := false) (by decide +kernel) (by decide +kernel), _, rfl, iteF ?_⟩⟩⟩
    have s2 : Same H (upd H1 T2 (.tup [V.ty "bool", V.ty "str"])) := s1.trans (same_upd nT2)
    generalize (upd H1 T2 (.tup [V.ty "bool", V.ty "str"])) = H2 at *
    refine ⟨_, rfl, _, _, _, _, true, rfl, .ty _, (.base (.int _)), kit_ty (by decide +kernel), _, rfl, iteT ⟨_, rfl, _, _, _, _, false, rfl, .ty _, (.base (.int _)), kit_ty (by decide +kernel), _, rfl, _, rfl, iteT ⟨_, rfl, _, rfl, _, _, Dp.up s2 hx2, Dp.up s2 hy2, hsh, hsh, ?_⟩⟩⟩
    rw [SeqAt.eqv_refl _ hc]
    exact q _ s2
  | str z =>
    cases hy
    refine ⟨_, pss_cons (ps_if (pt_val (pe_callB call_isiT (by rfl) mI (by decide +kernel) (pa_cons (pv 1) (pa_cons (pe_tup (pa_cons (pe_bltn (v := .ty "list") (by rfl) mL (by decide +kernel) rfl) (pa_cons (pe_bltn (v := .ty "tuple") (by rfl) mT (by decide +kernel) rfl) pa_nil))) pa_nil)))) pss_never pss_nil)
        (pss_cons (ps_if (PW.pt (pw_or (pt_cmpR op_isN (pv 1) pe_non (nomark _)) (pw_or1 (pt_val (pe_callB call_isiT (by rfl) mI (by decide +kernel) (pa_cons (pv 1) (pa_cons (pe_tup (pa_cons (pe_bltn (v := .ty "bool") (by rfl) mB (by decide +kernel) rfl) (pa_cons (pe_bltn (v := .ty "str") (by rfl) mS (by decide +kernel) rfl) pa_nil))) pa_nil)))))))
          (pss_one (ps_ret (pe_and (pe_cmpR (op_eqD hr.units) (pv 0) (pv 1) (nomark _)) (pe_and (pe_cmpR op_eq (pe_callB call_isi (by rfl) mI (by decide +kernel) (pa_cons (pv 0) (pa_cons (pe_bltn (v := .ty "bool") (by rfl) mB (by decide +kernel) rfl) pa_nil))) (pe_callB call_isi (by rfl) mI (by decide +kernel) (pa_cons (pv 1) (pa_cons (pe_bltn (v := .ty "bool") (by rfl) mB (by decide +kernel) rfl) pa_nil))) (nomark _)) (pe_one (pe_cmpR op_eq (pe_cmp (pc_isN (pv 0)) rfl) (pe_cmp (pc_isN (pv 1)) rfl) (nomark _))))))) pss_nil)
        (pss_one (ps_ret (pe_and (pe_callB call_isi (by rfl) mI (by decide +kernel) (pa_cons (pv 0) (pa_cons (pe_bltn (v := .ty "int") (by rfl) mN (by decide +kernel) rfl) pa_nil))) (pe_and (pe_not (pe_callB call_isi (by rfl) mI (by decide +kernel) (pa_cons (pv 0) (pa_cons (pe_bltn (v := .ty "bool") (by rfl) mB (by decide +kernel) rfl) pa_nil)))) (pe_one (pe_cmpR (op_eqD hr.units) (pv 0) (pv 1) (nomark _)))))))), ?_⟩
    refine ⟨_, rfl, (by decide : (2 : Nat) ≤ sizeLine), fun T nT => ⟨_, T, _, _, _, _, rfl, upd_same, two_cls, (.base (.str _)), any2 (r1 := false) (r2 := false) (by decide +kernel) (by decide +kernel), _, rfl, iteF ?_⟩⟩
    have s1 : Same H (upd H T (.tup [V.ty "list", V.ty "tuple"])) := same_upd nT
    generalize (upd H T (.tup [V.ty "list", V.ty "tuple"])) = H1 at *
    refine ⟨_, rfl, rfl, _, rfl, iteF ⟨_, rfl, (by decide : (2 : Nat) ≤ sizeLine), fun T2 nT2 => ⟨_, T2, _, _, _, _, rfl, upd_same, two_cls, (.base (.str _)), any2 (r1 := false) (r2 := true) (by decide +kernel) (by decide +kernel), _, rfl, iteT ?_⟩⟩⟩
    have s2 : Same H (upd H1 T2 (.tup [V.ty "bool", V.ty "str"])) := s1.trans (same_upd nT2)
    generalize (upd H1 T2 (.tup [V.ty "bool", V.ty "str"])) = H2 at *
    exact ⟨_, rfl, _, rfl, _, _, Dp.up s2 hx2, Dp.up s2 hy2, hsh, hsh, _, rfl, (by rw [SeqAt.eqv_refl _ hc]; refine iteT ?_; exact ⟨_, rfl, _, _, _, _, false, rfl, .ty _, (.base (.str _)), kit_ty (by decide +kernel), _, rfl, _, _, _, _, false, rfl, .ty _, (.base (.str _)), kit_ty (by decide +kernel), rfl, _, rfl, iteT ⟨_, rfl, _, rfl, rfl, q _ s2⟩⟩)⟩
  | lst _ _ => cases h0
  | tup _ _ => cases h0
theorem same_seq {f : Addr} {fd : FuncData} {k n : Nat} (F : Fun K "_law_same" "_law_same" sSame f fd) (bS : Binds K fd ["_law_found", "_law_due"] []) (gS : mg "_law_same" = some (.ref f)) (mI : mg "isinstance" = none) (mL : mg "list" = none) (mT : mg "tuple" = none) (mB : mg "bool" = none) (mS : mg "str" = none) (mN : mg "int" = none) (ml : mg "len" = none) (mA : mg "all" = none) (mZ : mg "zip" = none) (IH : FnOk P w K mg base CX0 k f fd ["_law_found", "_law_due"] (spSame K n))
    {cdv : Value} {A : Around} {outer : List Env} {s : Shared} {H : Hp} {Q : VK} {E : XK} (hr : Room k (A.deeper (envOfC "_law_same" (defScope sSame) s.heap.objs.size f cdv))) {x y : V} {d : PyData} (hx : Dp K H x d) (hy : Dp K H y d) (hc : d.canLay0 = true) (h0 : d.depth ≠ 0) (hn : d.depth ≤ n + 1) (h60 : d.depth ≤ 60) (hw : wide d ≤ 100000) (q : ∀ H' : Hp, Same H H' → Q (.bl true) H') :
    ∃ t, PSs (cxOf CX0 P w K mg base nSame "_law_same" (defScope sSame) f cdv A outer s H E).nox (defBody sSame) t ∧ t { nx := fun _ H' => Q .non H', rt := Q } (start nSame [x, y]) H := by
  cases hx with
  | non => exact absurd rfl h0
  | bl b => exact absurd rfl h0
  | int i => exact absurd rfl h0
  | str z => exact absurd rfl h0
  | @lst a xs ds hqx hdx =>
    cases hy with
    | @lst b ys _ hqy hdy =>
      have hc : PyData.canLayAll0 ds = true := hc
      have hn2 : PyData.depthAll ds + 1 ≤ n + 1 := hn
      have h602 : PyData.depthAll ds + 1 ≤ 60 := h60
      have hw2 : max ds.length (wideAll ds) ≤ 100000 := hw
      refine ⟨_, pss_cons (ps_if (pt_val (pe_callB call_isiT (by rfl) mI (by decide +kernel) (pa_cons (pv 1) (pa_cons (pe_tup (pa_cons (pe_bltn (v := .ty "list") (by rfl) mL (by decide +kernel) rfl) (pa_cons (pe_bltn (v := .ty "tuple") (by rfl) mT (by decide +kernel) rfl) pa_nil))) pa_nil))))
          (pss_cons (ps_if (PW.pt (pw_or (pt_cmpR op_ne (pe_callB call_isi (by rfl) mI (by decide +kernel) (pa_cons (pv 0) (pa_cons (pe_bltn (v := .ty "list") (by rfl) mL (by decide +kernel) rfl) pa_nil))) (pe_callB call_isi (by rfl) mI (by decide +kernel) (pa_cons (pv 1) (pa_cons (pe_bltn (v := .ty "list") (by rfl) mL (by decide +kernel) rfl) pa_nil))) (nomark _)) (pw_or1 (pt_cmpR op_ne (pe_callB call_isi (by rfl) mI (by decide +kernel) (pa_cons (pv 0) (pa_cons (pe_bltn (v := .ty "tuple") (by rfl) mT (by decide +kernel) rfl) pa_nil))) (pe_callB call_isi (by rfl) mI (by decide +kernel) (pa_cons (pv 1) (pa_cons (pe_bltn (v := .ty "tuple") (by rfl) mT (by decide +kernel) rfl) pa_nil))) (nomark _))))) pss_never pss_nil)
          (pss_one (ps_ret (pe_and (pe_cmpR op_eq (pe_callB call_len_seq (by rfl) ml PySem.boot_len (pa_cons (pv 0) pa_nil)) (pe_callB call_len_seq (by rfl) ml PySem.boot_len (pa_cons (pv 1) pa_nil)) (nomark _))
            (pe_one (pe_callB (cr_all rfl) (by rfl) mA (by decide +kernel) (pa_cons (pe_lc (own := [("_law_mine", 2), ("_law_its", 3)]) (g := gTup K 2 (gCons (gName 2) (gCons (gName 3) gNil))) (tt := tYes) rfl scSame.nd
              (RZ.pi_zipA (by rfl) mZ (pa_cons (pv 0) (pa_cons (pv 1) pa_nil)))
              (blkOk_by (N := nSame) (sc := defScope sSame) (by decide +kernel)) (fun _ _ _ _ _ => pg_tup rfl (pgs_cons (pg_name (i := 2) scSame.nd rfl (.inl rfl)) (pgs_cons (pg_name (i := 3) scSame.nd rfl (.inl rfl)) pgs_nil)))
              (fun _ _ _ _ _ => pts_nil) (fun _ _ _ _ _ => pe_call IH hr (by rfl) gS F.kp bS .nil pass0 (pa_cons (pv 2) (pa_cons (pv 3) pa_nil)))) pa_nil))))))) pss_nil)
        pss_never, ?_⟩
      refine ⟨_, rfl, (by decide : (2 : Nat) ≤ sizeLine), fun T nT => ⟨_, T, _, _, _, _, rfl, upd_same, two_cls, ty_list ((same_upd nT).seq hqy), any2 (r1 := true) (r2 := false) (by decide +kernel) (by decide +kernel), _, rfl, iteT ?_⟩⟩
      have s1 : Same H (upd H T (.tup [V.ty "list", V.ty "tuple"])) := same_upd nT
      generalize (upd H T (.tup [V.ty "list", V.ty "tuple"])) = H1 at *
      refine ⟨_, rfl, _, _, _, _, true, rfl, .ty _, ty_list ((s1).seq hqx), kit_ty (by decide +kernel), _, rfl, _, _, _, _, true, rfl, .ty _, ty_list ((s1).seq hqy), kit_ty (by decide +kernel), rfl, _, rfl, iteF ⟨_, rfl, _, _, _, _, false, rfl, .ty _, ty_list ((s1).seq hqx), kit_ty (by decide +kernel), _, rfl, _, _, _, _, false, rfl, .ty _, ty_list ((s1).seq hqy), kit_ty (by decide +kernel), rfl, _, rfl, iteF ?_⟩⟩
      have hxl : xs.length = ds.length := dpAll_len hdx
      have hyl : ys.length = ds.length := dpAll_len hdy
      refine ⟨_, rfl, _, _, rfl, .inl ((s1).seq hqx), _, rfl, _, _, rfl, .inl ((s1).seq hqy), rfl, _, rfl, ?_⟩
      rw [hxl, hyl]
      simp only [decide_true]
      refine ⟨.ref a, rfl, .ref b, rfl, a, b, xs, ys, rfl, .inl ⟨(s1).seq hqx, (s1).seq hqy, fun D nD => ?_⟩⟩
      refine lc_it (n := ds.length) (walk_zip (xs := xs) (ys := ys) (by omega)) (fun i H4 => H4 D = some (.lst ((List.replicate i true).map V.bl)) ∧ Same H1 H4) ?_ ?_ ?_ ?_
      · exact ⟨upd_same, same_upd nD⟩
      · rintro i H4 hi ⟨hD, s4⟩
        exact ⟨(s1.trans s4).seq hqx, (s1.trans s4).seq hqy⟩
      · rintro i v H4 H5 hi ⟨hD, s4⟩ ⟨T2, u1, u2, rfl, nT2, rfl, hu1, hu2⟩
        have s5 : Same H4 (upd H4 T2 (.tup [u1, u2])) := same_upd nT2
        obtain ⟨d1, hd1, hdp1⟩ := dpAll_at hdx hu1
        obtain ⟨d2, hd2, hdp2⟩ := dpAll_at hdy hu2
        rw [hd1] at hd2
        cases hd2
        have hca := all_at hd1 hc
        have sA : Same H (upd H4 T2 (.tup [u1, u2])) := (s1.trans s4).trans s5
        refine ⟨T2, _, rfl, .inl (.inl upd_same), rfl, _, _, rfl, _, _, rfl, rfl, rfl, ?_⟩
        refine ⟨u1, rfl, u2, rfl, u1, u2, d1, rfl, Dp.up sA hdp1, Dp.up sA hdp2, hca.1, by omega, by omega, (by have := wide_at hd1; omega), ?_⟩
        intro H6 s6
        have hD6 := s6 _ _ (s5 _ _ hD)
        refine ⟨_, hD6, ?_, ?_, ?_⟩
        · rw [List.length_map, List.length_replicate, PySem.sizeLine_eq]
          omega
        · rw [upd_same, List.replicate_succ', List.map_append]
          rfl
        · intro z o ez
          rw [upd_ne (ne_of_none ez nD)]
          exact s6 _ _ (s5 _ _ (s4 _ _ ez))
      · rintro H4 ⟨hD, s4⟩
        refine ⟨D, _, rfl, .inl (.inl hD), ?_⟩
        rw [trues (bs := List.replicate ds.length true) fun z hz => (List.mem_replicate.mp hz).2]
        exact q H4 (s1.trans s4)
  | @tup a xs ds hqx hdx =>
    cases hy with
    | @tup b ys _ hqy hdy =>
      have hc : PyData.canLayAll0 ds = true := hc
      have hn2 : PyData.depthAll ds + 1 ≤ n + 1 := hn
      have h602 : PyData.depthAll ds + 1 ≤ 60 := h60
      have hw2 : max ds.length (wideAll ds) ≤ 100000 := hw
      refine ⟨_, pss_cons (ps_if (pt_val (pe_callB call_isiT (by rfl) mI (by decide +kernel) (pa_cons (pv 1) (pa_cons (pe_tup (pa_cons (pe_bltn (v := .ty "list") (by rfl) mL (by decide +kernel) rfl) (pa_cons (pe_bltn (v := .ty "tuple") (by rfl) mT (by decide +kernel) rfl) pa_nil))) pa_nil))))
          (pss_cons (ps_if (PW.pt (pw_or (pt_cmpR op_ne (pe_callB call_isi (by rfl) mI (by decide +kernel) (pa_cons (pv 0) (pa_cons (pe_bltn (v := .ty "list") (by rfl) mL (by decide +kernel) rfl) pa_nil))) (pe_callB call_isi (by rfl) mI (by decide +kernel) (pa_cons (pv 1) (pa_cons (pe_bltn (v := .ty "list") (by rfl) mL (by decide +kernel) rfl) pa_nil))) (nomark _)) (pw_or1 (pt_cmpR op_ne (pe_callB call_isi (by rfl) mI (by decide +kernel) (pa_cons (pv 0) (pa_cons (pe_bltn (v := .ty "tuple") (by rfl) mT (by decide +kernel) rfl) pa_nil))) (pe_callB call_isi (by rfl) mI (by decide +kernel) (pa_cons (pv 1) (pa_cons (pe_bltn (v := .ty "tuple") (by rfl) mT (by decide +kernel) rfl) pa_nil))) (nomark _))))) pss_never pss_nil)
          (pss_one (ps_ret (pe_and (pe_cmpR op_eq (pe_callB call_len_seq (by rfl) ml PySem.boot_len (pa_cons (pv 0) pa_nil)) (pe_callB call_len_seq (by rfl) ml PySem.boot_len (pa_cons (pv 1) pa_nil)) (nomark _))
            (pe_one (pe_callB (cr_all rfl) (by rfl) mA (by decide +kernel) (pa_cons (pe_lc (own := [("_law_mine", 2), ("_law_its", 3)]) (g := gTup K 2 (gCons (gName 2) (gCons (gName 3) gNil))) (tt := tYes) rfl scSame.nd
              (RZ.pi_zipA (by rfl) mZ (pa_cons (pv 0) (pa_cons (pv 1) pa_nil)))
              (blkOk_by (N := nSame) (sc := defScope sSame) (by decide +kernel)) (fun _ _ _ _ _ => pg_tup rfl (pgs_cons (pg_name (i := 2) scSame.nd rfl (.inl rfl)) (pgs_cons (pg_name (i := 3) scSame.nd rfl (.inl rfl)) pgs_nil)))
              (fun _ _ _ _ _ => pts_nil) (fun _ _ _ _ _ => pe_call IH hr (by rfl) gS F.kp bS .nil pass0 (pa_cons (pv 2) (pa_cons (pv 3) pa_nil)))) pa_nil))))))) pss_nil)
        pss_never, ?_⟩
      refine ⟨_, rfl, (by decide : (2 : Nat) ≤ sizeLine), fun T nT => ⟨_, T, _, _, _, _, rfl, upd_same, two_cls, ty_tup (sameT (same_upd nT) hqy), any2 (r1 := false) (r2 := true) (by decide +kernel) (by decide +kernel), _, rfl, iteT ?_⟩⟩
      have s1 : Same H (upd H T (.tup [V.ty "list", V.ty "tuple"])) := same_upd nT
      generalize (upd H T (.tup [V.ty "list", V.ty "tuple"])) = H1 at *
      refine ⟨_, rfl, _, _, _, _, false, rfl, .ty _, ty_tup (sameT (s1) hqx), kit_ty (by decide +kernel), _, rfl, _, _, _, _, false, rfl, .ty _, ty_tup (sameT (s1) hqy), kit_ty (by decide +kernel), rfl, _, rfl, iteF ⟨_, rfl, _, _, _, _, true, rfl, .ty _, ty_tup (sameT (s1) hqx), kit_ty (by decide +kernel), _, rfl, _, _, _, _, true, rfl, .ty _, ty_tup (sameT (s1) hqy), kit_ty (by decide +kernel), rfl, _, rfl, iteF ?_⟩⟩
      have hxl : xs.length = ds.length := dpAll_len hdx
      have hyl : ys.length = ds.length := dpAll_len hdy
      refine ⟨_, rfl, _, _, rfl, .inr (sameT (s1) hqx), _, rfl, _, _, rfl, .inr (sameT (s1) hqy), rfl, _, rfl, ?_⟩
      rw [hxl, hyl]
      simp only [decide_true]
      refine ⟨.ref a, rfl, .ref b, rfl, a, b, xs, ys, rfl, .inr ⟨sameT (s1) hqx, sameT (s1) hqy, fun D nD => ?_⟩⟩
      refine lc_it (n := ds.length) (walk_zipT (xs := xs) (ys := ys) hxl hyl) (fun i H4 => H4 D = some (.lst ((List.replicate i true).map V.bl)) ∧ Same H1 H4) ?_ ?_ ?_ ?_
      · exact ⟨upd_same, same_upd nD⟩
      · rintro i H4 hi ⟨hD, s4⟩
        exact ⟨sameT (s1.trans s4) hqx, sameT (s1.trans s4) hqy⟩
      · rintro i v H4 H5 hi ⟨hD, s4⟩ ⟨T2, u1, u2, rfl, nT2, rfl, hu1, hu2⟩
        have s5 : Same H4 (upd H4 T2 (.tup [u1, u2])) := same_upd nT2
        obtain ⟨d1, hd1, hdp1⟩ := dpAll_at hdx hu1
        obtain ⟨d2, hd2, hdp2⟩ := dpAll_at hdy hu2
        rw [hd1] at hd2
        cases hd2
        have hca := all_at hd1 hc
        have sA : Same H (upd H4 T2 (.tup [u1, u2])) := (s1.trans s4).trans s5
        refine ⟨T2, _, rfl, .inl (.inl upd_same), rfl, _, _, rfl, _, _, rfl, rfl, rfl, ?_⟩
        refine ⟨u1, rfl, u2, rfl, u1, u2, d1, rfl, Dp.up sA hdp1, Dp.up sA hdp2, hca.1, by omega, by omega, (by have := wide_at hd1; omega), ?_⟩
        intro H6 s6
        have hD6 := s6 _ _ (s5 _ _ hD)
        refine ⟨_, hD6, ?_, ?_, ?_⟩
        · rw [List.length_map, List.length_replicate, PySem.sizeLine_eq]
          omega
        · rw [upd_same, List.replicate_succ', List.map_append]
          rfl
        · intro z o ez
          rw [upd_ne (ne_of_none ez nD)]
          exact s6 _ _ (s5 _ _ (s4 _ _ ez))
      · rintro H4 ⟨hD, s4⟩
        refine ⟨D, _, rfl, .inl (.inl hD), ?_⟩
        rw [trues (bs := List.replicate ds.length true) fun z hz => (List.mem_replicate.mp hz).2]
        exact q H4 (s1.trans s4)
theorem ok_same {f : Addr} {fd : FuncData} (F : Fun K "_law_same" "_law_same" sSame f fd) (bS : Binds K fd ["_law_found", "_law_due"] []) (gS : mg "_law_same" = some (.ref f)) (mI : mg "isinstance" = none) (mL : mg "list" = none) (mT : mg "tuple" = none) (mB : mg "bool" = none) (mS : mg "str" = none) (mN : mg "int" = none) (ml : mg "len" = none) (mA : mg "all" = none) (mZ : mg "zip" = none) : ∀ n : Nat, FnOk P w K mg base CX0 (n + 1) f fd ["_law_found", "_law_due"] (spSame K n)
  | 0 => by
    refine F.ok scSame (fun vs H Q E h => ?_) (fun cdv A outer s H vs Q E hr h => ?_)
    · obtain ⟨x, y, d, rfl, _⟩ := h
      rfl
    · obtain ⟨x, y, d, rfl, hx, hy, hc, h0, _, _, q⟩ := h
      exact same_scal F mI mL mT mB mS mN hr hx hy hc (by omega) q
  | n + 1 => by
    have IH := ok_same F bS gS mI mL mT mB mS mN ml mA mZ n
    refine F.ok scSame (fun vs H Q E h => ?_) (fun cdv A outer s H vs Q E hr h => ?_)
    · obtain ⟨x, y, d, rfl, _⟩ := h
      rfl
    · obtain ⟨x, y, d, rfl, hx, hy, hc, h0, h60, hw, q⟩ := h
      by_cases hz : d.depth = 0
      · exact same_scal F mI mL mT mB mS mN hr hx hy hc hz q
      · exact same_seq F bS gS mI mL mT mB mS mN ml mA mZ IH hr hx hy hc hz h0 h60 hw q
end
end HF
namespace HF
open PySem PySem.Spec PyProof.Rows L2
/-! ### lists of pairs of books -/
def OkP (zs : List Str) (p : Addr × List Str) : Prop := ∃ x y, p.2 = [x, y] ∧ x ∈ zs ∧ y ∈ zs ∧ x ≠ y
def Prs (zs : List Str) (H : Hp) (L : SL) : Prop := ∀ p ∈ L, H p.1 = some (.tup (p.2.map V.str)) ∧ OkP zs p
abbrev rf (L : SL) : List V := L.map fun p => V.ref p.1
theorem Prs.same {zs : List Str} {H H' : Hp} {L : SL} (h : Prs zs H L) (sm : Same H H') : Prs zs H' L := fun p hp => ⟨sm _ _ (h p hp).1, (h p hp).2⟩
theorem Prs.oth {zs : List Str} {H H' : Hp} {L : SL} {p : Addr} {c : Int} (h : Prs zs H L) (o : Oth p H H') (hb : Bx H p c) : Prs zs H' L := fun q hq => by
  refine ⟨o _ _ (h q hq).1 ?_, (h q hq).2⟩
  obtain ⟨x, y, e, _⟩ := hb
  exact ne_of (h q hq).1 e (by intro z; cases z)
theorem Prs.nil {zs : List Str} {H : Hp} : Prs zs H [] := fun p hp => nomatch hp
theorem Prs.app {zs : List Str} {H : Hp} {L M : SL} (h : Prs zs H L) (g : Prs zs H M) : Prs zs H (L ++ M) := fun p hp => (List.mem_append.mp hp).elim (h p) (g p)
theorem Prs.one {zs : List Str} {H : Hp} {T : Addr} {x y : Str} (h : H T = some (.tup [.str x, .str y])) (hx : x ∈ zs) (hy : y ∈ zs) (ne : x ≠ y) : Prs zs H [(T, [x, y])] := fun p hp => by
  rw [List.mem_singleton.mp hp]
  exact ⟨h, x, y, rfl, hx, hy, ne⟩
theorem Prs.sq {K : PySem.W.Frag} {zs : List Str} {H : Hp} {L : SL} (h : Prs zs H L) : ∀ p ∈ L, SqT K H p.1 (p.2.map V.str) := fun p hp => .inl (.inl (h p hp).1)
theorem Prs.two {zs : List Str} {H : Hp} {L : SL} (h : Prs zs H L) : ∀ p ∈ L, p.2.length = 1 + 1 := fun p hp => by
  obtain ⟨x, y, e, _⟩ := (h p hp).2
  rw [e]
  rfl
/-- the ties of a heap: unlike pairs, rising -/
def Ties (zs : List Str) (H : Hp) (r : Addr) (L : SL) : Prop := Tp H r (rf L) ∧ Prs zs H L ∧ (L.map (·.2)).Nodup ∧ L.Pairwise (fun p q => PySem.W.dataLe false encS p q = true)
theorem Ties.same {zs : List Str} {H H' : Hp} {r : Addr} {L : SL} (h : Ties zs H r L) (sm : Same H H') : Ties zs H' r L := ⟨h.1.same sm, h.2.1.same sm, h.2.2⟩
theorem Ties.oth {zs : List Str} {H H' : Hp} {r p : Addr} {L : SL} {c : Int} (h : Ties zs H r L) (o : Oth p H H') (hb : Bx H p c) : Ties zs H' r L := ⟨h.1.oth o (h.1.ne hb), h.2.1.oth o hb, h.2.2⟩
theorem at7 {r : Int} (h0 : 0 ≤ r) (h1 : r < 7) : ∃ j : Int, atI [V.int 0, V.int 6, V.int 3, V.int 2, V.int 4, V.int 6, V.int 4] r = some (V.int j) ∧ 0 ≤ j ∧ j ≤ 6 := by
  obtain ⟨n, rfl⟩ := Int.eq_ofNat_of_zero_le h0
  match n, h1 with
  | 0, _ => exact ⟨0, atI_nat (j := 0) rfl, by decide, by decide⟩
  | 1, _ => exact ⟨6, atI_nat (j := 1) rfl, by decide, by decide⟩
  | 2, _ => exact ⟨3, atI_nat (j := 2) rfl, by decide, by decide⟩
  | 3, _ => exact ⟨2, atI_nat (j := 3) rfl, by decide, by decide⟩
  | 4, _ => exact ⟨4, atI_nat (j := 4) rfl, by decide, by decide⟩
  | 5, _ => exact ⟨6, atI_nat (j := 5) rfl, by decide, by decide⟩
  | 6, _ => exact ⟨4, atI_nat (j := 6) rfl, by decide, by decide⟩
  | n + 7, h => omega
def spTies (K : PySem.W.Frag) : Sp := fun vs H Q _ => ∃ (p t : Addr) (c : Int) (zs : List Str), vs = [.ref p, .ref t] ∧ Bx H p c ∧ c < 2 ^ 38 ∧ Sq K H t (zs.map V.str) ∧ t ≠ p ∧ zs.Nodup ∧ zs.length ≤ 12 ∧
  ∀ (H' : Hp) (r : Addr) (L : SL) (c' : Int), H r = none → Oth p H H' → Ties zs H' r L → Bx H' p c' → c ≤ c' → c' ≤ c + 200 → Q (.ref r) H'
end HF
/-! enumerate(tuple) -/
namespace HF
open PySem PySem.Spec PyProof.Rows L2
theorem enum_new1 {v : Value} {ob : Obj} {Hv : Heap → Prop} (B : Begins v ob Hv) :
    Meets (Builtin.«enumerate.__new__» ⟨[.type "enumerate", v], []⟩) (fun _ R st => Hv st.heap ∧
      R (.ok (.ret (.ref (st.heap.push ob).objs.size))) { st with heap := (st.heap.push ob).push { cls := .type "enumerate", data := .fields #[.none, .bool false, .ref st.heap.objs.size, rawInt 0, .none, .none] } }) := by
  refine .of_wp fun prog w A R st hyp => ?_
  obtain ⟨hp, gg, dd, tk, os⟩ := st
  obtain ⟨h1, h2⟩ := hyp
  have hsub := sub_enumerate
  have walkI : ∀ {A' : Around} {E : Value → Shared → Prop} {Q : Value → Shared → Prop}, Q (.ref hp.objs.size) ⟨hp.push ob, gg, dd, tk, os⟩ → wpAny (model prog w) A' (pyIter v) Q E ⟨hp, gg, dd, tk, os⟩ := fun q => B.iter prog w _ _ ⟨hp, gg, dd, tk, os⟩ _ h1 q
  wp_walk using walkI
  refine wpAny_stack_any fun stk => wpAny_pure ?_
  split
  · rename_i cc _ _ _ _ _
    cases (cc == Value.type "enumerate") <;> (wp_walk using walkI; exact ⟨_, rfl, h2⟩)
  · wp_walk using walkI
    exact ⟨_, rfl, h2⟩
section
variable {prog : Program} {w : World} {A : Around} {E : Value → Shared → Prop} {s : Shared}
theorem enum_call1 {v : Value} {ob : Obj} {Hv : Heap → Prop} {Q : Value → Shared → Prop} (B : Begins v ob Hv) (h1 : Hv s.heap)
    (hQ : ∀ h', IsEnum h' (s.heap.objs.size + 1) s.heap.objs.size 0 .none → h'.get? s.heap.objs.size = some ob → (∀ b o, s.heap.get? b = some o → h'.get? b = some o) → Q (.ref (s.heap.objs.size + 1)) { s with heap := h' }) :
    wpAny (model prog w) A (call (.type "enumerate") [v]) Q E s := by
  refine callType_new F.called_enumerate (by decide) (F.typeCall_enumerate_1 _) (F.newCall_enumerate_1 _) (fun obj => F.args_object_init_2 obj _) F.entry_enumerate_new (enum_new1 B) ⟨h1, ?_⟩
  have hz : (s.heap.push ob).objs.size = s.heap.objs.size + 1 := Heap.size_push ..
  show _ ∧ _
  rw [hz]
  have he : IsEnum ((s.heap.push ob).push { cls := .type "enumerate", data := .fields #[.none, .bool false, .ref s.heap.objs.size, rawInt 0, .none, .none] }) (s.heap.objs.size + 1) s.heap.objs.size 0 .none := by
    have e := Heap.get?_push_size (s.heap.push ob) (o := { cls := .type "enumerate", data := .fields #[.none, .bool false, .ref s.heap.objs.size, rawInt 0, .none, .none] }) rfl
    rw [hz] at e
    exact e
  exact ⟨⟨_, he, rfl⟩, hQ _ he (Heap.get?_push_of_some _ (Heap.get?_push_size _ B.free)) fun b o x => Heap.get?_push_of_some _ (Heap.get?_push_of_some _ x)⟩
theorem enum_end_t {e it a : Addr} {its : Array Value} {i : Nat} {j : Int} {old : Value} {Q : Option Value → Shared → Prop} (hh : A.handled = none) (he : IsEnum s.heap e it j old) (hit : s.heap.IsTupleIter it a i) (ht : s.heap.IsTuple a its) (hi : its.size ≤ i)
    (hQ : ∀ h', Heap.ExtBut it s.heap h' → Q none { s with heap := h' }) : wpAny (model prog w) A (pyNext (.ref e)) Q E s := by
  have ty : s.TypeIs (.ref e) "enumerate" := ⟨_, he, rfl⟩
  unfold pyNext
  refine wpAny_bind (wpAny_attempt (wpAny_callSpecial?_slot (name := Str.ofString "__next__") ty F.slot_enumerate_next (wpAny_call_entry F.slot_enumerate_next ty F.entry_enumerate_next ?_ (F.args_enumerate_next_1 _))))
  show wpAny _ _ (field (.ref e) 2 >>= _) _ _ _
  refine wpAny_bind (wpAny_field he rfl (x := .ref it) rfl (wpAny_bind (wpAny_nextOf_tuple_end (A := A.in1) hh hit ht (by simp; omega) fun h1 x kp stop => ?_)))
  obtain ⟨o, ho, hc⟩ := stop
  exact wpAny_bind (wpAny_isInstance (T := "StopIteration") (b := true) ⟨o, ho, hc⟩ isSubtype_stop (wpAny_pure (hQ _ kp)))
end
/-- the tuple's items in new pairs with their places -/
def ItE (K : PySem.W.Frag) (a : Addr) : It :=
  ⟨fun i H => ∃ (xs : List V) (x : V), SqT K H a xs ∧ xs[i]? = some x, fun i H v H' => ∃ T x, v = .ref T ∧ H T = none ∧ H' = upd H T (.tup [.int (i : Nat), x]) ∧ ∀ xs, SqT K H a xs → xs[i]? = some x, fun i H => ∃ xs : List V, SqT K H a xs ∧ xs.length ≤ i⟩
theorem turn_E {P : Program} {w : World} {K : PySem.W.Frag} {elts : List Expr} {kk : Nat} {tpos : Pos} (a e it : Addr) :
    Turn P w K (.Tuple elts kk tpos) (ItE K a) [e, it] e (fun i h => (∃ old, IsEnum h e it ((i : Nat) : Int) old) ∧ h.IsTupleIter it a i ∧ e ≠ it ∧ a ≠ it ∧ e ≠ a) where
  mem := by simp
  obj := fun i h st b hb => by
    obtain ⟨⟨old, he⟩, ⟨o, ho, hc, hd⟩, _⟩ := st
    rcases (show b = e ∨ b = it by simpa using hb) with rfl | rfl
    · exact ⟨_, he, fun v q => nomatch q⟩
    · exact ⟨o, ho, fun v q => by rw [hd] at q; cases q⟩
  keep := fun i h h' st kp => let ⟨⟨old, he⟩, hi, r⟩ := st; ⟨⟨old, kp e (by simp) _ he⟩, hi.at fun o q => kp it (by simp) o q, r⟩
  item := by
    intro X hP hw hK hc i pins st σ H E I hf inv hg
    subst hP hw hK
    obtain ⟨⟨old, he⟩, hit, ne1, ne2, ne3⟩ := inv
    obtain ⟨xs, x, hq, hx⟩ := hg
    obtain ⟨its, rv, pl, hz⟩ := I.tuple hq
    obtain ⟨u, hu, ru⟩ := rv.get hx
    have lte : e < st.heap.objs.size := Heap.lt_size he
    have lti : it < st.heap.objs.size := by obtain ⟨_, q, _⟩ := hit; exact Heap.lt_size q
    have hui : its.toArray[i]? = some u := by simpa using hu
    have hlt : i < its.toArray.size := (Array.getElem?_eq_some_iff.mp hui).1
    refine wpAny_pyNext_enum_itemD (Draws.tuple (A := X.A.in1) (show X.A.in1.handled = none from I.ok.hd hc) it a ne2 its.toArray) he ⟨hit, pl⟩ hlt ne1 (by simp [ne1, ne3]) fun y h1 tk hy ho hst hT hsz kp => ?_
    have ey : y = u := Option.some.inj ((show its.toArray[i]? = some y from hy).symm.trans hui)
    subst ey
    refine ⟨_, rfl, wpAny_letOwnedTupleGo_enum (s := { st with heap := h1, toks := tk + 1 }) ho fun h2 he2 sb => ?_⟩
    have hT2 : h2.get? st.heap.objs.size = some { cls := .type "tuple", data := .seq #[.int i tk, y] } := (sb.2 _ (Nat.ne_of_gt lte)).trans hT
    have new : ObjOk X.prog X.w (upd H st.heap.objs.size (.tup [.int (i : Nat), x])) h2 st.heap.objs.size (.tup [.int (i : Nat), x]) :=
      ⟨(by decide : (2 : Nat) ≤ sizeLine), [.int i tk, y], .cons ⟨_, rfl⟩ (.cons ru .nil), ⟨_, hT2, rfl, _, rfl⟩⟩
    have J : Inv X pins σ (upd H st.heap.objs.size (.tup [.int (i : Nat), x])) { st with heap := h2, toks := tk + 1 } :=
      I.turnedNew (ch := [e, it]) (fun b ob hb q => (sb.2 b (fun z => hb (by simp [z]))).trans (kp b ob (fun z => hb (by simp [z])) (fun z => hb (by simp [z])) q)) hf (Nat.le_refl _) new
    refine ⟨.ref st.heap.objs.size, _, J, rfl, ⟨_, x, rfl, I.hok.fresh (Nat.le_refl _), rfl, fun ys hy => by rw [I.tuple_inj hy hq]; exact hx⟩, ⟨⟨y, ?_⟩, hst.1.at fun o q => (sb.2 it (Ne.symm ne1)).trans q, ne1, ne2, ne3⟩, fun b hb => ?_⟩
    · rw [show ((i + 1 : Nat) : Int) = (i : Int) + 1 by omega]
      exact he2
    · have lb : b < st.heap.objs.size := by
        rcases (show b = e ∨ b = it by simpa using hb) with rfl | rfl
        · exact lte
        · exact lti
      rw [upd_ne (Nat.ne_of_lt lb)]
      exact (hf b hb).1
  done := by
    intro X hP hw hK hc i pins st σ H E I hf inv hg
    subst hP hw hK
    obtain ⟨⟨old, he⟩, hit, ne1, ne2, ne3⟩ := inv
    obtain ⟨xs, hq, hx⟩ := hg
    obtain ⟨its, rv, pl, hz⟩ := I.tuple hq
    obtain ⟨f0, f1, f2, f3, f4, f5⟩ := hf it (by simp)
    have hl := rv.length
    exact enum_end_t (I.ok.hd hc) he hit pl (by simp; omega) fun h1 eb => ⟨rfl, I.turned (t' := st.toks) (fun b o hb q => eb b o hb q) f0 f1 f3 f4 f5⟩
  self := fun A i st Q E inv h => let ⟨⟨_, he⟩, _⟩ := inv; wpAny_pyIter_enum he h
def iEnT (K : PySem.W.Frag) (ta : TA) : TI := fun σ H R => ta σ H fun vs H1 => ∃ a xs, vs = [.ref a] ∧ SqT K H1 a xs ∧ R (ItE K a) H1
theorem pi_enT {X : Cx} {e : Expr} {ta : TA} {p pos tpos : Pos} {elts : List Expr} {kk : Nat} (hg : Gl X "enumerate") (hm : X.mg "enumerate" = none) (ha : PA X [e] ta) (hst : starEach [e] X.env = [(false, eval e X.env)] := by rfl) :
    PI X (.Tuple elts kk tpos) (.Call (.Name "enumerate" p) [e] [] pos) (iEnT X.K ta) := by
  refine ⟨fun pins st σ H R I hyp => Call_ (ld_blt I hg hm boot_enumerate (PyProof.Rows.callWith_type1 (thn (ha.run pos pins st σ H _ I hyp) ?_) hst rfl))⟩
  rintro us s1 ⟨vs, H1, J, rel, a, xs, rfl, hq, q⟩
  obtain ⟨uv, rfl, ru⟩ := vals1 rel
  cases ru
  obtain ⟨its, rv, pl, hz⟩ := J.tuple hq
  have lta : a < s1.heap.objs.size := by obtain ⟨o, ho, _⟩ := pl; exact Heap.lt_size ho
  refine enum_call1 (begins_tuple a its.toArray) pl fun h1 he hit kp => wpAny_pyIter_enum he ?_
  have J2 : Inv X pins σ H1 { s1 with heap := h1 } := J.kept (t' := s1.toks) kp
  refine ⟨s1.heap.objs.size + 1, [s1.heap.objs.size + 1, s1.heap.objs.size], _, _, H1, rfl, J2, turn_E a (s1.heap.objs.size + 1) s1.heap.objs.size, ⟨⟨.none, he⟩, ⟨_, hit, rfl, rfl⟩, Nat.succ_ne_self _, Nat.ne_of_lt lta, Nat.ne_of_gt (Nat.lt_succ_of_lt lta)⟩, fun b hb => ?_, q⟩
  have hle : s1.heap.objs.size ≤ b := by
    rcases (show b = s1.heap.objs.size + 1 ∨ b = s1.heap.objs.size by simpa using hb) with rfl | rfl
    · exact Nat.le_succ _
    · exact Nat.le_refl _
  exact J.fpOk hle (J.hok.fresh hle)
theorem walk_enT {K : PySem.W.Frag} {a : Addr} {xs : List V} : Walk (ItE K a) xs.length (fun H => SqT K H a xs) (YPair (fun i => some (.int (i : Nat))) (fun i => xs[i]?)) := by
  refine ⟨fun i H hi q => ⟨xs, xs[i], q, List.getElem?_eq_getElem hi⟩, fun H q => ⟨xs, q, Nat.le_refl _⟩, ?_⟩
  rintro i H x H' hi q ⟨T, u, e1, e2, e3, h1⟩
  exact ⟨T, _, u, e1, e2, e3, rfl, h1 xs q⟩
end HF
namespace HF
open PySem PySem.Spec PyProof.Rows L2
/-! ### lists for tuples, at any depth -/
mutual
def lsD : PyData → PyData
  | .list xs => .list (lsAll xs)
  | .tuple xs => .list (lsAll xs)
  | d => d
def lsAll : List PyData → List PyData
  | [] => []
  | x :: r => lsD x :: lsAll r
end
theorem lsAll_len : ∀ ds : List PyData, (lsAll ds).length = ds.length
  | [] => rfl
  | x :: r => by
    show (lsAll r).length + 1 = r.length + 1
    rw [lsAll_len r]
theorem lsAll_snoc : ∀ (ds : List PyData) (d : PyData), lsAll (ds ++ [d]) = lsAll ds ++ [lsD d]
  | [], _ => rfl
  | x :: r, d => by
    show lsD x :: lsAll (r ++ [d]) = _
    rw [lsAll_snoc r d]
    rfl
mutual
/-- data whose lists are new since H -/
inductive Nw (H H' : Hp) : V → PyData → Prop
  | non : Nw H H' .non .none
  | bl (b : Bool) : Nw H H' (.bl b) (.bool b)
  | int (i : Int) : Nw H H' (.int i) (.int i)
  | str (x : Str) : Nw H H' (.str x) (.str x)
  | lst {a : Addr} {xs : List V} {ds : List PyData} : H a = none → H' a = some (.lst xs) → NwAll H H' xs ds → Nw H H' (.ref a) (.list ds)
inductive NwAll (H H' : Hp) : List V → List PyData → Prop
  | nil : NwAll H H' [] []
  | cons {v : V} {vs : List V} {d : PyData} {ds : List PyData} : Nw H H' v d → NwAll H H' vs ds → NwAll H H' (v :: vs) (d :: ds)
end
mutual
theorem Nw.dp {K : PySem.W.Frag} {H H' : Hp} : ∀ {v : V} {d : PyData}, Nw H H' v d → Dp K H' v d
  | _, _, .non => .non
  | _, _, .bl b => .bl b
  | _, _, .int i => .int i
  | _, _, .str x => .str x
  | _, _, .lst _ h t => .lst (.inl (.inl h)) (NwAll.dp t)
theorem NwAll.dp {K : PySem.W.Frag} {H H' : Hp} : ∀ {vs : List V} {ds : List PyData}, NwAll H H' vs ds → DpAll K H' vs ds
  | _, _, .nil => .nil
  | _, _, .cons h t => .cons (Nw.dp h) (NwAll.dp t)
end
mutual
theorem Nw.go {H H' G G' : Hp} (h1 : ∀ a, H a = none → G a = none) (h2 : ∀ a o, H a = none → H' a = some o → G' a = some o) : ∀ {v : V} {d : PyData}, Nw H H' v d → Nw G G' v d
  | _, _, .non => .non
  | _, _, .bl b => .bl b
  | _, _, .int i => .int i
  | _, _, .str x => .str x
  | _, _, .lst n h t => .lst (h1 _ n) (h2 _ _ n h) (NwAll.go h1 h2 t)
theorem NwAll.go {H H' G G' : Hp} (h1 : ∀ a, H a = none → G a = none) (h2 : ∀ a o, H a = none → H' a = some o → G' a = some o) : ∀ {vs : List V} {ds : List PyData}, NwAll H H' vs ds → NwAll G G' vs ds
  | _, _, .nil => .nil
  | _, _, .cons h t => .cons (Nw.go h1 h2 h) (NwAll.go h1 h2 t)
end
theorem NwAll.snoc {H H' : Hp} : ∀ {vs : List V} {ds : List PyData} {v : V} {d : PyData}, NwAll H H' vs ds → Nw H H' v d → NwAll H H' (vs ++ [v]) (ds ++ [d])
  | _, _, _, _, .nil, h => .cons h .nil
  | _, _, _, _, .cons a t, h => .cons a (NwAll.snoc t h)
def spListed (K : PySem.W.Frag) (n : Nat) : Sp := fun vs H Q _ => ∃ (x : V) (d : PyData), vs = [x] ∧ Dp K H x d ∧ d.depth ≤ n ∧ wide d ≤ 100000 ∧ ∀ (H' : Hp) (y : V), Same H H' → Nw H H' y (lsD d) → Q y H'
/-! ### pairs, as tuples of tuples or as lists of lists -/
def PqT (K : PySem.W.Frag) (H : Hp) (r : Addr) (qs : List (Str × Str)) : Prop := ∃ as : List Addr, SqT K H r (as.map V.ref) ∧ as.length = qs.length ∧ ∀ (i : Nat) (a : Addr) (q : Str × Str), as[i]? = some a → qs[i]? = some q → SqT K H a [.str q.1, .str q.2]
def PqL (K : PySem.W.Frag) (H : Hp) (r : Addr) (qs : List (Str × Str)) : Prop := ∃ as : List Addr, SqL K H r (as.map V.ref) ∧ as.length = qs.length ∧ ∀ (i : Nat) (a : Addr) (q : Str × Str), as[i]? = some a → qs[i]? = some q → SqL K H a [.str q.1, .str q.2]
theorem PqT.same {K : PySem.W.Frag} {H H' : Hp} {r : Addr} {qs : List (Str × Str)} (h : PqT K H r qs) (sm : Same H H') : PqT K H' r qs := by
  obtain ⟨as, h1, h2, h3⟩ := h
  exact ⟨as, sameT sm h1, h2, fun i a q e1 e2 => sameT sm (h3 i a q e1 e2)⟩
def prOf (p : Addr × List Str) : Str × Str := match p.2 with
  | [x, y] => (x, y)
  | _ => ("", "")
theorem Ties.pq {K : PySem.W.Frag} {zs : List Str} {H : Hp} {r : Addr} {L : SL} (h : Ties zs H r L) : PqT K H r (L.map prOf) := by
  refine ⟨L.map (·.1), by rw [List.map_map]; exact h.1.sq, by rw [List.length_map, List.length_map], fun i a q e1 e2 => ?_⟩
  rw [List.getElem?_map] at e1 e2
  obtain ⟨p, hp, rfl⟩ := Option.map_eq_some_iff.mp e1
  rw [hp] at e2
  cases (show some (prOf p) = some q from e2)
  obtain ⟨g1, x, y, e, _⟩ := h.2.1 p (List.mem_of_getElem? hp)
  have ep : prOf p = (x, y) := by
    unfold prOf
    rw [e]
  rw [e] at g1
  rw [ep]
  exact .inl (.inl g1)
def sndOf (b : Str) (qs : List (Str × Str)) : List Str := (qs.filter fun q => decide (q.1 = b)).map (·.2)
def fstOf (b : Str) (qs : List (Str × Str)) : List Str := (qs.filter fun q => decide (q.2 = b)).map (·.1)
theorem sndOf_len (b : Str) (qs : List (Str × Str)) : (sndOf b qs).length ≤ qs.length := by
  unfold sndOf
  rw [List.length_map]
  exact List.length_filter_le _ _
theorem fstOf_len (b : Str) (qs : List (Str × Str)) : (fstOf b qs).length ≤ qs.length := by
  unfold fstOf
  rw [List.length_map]
  exact List.length_filter_le _ _
theorem sndOf_snoc (b : Str) (qs : List (Str × Str)) (q : Str × Str) : sndOf b (qs ++ [q]) = sndOf b qs ++ (if q.1 = b then [q.2] else []) := by
  unfold sndOf
  rw [List.filter_append, List.map_append]
  by_cases e : q.1 = b
  · rw [if_pos e, List.filter_cons_of_pos (p := fun q : Str × Str => decide (q.1 = b)) (decide_eq_true e)]
    rfl
  · rw [if_neg e, List.filter_cons_of_neg (p := fun q : Str × Str => decide (q.1 = b)) (by rw [decide_eq_true_eq]; exact e)]
    rfl
theorem fstOf_snoc (b : Str) (qs : List (Str × Str)) (q : Str × Str) : fstOf b (qs ++ [q]) = fstOf b qs ++ (if q.2 = b then [q.1] else []) := by
  unfold fstOf
  rw [List.filter_append, List.map_append]
  by_cases e : q.2 = b
  · rw [if_pos e, List.filter_cons_of_pos (p := fun q : Str × Str => decide (q.2 = b)) (decide_eq_true e)]
    rfl
  · rw [if_neg e, List.filter_cons_of_neg (p := fun q : Str × Str => decide (q.2 = b)) (by rw [decide_eq_true_eq]; exact e)]
    rfl
def spPick (K : PySem.W.Frag) (g : Str → List (Str × Str) → List Str) : Sp := fun vs H Q _ => ∃ (r : Addr) (b : Str) (qs : List (Str × Str)), vs = [.ref r, .str b] ∧ (PqT K H r qs ∨ PqL K H r qs) ∧ qs.length ≤ 400 ∧
  ∀ (H' : Hp) (l : Addr), Same H H' → H l = none → H' l = some (.lst ((srt (g b qs)).map V.str)) → Q (.ref l) H'
theorem fn_false {P : Program} {w : World} {K : PySem.W.Frag} {mg : Str → Option Value} {base : Heap} {k : Nat} {f : Addr} {fd : FuncData} {ps : List Str} : FnOk P w K mg base CX0 k f fd ps (fun _ _ _ _ => False) := ⟨fun _ _ _ _ h => h.elim, fun _ _ _ _ _ _ _ _ _ _ _ _ _ h => h.elim⟩
end HF
/-! heaps and ties as data -/
namespace HF
open PySem PySem.Spec PyProof.Rows L2
theorem pos_at {x : Str} : ∀ {zs : List Str} {i : Nat}, zs.Nodup → zs[i]? = some x → pos x zs = i
  | z :: r, 0, _, h => by
    have e : z = x := Option.some.inj h
    unfold pos
    rw [if_pos e]
  | z :: r, i + 1, nd, h => by
    have h' : r[i]? = some x := h
    obtain ⟨n1, n2⟩ := List.nodup_cons.mp nd
    have e : z ≠ x := fun e => n1 (e ▸ List.mem_of_getElem? h')
    unfold pos
    rw [if_neg e, pos_at n2 h']
abbrev dRow (p : Addr × List Str) : PyData := .tuple (p.2.map PyData.str)
abbrev dTies (L : SL) : PyData := .tuple (L.map dRow)
theorem dp_rows {K : PySem.W.Frag} {zs : List Str} {H : Hp} : ∀ {L : SL}, Prs zs H L → DpAll K H (rf L) (L.map dRow)
  | [], _ => .nil
  | p :: r, h => .cons (.tup (.inl (.inl (h p List.mem_cons_self).1)) (dp_strs _)) (dp_rows fun q hq => h q (List.mem_cons_of_mem _ hq))
theorem Ties.dp {K : PySem.W.Frag} {zs : List Str} {H : Hp} {r : Addr} {L : SL} (h : Ties zs H r L) : Dp K H (.ref r) (dTies L) := .tup h.1.sq (dp_rows h.2.1)
theorem show_rows : ∀ L : SL, PyData.showableAll (L.map dRow) = true
  | [] => rfl
  | p :: r => by
    show (PyData.showableAll (p.2.map PyData.str) && PyData.showableAll (r.map dRow)) = true
    rw [show_strs, show_rows r]
    rfl
theorem nodict_rows : ∀ L : SL, PyData.hasDictAll (L.map dRow) = false
  | [] => rfl
  | p :: r => by
    show (PyData.hasDictAll (p.2.map PyData.str) || PyData.hasDictAll (r.map dRow)) = false
    rw [nodict_strs, nodict_rows r]
    rfl
theorem ints_rows (B : Nat) : ∀ L : SL, PyData.intsShortAll B (L.map dRow) = true
  | [] => rfl
  | p :: r => by
    show (PyData.intsShortAll B (p.2.map PyData.str) && PyData.intsShortAll B (r.map dRow)) = true
    rw [ints_strs, ints_rows B r]
    rfl
theorem depth_rows : ∀ L : SL, PyData.depthAll (L.map dRow) ≤ 1
  | [] => Nat.zero_le _
  | p :: r => by
    show max (PyData.depthAll (p.2.map PyData.str) + 1) (PyData.depthAll (r.map dRow)) ≤ 1
    rw [depth_strs]
    have := depth_rows r
    omega
theorem OkP.nm {zs : List Str} {p : Addr × List Str} (h : OkP zs p) (hn : ∀ z ∈ zs, Nm z) : ∀ z ∈ p.2, Nm z := by
  obtain ⟨x, y, e, hx, hy, _⟩ := h
  rw [e]
  intro z hz
  rcases List.mem_cons.mp hz with h1 | h1
  · rw [h1]; exact hn _ hx
  · rw [List.mem_singleton.mp h1]; exact hn _ hy
theorem lay_rows {zs : List Str} (hn : ∀ z ∈ zs, Nm z) : ∀ {L : SL}, (∀ p ∈ L, OkP zs p) → PyData.canLayAll0 (L.map dRow) = true
  | [], _ => rfl
  | p :: r, h => by
    show (PyData.canLayAll0 (p.2.map PyData.str) && PyData.canLayAll0 (r.map dRow)) = true
    rw [canLay_strs ((h p List.mem_cons_self).nm hn), lay_rows hn fun q hq => h q (List.mem_cons_of_mem _ hq)]
    rfl
theorem weight_rows {zs : List Str} (hn : ∀ z ∈ zs, Nm z) : ∀ {L : SL}, (∀ p ∈ L, OkP zs p) → PyData.weightAll (L.map dRow) ≤ 15 * L.length
  | [], _ => Nat.le_refl _
  | p :: r, h => by
    have ih := weight_rows hn (L := r) fun q hq => h q (List.mem_cons_of_mem _ hq)
    have h1 := weight_strs ((h p List.mem_cons_self).nm hn)
    obtain ⟨x, y, e, _⟩ := h p List.mem_cons_self
    have hl : p.2.length = 2 := by rw [e]; rfl
    show PyData.weightAll (p.2.map PyData.str) + 1 + PyData.weightAll (r.map dRow) ≤ 15 * (r.length + 1)
    omega
/-- [heap, ties] -/
abbrev dHT (xs : List Str) (L : SL) : PyData := .list [.tuple (xs.map PyData.str), dTies L]
theorem ht_show (xs : List Str) (L : SL) : (dHT xs L).showable = true := by
  show (PyData.showableAll (xs.map PyData.str) && (PyData.showableAll (L.map dRow) && true)) = true
  rw [show_strs, show_rows]
  rfl
theorem ht_nodict (xs : List Str) (L : SL) : (dHT xs L).hasDict = false := by
  show (PyData.hasDictAll (xs.map PyData.str) || (PyData.hasDictAll (L.map dRow) || false)) = false
  rw [nodict_strs, nodict_rows]
  rfl
theorem ht_depth (xs : List Str) (L : SL) : (dHT xs L).depth < 60 := by
  show max (PyData.depthAll (xs.map PyData.str) + 1) (max (PyData.depthAll (L.map dRow) + 1) 0) + 1 < 60
  rw [depth_strs]
  have := depth_rows L
  omega
theorem ht_fits {xs zs : List Str} {L : SL} (hx : ∀ z ∈ xs, Nm z) (hn : ∀ z ∈ zs, Nm z) (hL : ∀ p ∈ L, OkP zs p) (lx : xs.length ≤ 1000) (ly : L.length ≤ 1000) : (dHT xs L).shown.length ≤ sizeLine := by
  refine PyData.shown_fits (B := 13) (by decide) (by decide) (PyData.leavesShort_of_canLay0 13 _ ?_ ?_) ?_
  · show (PyData.canLayAll0 (xs.map PyData.str) && (PyData.canLayAll0 (L.map dRow) && true)) = true
    rw [canLay_strs hx, lay_rows hn hL]
    rfl
  · show (PyData.intsShortAll 13 (xs.map PyData.str) && (PyData.intsShortAll 13 (L.map dRow) && true)) = true
    rw [ints_strs, ints_rows]
    rfl
  · show PyData.weightAll (xs.map PyData.str) + 1 + (PyData.weightAll (L.map dRow) + 1 + 0) ≤ 2 ^ 20
    have h1 := weight_strs hx
    have h2 := weight_rows hn hL
    omega
/-! few pairs -/
theorem len_sub {α : Type} [BEq α] [LawfulBEq α] : ∀ {l m : List α}, l.Nodup → l ⊆ m → l.length ≤ m.length
  | [], _, _, _ => Nat.zero_le _
  | x :: r, m, nd, h => by
    obtain ⟨n1, n2⟩ := List.nodup_cons.mp nd
    have hx : x ∈ m := h List.mem_cons_self
    have ih := len_sub (m := m.erase x) n2 fun y hy => (List.mem_erase_of_ne (fun (e : y = x) => n1 (e ▸ hy))).mpr (h (List.mem_cons_of_mem _ hy))
    rw [List.length_erase_of_mem hx] at ih
    have := List.length_pos_of_mem hx
    rw [List.length_cons]
    omega
theorem sub_len {zs : List Str} {L : SL} (h : ∀ p ∈ L, OkP zs p) (nd : (L.map (·.2)).Nodup) : L.length ≤ zs.length * zs.length := by
  have hs : (L.map (·.2)) ⊆ (zs.flatMap fun x => zs.map fun y => [x, y]) := by
    intro a ha
    obtain ⟨p, hp, rfl⟩ := List.mem_map.mp ha
    obtain ⟨x, y, e, hx, hy, _⟩ := h p hp
    rw [e]
    exact List.mem_flatMap.mpr ⟨x, hx, List.mem_map.mpr ⟨y, hy, rfl⟩⟩
  have := len_sub nd hs
  rw [List.length_map] at this
  refine Nat.le_trans this ?_
  have hl : ∀ ys : List Str, (ys.flatMap fun x => zs.map fun y => [x, y]).length = ys.length * zs.length := by
    intro ys
    induction ys with
    | nil => simp
    | cons y r ih =>
      rw [List.flatMap_cons, List.length_append, ih, List.length_map, List.length_cons, Nat.succ_mul, Nat.add_comm]
  rw [hl]
  exact Nat.le_refl _
/-! lists for tuples -/
theorem nw_strs {H H' : Hp} : ∀ {zs : List Str} {vs : List V}, NwAll H H' vs (lsAll (zs.map PyData.str)) → vs = zs.map V.str
  | [], _, .nil => rfl
  | z :: r, _, .cons h t => by
    have e := nw_strs t
    have h1 : Nw H H' _ (PyData.str z) := h
    cases h1
    rw [e]
    rfl
theorem nw_rows {H H' : Hp} : ∀ {L : SL} {vs : List V}, NwAll H H' vs (lsAll (L.map dRow)) → ∃ as : List Addr, vs = as.map V.ref ∧ as.length = L.length ∧ ∀ (i : Nat) (a : Addr) (p : Addr × List Str), as[i]? = some a → L[i]? = some p → H' a = some (.lst (p.2.map V.str))
  | [], _, .nil => ⟨[], rfl, rfl, fun i a p h => by simp at h⟩
  | p :: r, _, .cons h t => by
    obtain ⟨as, e, hl, hat⟩ := nw_rows t
    have h1 : Nw H H' _ (PyData.list (lsAll (p.2.map PyData.str))) := h
    obtain ⟨n1, n2, n3⟩ := h1
    rename_i a xs n1 n2 n3
    have ex := nw_strs n3
    subst ex
    refine ⟨a :: as, by rw [e]; rfl, by rw [List.length_cons, List.length_cons, hl], fun i b q hb hq => ?_⟩
    cases i with
    | zero =>
      cases (show some a = some b from hb)
      cases (show some p = some q from hq)
      exact n2
    | succ i => exact hat i b q hb hq
theorem nw_pq {K : PySem.W.Frag} {zs : List Str} {H H' : Hp} {y : V} {L : SL} (h : Nw H H' y (lsD (dTies L))) (hL : ∀ p ∈ L, OkP zs p) : ∃ r, y = .ref r ∧ H r = none ∧ PqL K H' r (L.map prOf) := by
  have h1 : Nw H H' y (PyData.list (lsAll (L.map dRow))) := h
  cases h1 with
  | lst n1 n2 n3 =>
    obtain ⟨as, e, hl, hat⟩ := nw_rows n3
    subst e
    refine ⟨_, rfl, n1, as, .inl (.inl n2), by rw [hl, List.length_map], fun i a q e1 e2 => ?_⟩
    rw [List.getElem?_map] at e2
    obtain ⟨p, hp, rfl⟩ := Option.map_eq_some_iff.mp e2
    have g1 := hat i a p e1 hp
    obtain ⟨x, y, e, _⟩ := hL p (List.mem_of_getElem? hp)
    have ep : prOf p = (x, y) := by
      unfold prOf
      rw [e]
    rw [e] at g1
    rw [ep]
    exact .inl (.inl g1)
theorem PqL.same {K : PySem.W.Frag} {H H' : Hp} {r : Addr} {qs : List (Str × Str)} (h : PqL K H r qs) (sm : Same H H') : PqL K H' r qs := by
  obtain ⟨as, h1, h2, h3⟩ := h
  exact ⟨as, sm.seq h1, h2, fun i a q e1 e2 => sm.seq (h3 i a q e1 e2)⟩
theorem wide_strs : ∀ zs : List Str, wideAll (zs.map PyData.str) = 0
  | [] => rfl
  | z :: r => by
    show max 0 (wideAll (r.map PyData.str)) = 0
    rw [wide_strs r]
    rfl
theorem wide_rows {zs : List Str} : ∀ {L : SL}, (∀ p ∈ L, OkP zs p) → wideAll (L.map dRow) ≤ 2
  | [], _ => Nat.zero_le _
  | p :: r, h => by
    have ih := wide_rows (L := r) fun q hq => h q (List.mem_cons_of_mem _ hq)
    obtain ⟨x, y, e, _⟩ := h p List.mem_cons_self
    show max (max (p.2.map PyData.str).length (wideAll (p.2.map PyData.str))) (wideAll (r.map dRow)) ≤ 2
    rw [wide_strs, List.length_map, e]
    have : [x, y].length = 2 := rfl
    omega
/-- two lists of texts -/
abbrev dLL (xs ys : List Str) : PyData := .list [.list (xs.map PyData.str), .list (ys.map PyData.str)]
theorem ll_lay {xs ys : List Str} (hx : ∀ z ∈ xs, Nm z) (hy : ∀ z ∈ ys, Nm z) : (dLL xs ys).canLay0 = true := by
  show (PyData.canLayAll0 (xs.map PyData.str) && (PyData.canLayAll0 (ys.map PyData.str) && true)) = true
  rw [canLay_strs hx, canLay_strs hy]
  rfl
theorem ll_depth (xs ys : List Str) : (dLL xs ys).depth = 2 := by
  show max (PyData.depthAll (xs.map PyData.str) + 1) (max (PyData.depthAll (ys.map PyData.str) + 1) 0) + 1 = 2
  rw [depth_strs, depth_strs]
  rfl
theorem ll_wide {xs ys : List Str} (hx : xs.length ≤ 1000) (hy : ys.length ≤ 1000) : wide (dLL xs ys) ≤ 100000 := by
  show max 2 (max (max (xs.map PyData.str).length (wideAll (xs.map PyData.str))) (max (max (ys.map PyData.str).length (wideAll (ys.map PyData.str))) 0)) ≤ 100000
  rw [wide_strs, wide_strs, List.length_map, List.length_map]
  omega
theorem ties_depth (L : SL) : (dTies L).depth ≤ 2 := by
  show PyData.depthAll (L.map dRow) + 1 ≤ 2
  have := depth_rows L
  omega
theorem ties_wide {zs : List Str} {L : SL} (h : ∀ p ∈ L, OkP zs p) (hl : L.length ≤ 1000) : wide (dTies L) ≤ 100000 := by
  show max (L.map dRow).length (wideAll (L.map dRow)) ≤ 100000
  have := wide_rows h
  rw [List.length_map]
  omega
/-! who is picked -/
theorem snd_nm {zs : List Str} {L : SL} (h : ∀ p ∈ L, OkP zs p) (hn : ∀ z ∈ zs, Nm z) {b : Str} : ∀ z ∈ srt (sndOf b (L.map prOf)), Nm z := by
  intro z hz
  have h1 : z ∈ sndOf b (L.map prOf) := (srt_perm _).mem_iff.mp hz
  unfold sndOf at h1
  obtain ⟨q, hq, rfl⟩ := List.mem_map.mp h1
  obtain ⟨p, hp, rfl⟩ := List.mem_map.mp (List.mem_filter.mp hq).1
  obtain ⟨x, y, e, hx, hy, _⟩ := h p hp
  unfold prOf
  rw [e]
  exact hn _ hy
theorem fst_nm {zs : List Str} {L : SL} (h : ∀ p ∈ L, OkP zs p) (hn : ∀ z ∈ zs, Nm z) {b : Str} : ∀ z ∈ srt (fstOf b (L.map prOf)), Nm z := by
  intro z hz
  have h1 : z ∈ fstOf b (L.map prOf) := (srt_perm _).mem_iff.mp hz
  unfold fstOf at h1
  obtain ⟨q, hq, rfl⟩ := List.mem_map.mp h1
  obtain ⟨p, hp, rfl⟩ := List.mem_map.mp (List.mem_filter.mp hq).1
  obtain ⟨x, y, e, hx, hy, _⟩ := h p hp
  unfold prOf
  rw [e]
  exact hn _ hx
end HF
/-! goings: rules for tuples, what goings are, as functions of lists of texts -/
namespace HF
open PySem PySem.Spec PyProof.Rows L2
section
variable {X : Cx}
/-- a tuple written out, its object known -/
def tTupF (t : TA) : TE := fun σ H Q => t σ H fun xs H1 => xs.length ≤ sizeLine ∧ ∀ l ob, H1 l = none → ob.cls = .type "tuple" → ob.dict = none → Q (.ref l) (upd H1 l (.frz ob (.tup xs)))
theorem pe_tupF {es : List Expr} {x1 : Nat} {pos : Pos} {t : TA} (h : PA X es t) : PE X (.Tuple es x1 pos) (tTupF t) := by
  refine ⟨fun pins s σ H Q I hq => wpAny_Tuple_spliced (thn (h.run pos pins s σ H _ I hq) ?_)⟩
  rintro us s1 ⟨xs, H1, J, rel, z, q⟩
  refine ⟨by rw [← rel.length]; exact z, ?_⟩
  exact ⟨.ref s1.heap.objs.size, _, J.laid (t' := s1.toks) (o := .frz { cls := .type "tuple", data := .seq us.toArray } (.tup xs)) (fun b u e => Heap.get?_push_of_some _ e) (Nat.le_refl _) ⟨Heap.get?_push_size _ rfl, z, us, rel, ⟨_, Heap.get?_push_size _ rfl, rfl, _, rfl⟩⟩, rfl, q _ _ (J.hok.fresh (Nat.le_refl _)) rfl rfl⟩
/-- t + u, t not bare -/
def rCatF (K : PySem.W.Frag) : R2 := fun x y H Q => ∃ a b xs ys, x = .ref a ∧ y = .ref b ∧ SqT K H a xs ∧ SqT K H b ys ∧ xs ≠ [] ∧ xs.length + ys.length ≤ sizeLine ∧
  (ys = [] → Q (.ref a) H) ∧ (ys ≠ [] → ∀ l ob, H l = none → ob.cls = .type "tuple" → ob.dict = none → Q (.ref l) (upd H l (.frz ob (.tup (xs ++ ys)))))
theorem op_catF : OpR X (binaryOp .Add) (rCatF X.K) := by
  intro pins s σ H x y v u Q I rx ry hyp
  obtain ⟨a, b, xs, ys, rfl, rfl, ha, hb, hx, hz, q1, q2⟩ := hyp
  cases rx
  cases ry
  obtain ⟨its, r1, p1, _⟩ := I.tuple ha
  obtain ⟨its2, r2, p2, _⟩ := I.tuple hb
  refine HT.cat_tup p1 p2 (fun z => hx (r1.nil_iff.mp z)) (fun z => ⟨.ref a, H, I, rfl, q1 (r2.nil_iff.mp z)⟩) (fun z => ?_) (by rw [← r1.length, ← r2.length]; exact hz)
  exact ⟨.ref s.heap.objs.size, _, I.laid (t' := s.toks) (o := .frz { cls := .type "tuple", data := .seq (its ++ its2).toArray } (.tup (xs ++ ys))) (fun b ob q => Heap.get?_push_of_some _ q) (Nat.le_refl _) ⟨Heap.get?_push_size _ rfl, by rw [List.length_append]; exact hz, _, r1.append r2, IsTup.new _ _⟩, rfl, q2 (fun w => z (r2.nil_iff.mpr w)) _ _ (I.hok.fresh (Nat.le_refl _)) rfl rfl⟩
end
/-! ### places -/
theorem pos_le (x : Str) : ∀ zs : List Str, pos x zs ≤ zs.length
  | [] => Nat.le_refl _
  | z :: r => by
    unfold pos
    have := pos_le x r
    by_cases e : z = x
    · rw [if_pos e]; exact Nat.zero_le _
    · rw [if_neg e, List.length_cons]; omega
theorem pos_lt {x : Str} : ∀ {zs : List Str}, x ∈ zs → pos x zs < zs.length
  | z :: r, h => by
    unfold pos
    by_cases e : z = x
    · rw [if_pos e, List.length_cons]; omega
    · rw [if_neg e, List.length_cons]
      have := pos_lt ((List.mem_cons.mp h).resolve_left fun q => e q.symm)
      omega
theorem pos_out {x : Str} : ∀ {zs : List Str}, x ∉ zs → pos x zs = zs.length
  | [], _ => rfl
  | z :: r, h => by
    unfold pos
    rw [if_neg (fun (e : z = x) => h (e ▸ List.mem_cons_self)), pos_out fun q => h (List.mem_cons_of_mem _ q), List.length_cons]
theorem mem_take_pos {x : Str} : ∀ {zs : List Str} {n : Nat}, n ≤ zs.length → (x ∈ zs.take n ↔ pos x zs < n)
  | zs, 0, _ => by simp
  | [], n + 1, h => by simp at h
  | z :: r, n + 1, h => by
    rw [List.take_succ_cons, List.mem_cons]
    unfold pos
    by_cases e : z = x
    · rw [if_pos e]
      exact ⟨fun _ => Nat.zero_lt_succ _, fun _ => .inl e.symm⟩
    · rw [if_neg e]
      have := mem_take_pos (x := x) (zs := r) (n := n) (by rw [List.length_cons] at h; omega)
      constructor
      · rintro (q | q)
        · exact absurd q.symm e
        · have := this.mp q
          omega
      · intro q
        exact .inr (this.mpr (by omega))
/-! ### goings -/
def onTop (b : Str) (zs : List Str) : List Str := b :: zs.filter fun z => decide (z ≠ b)
def lets (qs : List (Str × Str)) (zs : List Str) (b : Str) : Bool := (sndOf b qs).all fun f => decide ((pos f zs : Int) < (pos b zs : Int))
def lefts (zs : List Str) (row : List Str) : List Str := row.foldl (fun z b => onTop b z) zs
def refAt (qs : List (Str × Str)) : List Str → List Str → Option Nat
  | _, [] => none
  | zs, b :: r => if lets qs zs b = true then (refAt qs (onTop b zs) r).map (· + 1) else some 0
theorem onTop_perm {b : Str} : ∀ {zs : List Str}, zs.Nodup → b ∈ zs → (onTop b zs).Perm zs
  | z :: r, nd, h => by
    obtain ⟨n1, n2⟩ := List.nodup_cons.mp nd
    unfold onTop
    by_cases e : z = b
    · subst e
      rw [List.filter_cons_of_neg (by simp)]
      have : r.filter (fun x => decide (x ≠ z)) = r := List.filter_eq_self.mpr fun x hx => decide_eq_true fun q => n1 (q ▸ hx)
      rw [this]
    · rw [List.filter_cons_of_pos (by simp [e])]
      have ih := onTop_perm n2 ((List.mem_cons.mp h).resolve_left fun q => e q.symm)
      exact (List.Perm.swap z b _).trans (ih.cons z)
theorem onTop_len {b : Str} {zs : List Str} (nd : zs.Nodup) (h : b ∈ zs) : (onTop b zs).length = zs.length := (onTop_perm nd h).length_eq
theorem lefts_perm : ∀ {row zs : List Str}, zs.Nodup → (∀ b ∈ row, b ∈ zs) → (lefts zs row).Perm zs
  | [], zs, _, _ => .refl _
  | b :: r, zs, nd, h => by
    have hp := onTop_perm nd (h b List.mem_cons_self)
    exact (lefts_perm (row := r) (hp.nodup_iff.mpr nd) fun x hx => hp.mem_iff.mpr (h x (List.mem_cons_of_mem _ hx))).trans hp
theorem lefts_app (zs a b : List Str) : lefts zs (a ++ b) = lefts (lefts zs a) b := List.foldl_append ..
theorem refAt_app (qs : List (Str × Str)) : ∀ (a zs b : List Str), refAt qs zs (a ++ b) = match refAt qs zs a with
    | some i => some i
    | none => (refAt qs (lefts zs a) b).map (· + a.length)
  | [], zs, b => by
    show refAt qs zs b = (refAt qs zs b).map (· + 0)
    simp
  | x :: a, zs, b => by
    show (if lets qs zs x = true then (refAt qs (onTop x zs) (a ++ b)).map (· + 1) else some 0) = _
    rw [refAt_app qs a (onTop x zs) b]
    show _ = match (if lets qs zs x = true then (refAt qs (onTop x zs) a).map (· + 1) else some 0) with
      | some i => some i
      | none => (refAt qs (lefts (onTop x zs) a) b).map (· + (a.length + 1))
    by_cases e : lets qs zs x = true
    · rw [if_pos e, if_pos e]
      cases refAt qs (onTop x zs) a with
      | some i => rfl
      | none =>
        show Option.map (· + 1) (Option.map (· + a.length) _) = _
        rw [Option.map_map]
        rfl
    · rw [if_neg e, if_neg e]
/-- the lowest may always go -/
theorem low_lets {qs : List (Str × Str)} {zs : List Str} (nd : zs.Nodup) (hq : ∀ q ∈ qs, q.2 ∈ zs ∧ q.1 ≠ q.2) (ne : zs ≠ []) : ∃ b ∈ zs, lets qs zs b = true := by
  refine ⟨zs.getLast ne, List.getLast_mem ne, ?_⟩
  have hl : zs[zs.length - 1]? = some (zs.getLast ne) := by
    rw [← List.getLast?_eq_getElem?]
    exact List.getLast?_eq_some_getLast ne
  have hp := pos_at nd hl
  unfold lets
  rw [List.all_eq_true]
  intro f hf
  unfold sndOf at hf
  obtain ⟨q, hq1, rfl⟩ := List.mem_map.mp hf
  obtain ⟨h1, h2⟩ := List.mem_filter.mp hq1
  have e1 : q.1 = zs.getLast ne := of_decide_eq_true h2
  have hne : pos q.2 zs ≠ pos (zs.getLast ne) zs := fun e => (hq q h1).2 (e1.trans (pos_inj (hq q h1).1 (List.getLast_mem ne) e).symm)
  have := pos_lt (hq q h1).1
  exact decide_eq_true (by omega)
/-! ### by last goings -/
def ded : List Str → List Str
  | [] => []
  | y :: r => y :: (ded r).filter fun x => decide (x ≠ y)
def dedG (acc ys : List Str) : List Str := ys.foldl (fun a y => if y ∈ a then a else a ++ [y]) acc
theorem dedG_eq : ∀ (ys acc : List Str), dedG acc ys = acc ++ (ded ys).filter fun x => decide (x ∉ acc)
  | [], acc => by simp [dedG, ded]
  | y :: r, acc => by
    show dedG (if y ∈ acc then acc else acc ++ [y]) r = _
    rw [dedG_eq r, show ded (y :: r) = y :: (ded r).filter (fun x => decide (x ≠ y)) from rfl]
    by_cases e : y ∈ acc
    · rw [if_pos e, List.filter_cons_of_neg (by simp [e]), List.filter_filter]
      congr 1
      refine List.filter_congr fun x _ => ?_
      by_cases h : x ∈ acc
      · simp [h]
      · have : x ≠ y := fun q => h (q ▸ e)
        simp [h, this]
    · rw [if_neg e, List.filter_cons_of_pos (by simp [e]), List.filter_filter, List.append_assoc]
      congr 1
      rw [List.singleton_append]
      congr 1
      refine List.filter_congr fun x _ => ?_
      by_cases h : x ∈ acc
      · simp [h]
      · by_cases h2 : x = y
        · simp [h2]
        · simp [h, h2]
theorem dedG_nil (ys : List Str) : dedG [] ys = ded ys := by
  rw [dedG_eq, List.nil_append]
  exact List.filter_eq_self.mpr fun x _ => by simp
theorem ded_mem {x : Str} : ∀ {ys : List Str}, x ∈ ded ys ↔ x ∈ ys
  | [] => Iff.rfl
  | y :: r => by
    show x ∈ y :: (ded r).filter (fun x => decide (x ≠ y)) ↔ _
    rw [List.mem_cons, List.mem_cons, List.mem_filter, ded_mem (ys := r)]
    by_cases e : x = y
    · simp [e]
    · simp [e]
def byLast (zs steps : List Str) : List Str := ded steps.reverse ++ zs.filter fun z => decide (z ∉ ded steps.reverse)
theorem byLast_eq {zs : List Str} : ∀ (n : Nat) (steps : List Str), steps.length = n → lefts zs steps = byLast zs steps
  | 0, steps, h => by
    have : steps = [] := List.length_eq_zero_iff.mp h
    subst this
    show zs = [] ++ zs.filter _
    rw [List.nil_append]
    exact (List.filter_eq_self.mpr fun x _ => by simp [ded]).symm
  | n + 1, steps, h => by
    obtain ⟨s, b, rfl⟩ : ∃ s b, steps = s ++ [b] := by
      have hne : steps ≠ [] := fun e => by rw [e] at h; simp at h
      exact ⟨steps.dropLast, steps.getLast hne, (List.dropLast_concat_getLast hne).symm⟩
    rw [List.length_append] at h
    have ih := byLast_eq (zs := zs) n s (by simpa using h)
    rw [lefts_app, ih]
    show onTop b (byLast zs s) = _
    unfold onTop byLast
    rw [List.reverse_append]
    show b :: List.filter _ (ded s.reverse ++ _) = (b :: (ded s.reverse).filter _) ++ _
    rw [List.filter_append, List.cons_append, List.filter_filter]
    congr 2
    refine List.filter_congr fun x _ => ?_
    show _ = decide (x ∉ b :: (ded s.reverse).filter _)
    by_cases e1 : x = b
    · simp [e1]
    · by_cases e2 : x ∈ ded s.reverse
      · simp [e1, e2]
      · simp [e1, e2]
theorem lefts_last (zs steps : List Str) : lefts zs steps = byLast zs steps := byLast_eq _ steps rfl
theorem last_again (zs steps : List Str) : lefts (byLast zs steps) steps = byLast zs steps := by
  rw [lefts_last]
  show ded steps.reverse ++ (ded steps.reverse ++ zs.filter fun z => decide (z ∉ ded steps.reverse)).filter _ = ded steps.reverse ++ _
  congr 1
  rw [List.filter_append, List.filter_filter]
  have : (ded steps.reverse).filter (fun z => decide (z ∉ ded steps.reverse)) = [] := List.filter_eq_nil_iff.mpr fun x hx => by simp [hx]
  rw [this, List.nil_append]
  refine List.filter_congr fun x _ => ?_
  simp
theorem ded_rise : ∀ R : List Str, (ded R).Pairwise fun x y => pos x R < pos y R
  | [] => .nil
  | y :: r => by
    refine List.Pairwise.cons (fun x hx => ?_) ?_
    · have hx2 : x ≠ y := of_decide_eq_true (List.mem_filter.mp hx).2
      unfold pos
      rw [if_pos rfl, if_neg hx2.symm]
      exact Nat.zero_lt_succ _
    · refine ((ded_rise r).filter _).imp_of_mem fun {u v} hu hv h => ?_
      have h1 : u ≠ y := of_decide_eq_true (List.mem_filter.mp hu).2
      have h2 : v ≠ y := of_decide_eq_true (List.mem_filter.mp hv).2
      unfold pos
      rw [if_neg h1.symm, if_neg h2.symm]
      exact Nat.succ_lt_succ h
theorem nodup_rise {zs : List Str} (nd : zs.Nodup) : zs.Pairwise fun x y => pos x zs < pos y zs := by
  rw [List.pairwise_iff_getElem]
  intro i j hi hj hij
  rw [pos_at nd (List.getElem?_eq_getElem hi), pos_at nd (List.getElem?_eq_getElem hj)]
  exact hij
/-- of each two the upper one went later, or neither went and it lay above -/
def Later (zs steps : List Str) (x y : Str) : Prop := pos x steps.reverse < pos y steps.reverse ∨ (pos x steps.reverse = steps.length ∧ pos y steps.reverse = steps.length ∧ pos x zs < pos y zs)
theorem last_rise {zs : List Str} (nd : zs.Nodup) (steps : List Str) : (byLast zs steps).Pairwise (Later zs steps) := by
  unfold byLast
  rw [List.pairwise_append]
  refine ⟨(ded_rise _).imp fun h => .inl h, ((nodup_rise nd).filter _).imp_of_mem fun {u v} hu hv h => .inr ⟨?_, ?_, h⟩, fun u hu v hv => .inl ?_⟩
  · have h1 : u ∉ ded steps.reverse := of_decide_eq_true (List.mem_filter.mp hu).2
    rw [pos_out fun q => h1 (ded_mem.mpr q), List.length_reverse]
  · have h1 : v ∉ ded steps.reverse := of_decide_eq_true (List.mem_filter.mp hv).2
    rw [pos_out fun q => h1 (ded_mem.mpr q), List.length_reverse]
  · have h1 : v ∉ ded steps.reverse := of_decide_eq_true (List.mem_filter.mp hv).2
    rw [pos_out (x := v) fun q => h1 (ded_mem.mpr q)]
    exact pos_lt (ded_mem.mp hu)
theorem pw_next {α : Type} {R : α → α → Prop} : ∀ {l : List α} {i : Nat} {x y : α}, l.Pairwise R → l[i]? = some x → l[i + 1]? = some y → R x y
  | a :: b :: r, 0, x, y, h, h1, h2 => by
    cases (show some a = some x from h1)
    cases (show some b = some y from h2)
    exact (List.pairwise_cons.mp h).1 _ List.mem_cons_self
  | a :: r, i + 1, x, y, h, h1, h2 => pw_next (List.pairwise_cons.mp h).2 (show r[i]? = some x from h1) (show r[i + 1]? = some y from h2)
end HF
/-! promises of the functions about goings -/
namespace HF
open PySem PySem.Spec PyProof.Rows L2
variable (K : PySem.W.Frag)
def spPk : Sp := fun vs H Q _ => ∃ (p a : Addr) (c : Int) (xs : List V), vs = [.ref p, .ref a] ∧ Bx H p c ∧ c < 2 ^ 39 ∧ SqL K H a xs ∧ a ≠ p ∧ 0 < xs.length ∧ xs.length ≤ 1000 ∧
  ∀ (i : Nat) (v : V) (c' : Int) (o : HO), xs[i]? = some v → c ≤ c' → c' ≤ c + 1 → Bx (upd H p o) p c' → Q v (upd H p o)
def spPickU (g : Str → List (Str × Str) → List Str) : Sp := fun vs H Q _ => ∃ (r : Addr) (b : Str) (qs : List (Str × Str)), vs = [.ref r, .str b] ∧ PqT K H r qs ∧ qs.length ≤ 400 ∧
  ∀ (H' : Hp) (l : Addr), Same H H' → H l = none → H' l = some (.lst ((g b qs).map V.str)) → Q (.ref l) H'
def spLet : Sp := fun vs H Q _ => ∃ (h r : Addr) (b : Str) (zs : List Str) (qs : List (Str × Str)), vs = [.ref h, .ref r, .str b] ∧ Hq K H h zs ∧ PqT K H r qs ∧ b ∈ zs ∧ (∀ q ∈ qs, q.2 ∈ zs) ∧ qs.length ≤ 400 ∧
  ∀ H' : Hp, Same H H' → Q (.bl (lets qs zs b)) H'
def spTop : Sp := fun vs H Q _ => ∃ (h : Addr) (b : Str) (zs : List Str), vs = [.ref h, .str b] ∧ Hq K H h zs ∧ zs.length ≤ 1000 ∧
  ∀ (H' : Hp) (t : Addr), Same H H' → H t = none → Tp H' t ((onTop b zs).map V.str) → Q (.ref t) H'
def spMay : Sp := fun vs H Q _ => ∃ (h r : Addr) (zs : List Str) (qs : List (Str × Str)), vs = [.ref h, .ref r] ∧ Hq K H h zs ∧ PqT K H r qs ∧ (∀ q ∈ qs, q.2 ∈ zs) ∧ zs.length ≤ 1000 ∧ qs.length ≤ 400 ∧
  ∀ (H' : Hp) (l : Addr), Same H H' → H l = none → H' l = some (.lst (((srt zs).filter (lets qs zs)).map V.str)) → Q (.ref l) H'
def spRun : Sp := fun vs H Q _ => ∃ (p h r : Addr) (n : Nat) (c : Int) (zs : List Str) (L : SL), vs = [.ref p, .ref h, .ref r, .int n] ∧ Bx H p c ∧ c < 2 ^ 38 ∧ n ≤ 1000 ∧ Tp H h (zs.map V.str) ∧ zs.Nodup ∧ zs ≠ [] ∧ zs.length ≤ 12 ∧ Ties zs H r L ∧
  ∀ (H' : Hp) (t l s : Addr) (steps : List Str) (c' : Int), Oth p H H' → H t = none → H l = none → H' t = some (.tup [.ref l, .ref s]) → H' l = some (.lst (steps.map V.str)) → Tp H' s ((lefts zs steps).map V.str) → steps.length = n → (∀ b ∈ steps, b ∈ zs) → refAt (L.map prOf) zs steps = none → Bx H' p c' → c ≤ c' → c' ≤ c + n → Q (.ref t) H'
/-- the program's -/
def spAbv : Sp := fun vs H Q _ => ∃ (h a : Addr) (b : Str) (zs fs : List Str), vs = [.ref h, .ref a, .str b] ∧ Hq K H h zs ∧ SqL K H a (fs.map V.str) ∧ b ∈ zs ∧ fs.length ≤ 400 ∧
  ∀ H' : Hp, Same H H' → Q (.bl (fs.all fun f => decide ((pos f zs : Int) < (pos b zs : Int)))) H'
def PqA (H : Hp) (r : Addr) (qs : List (Str × Str)) : Prop := PqT K H r qs ∨ PqL K H r qs
def spLaid : Sp := fun vs H Q _ => ∃ (h r : Addr) (b : Str) (zs : List Str) (qs : List (Str × Str)), vs = [.ref h, .ref r, .str b] ∧ Hq K H h zs ∧ PqA K H r qs ∧ b ∈ zs ∧ lets qs zs b = true ∧ zs.length ≤ 1000 ∧ qs.length ≤ 400 ∧
  ∀ (H' : Hp) (t : Addr), Same H H' → H t = none → Tp H' t ((onTop b zs).map V.str) → Q (.ref t) H'
def spDone : Sp := fun vs H Q _ => ∃ (h r a : Addr) (zs row : List Str) (qs : List (Str × Str)), vs = [.ref h, .ref r, .ref a] ∧ Hq K H h zs ∧ PqA K H r qs ∧ SqL K H a (row.map V.str) ∧ zs.Nodup ∧ (∀ b ∈ row, b ∈ zs) ∧ refAt qs zs row = none ∧ zs.length ≤ 1000 ∧ qs.length ≤ 400 ∧
  ∀ (H' : Hp) (t : Addr), Same H H' → Tp H' t ((lefts zs row).map V.str) → Q (.ref t) H'
def optV : Option Nat → V
  | none => .non
  | some i => .int (i : Nat)
def spFr : Sp := fun vs H Q _ => ∃ (h r a : Addr) (zs row : List Str) (qs : List (Str × Str)), vs = [.ref h, .ref r, .ref a] ∧ Hq K H h zs ∧ PqA K H r qs ∧ SqL K H a (row.map V.str) ∧ zs.Nodup ∧ (∀ b ∈ row, b ∈ zs) ∧ zs.length ≤ 1000 ∧ qs.length ≤ 400 ∧
  ∀ H' : Hp, Same H H' → Q (optV (refAt qs zs row)) H'
def spLeft : Sp := fun vs H Q _ => ∃ (h a : Addr) (zs row : List Str), vs = [.ref h, .ref a] ∧ Hq K H h zs ∧ SqL K H a (row.map V.str) ∧ zs.Nodup ∧ (∀ b ∈ row, b ∈ zs) ∧ zs.length ≤ 1000 ∧
  ∀ (H' : Hp) (t : Addr), Same H H' → Tp H' t ((lefts zs row).map V.str) → Q (.ref t) H'
def spByLast : Sp := fun vs H Q _ => ∃ (h a : Addr) (zs steps : List Str), vs = [.ref h, .ref a] ∧ Tp H h (zs.map V.str) ∧ SqL K H a (steps.map V.str) ∧ zs.length ≤ 1000 ∧ steps.length ≤ 1000 ∧
  ∀ (H' : Hp) (t : Addr), Same H H' → H t = none → Tp H' t ((byLast zs steps).map V.str) → Q (.ref t) H'
def spLast : Sp := fun vs H Q _ => ∃ (a : Addr) (b : Str) (steps : List Str), vs = [.ref a, .str b] ∧ SqL K H a (steps.map V.str) ∧ steps.length ≤ 1000 ∧
  ∀ H' : Hp, Same H H' → Q (.int (pos b steps.reverse : Nat)) H'
variable {K}
theorem PqA.same {H H' : Hp} {r : Addr} {qs : List (Str × Str)} (h : PqA K H r qs) (sm : Same H H') : PqA K H' r qs := h.imp (fun z => z.same sm) fun z => z.same sm
theorem strs_flat : ∀ zs : List Str, (zs.map V.str).all flatV = true
  | [] => rfl
  | z :: r => strs_flat r
theorem lets_srt (qs : List (Str × Str)) (zs : List Str) (b : Str) : (srt (sndOf b qs)).all (fun f => decide ((pos f zs : Int) < (pos b zs : Int))) = lets qs zs b := by
  unfold lets
  rw [Bool.eq_iff_iff, List.all_eq_true, List.all_eq_true]
  exact ⟨fun h f hf => h f ((srt_perm _).mem_iff.mpr hf), fun h f hf => h f ((srt_perm _).mem_iff.mp hf)⟩
theorem refAt_none {qs : List (Str × Str)} {zs : List Str} {b : Str} {r : List Str} (h : refAt qs zs (b :: r) = none) : lets qs zs b = true ∧ refAt qs (onTop b zs) r = none := by
  unfold refAt at h
  by_cases e : lets qs zs b = true
  · rw [if_pos e] at h
    exact ⟨e, Option.map_eq_none_iff.mp h⟩
  · rw [if_neg e] at h
    exact nomatch h
theorem refAt_at {qs : List (Str × Str)} {b : Str} : ∀ {row zs : List Str} {i : Nat}, row[i]? = some b → refAt qs zs row = none → lets qs (lefts zs (row.take i)) b = true
  | x :: r, zs, 0, h, hn => by
    cases (show some x = some b from h)
    exact (refAt_none hn).1
  | x :: r, zs, i + 1, h, hn => refAt_at (row := r) (zs := onTop x zs) (show r[i]? = some b from h) (refAt_none hn).2
theorem lefts_snoc {zs : List Str} {b : Str} {row : List Str} {i : Nat} (h : row[i]? = some b) : lefts zs (row.take (i + 1)) = onTop b (lefts zs (row.take i)) := by
  rw [List.take_add_one, h, lefts_app]
  rfl
theorem refAt_step {qs : List (Str × Str)} {zs : List Str} {b : Str} {row : List Str} {i : Nat} (h : row[i]? = some b) (hn : refAt qs zs (row.take i) = none) (hl : lets qs (lefts zs (row.take i)) b = true) : refAt qs zs (row.take (i + 1)) = none := by
  rw [List.take_add_one, h, refAt_app, hn]
  show Option.map _ (refAt qs (lefts zs (row.take i)) [b]) = none
  rw [show refAt qs (lefts zs (row.take i)) [b] = none by
    unfold refAt
    rw [if_pos hl]
    rfl]
  rfl
theorem refAt_stop {qs : List (Str × Str)} {zs : List Str} {b : Str} {row : List Str} {i : Nat} (h : row[i]? = some b) (hn : refAt qs zs (row.take i) = none) (hl : ¬ lets qs (lefts zs (row.take i)) b = true) : refAt qs zs row = some i := by
  have e : row = row.take i ++ b :: row.drop (i + 1) := by
    have hlt := (List.getElem?_eq_some_iff.mp h).1
    have hb := (List.getElem?_eq_some_iff.mp h).2
    rw [← hb, List.getElem_cons_drop, List.take_append_drop]
  rw [e, refAt_app, hn]
  show Option.map _ (refAt qs (lefts zs (row.take i)) (b :: row.drop (i + 1))) = some i
  unfold refAt
  rw [if_neg hl]
  show some (0 + (row.take i).length) = some i
  rw [List.length_take]
  have := (List.getElem?_eq_some_iff.mp h).1
  congr 1
  omega
end HF
namespace HF
open PySem PySem.Spec PyProof.Rows L2
/-- name = {..: ..} on one line -/
theorem sw_dict {kx vx : Expr} {gs : List Comprehension} {sc2 : Scope} {pos py : Pos} {y : Str} {n : Nat} {ev : Env} (h1 : ev.scope.kind = .function) (h2 : ev.scope.names.lookup y = some .local) (h3 : (py.line == pos.line) = true)
    (h4 : (sc2.names.any fun (m, k) => m == y && (k == .local || k == .cell)) = false) : swapsWith (.DictComp kx vx gs sc2 pos) (some (.Name y py)) n ev = pure true := by
  have k1 : ev.kindOf y = some .local := h2
  have k2 : ev.blockKind = .function := by
    unfold Env.blockKind
    rw [h1]
    rfl
  unfold swapsWith
  simp only [k2, k1, h4, Expr.pos, h3]
  rfl
theorem ps_setDc {X : Cx} {i : Nat} {y : Str} {py : Pos} {kx vx tg over : Expr} {cs : List Expr} {sc2 : Scope} {own : List (Str × Nat)} {pos sp2 : Pos} {wi : TI} {g : TG} {tt : TT} {tk tv : TE} (calm : X.calm = true) (nd : X.N.Nodup) (hy : X.N[i]? = some y) (loc : X.env.scope.names.lookup y = some .local)
    (sw : swapsWith (.DictComp kx vx [⟨tg, over, cs, 0⟩] sc2 pos) (some (.Name y py)) sp2.line X.env = pure true) (hi : PI X tg over wi) (ok : BlkOk X.N X.env.scope sc2 own)
    (pg : ∀ (s : Shared) (H : Hp) (C : Addr) (cl : List (Str × Addr)) (fp : List Addr), PG (X.blk s H sc2 (compEnvC sc2 cl C X.env) fp) tg g) (pt : ∀ (s : Shared) (H : Hp) (C : Addr) (cl : List (Str × Addr)) (fp : List Addr), PTs (X.blk s H sc2 (compEnvC sc2 cl C X.env) fp) cs tt)
    (pk : ∀ (s : Shared) (H : Hp) (C : Addr) (cl : List (Str × Addr)) (fp : List Addr), PE (X.blk s H sc2 (compEnvC sc2 cl C X.env) fp) kx tk)
    (pv' : ∀ (s : Shared) (H : Hp) (C : Addr) (cl : List (Str × Addr)) (fp : List Addr), PE (X.blk s H sc2 (compEnvC sc2 cl C X.env) fp) vx tv) (fold : ∀ x, foldedSetIterable over X.env x = pure x := by intro _; rfl) :
    PS X (.Assign [.Name y py] (.DictComp kx vx [⟨tg, over, cs, 0⟩] sc2 pos) sp2) (tAsg (tDc wi g tt tk tv (own.map (·.2))) (gName i)) := by
  refine ⟨fun pins st σ H D I hyp => ?_⟩
  rw [exec_Assign_Name_used _ _ _ _ sw]
  refine wpAny_bind (wpAny_standAt (wpAny_bind ?_))
  show wpAny _ X.A (do let _ ← comprehension (.DictComp kx vx [⟨tg, over, cs, 0⟩] sc2 pos) sc2 X.env (firstIterPos [⟨tg, over, cs, 0⟩] pos) newDict false (eval over X.env) (some (assign (.Name y py) X.env))) _ _ st
  have hyp2 : tDc wi g tt tk tv (own.map (·.2)) σ H (fun x H1 => gName i x σ H1 D.nx) := hyp
  refine wpAny_bind (thn (dc_core (Qf := fun _ s' => SP X pins D .next s') calm nd I hi ok pg pt pk pv' fold hyp2 ?_) fun _ s' hq => wpAny_pure (wpAny_pure hq))
  intro L C s' m H' I' q ns fr
  show wpAny _ _ (assign (.Name y py) X.env (.ref L)) _ _ _
  refine wpAny_assign_Name (store_ok2 (v := V.ref L) I' nd hy (.inl loc) rfl (fun s2 J ⟨a, sb, ha⟩ => ?_) (.inr loc))
  obtain ⟨g0, g1, g2, g3, g4, g5⟩ := fr
  have hCa : C ≠ a := ha.elim (fun z => z ▸ g1) fun z e => g4 y a z e.symm
  exact ⟨m, ns.sameBut sb hCa, fun h3 sb3 => ⟨_, H', J.turned (t' := s2.toks) (fun b o hb e => (sb3.2 b hb).trans e) g0 g1 g3 g4 g5, q⟩⟩
/-- a dict comprehension over anything that is walked -/
theorem dc_it {J : It} {n : Nat} {G : Hp → Prop} {Y : Nat → Hp → V → Hp → Prop} (wk : Walk J n G Y) {g : TG} {tt : TT} {tk tv : TE} {is : List Nat} {σ : L2.St} {G1 : Hp} {D : Addr} {Qd : Hp → Prop} (Pv : Nat → Hp → Prop) (h0 : Pv 0 (upd G1 D (.dK []))) (hG : ∀ i H, i ≤ n → Pv i H → G H)
    (hs : ∀ i x H H', i < n → Pv i H → Y i H x H' → g x (wipe σ is) H' fun τ H2 => wipe τ is = wipe σ is ∧ tt τ H2 fun yes H3 =>
      if yes = true then tk τ H3 fun y H4 => tv τ H4 fun z H5 => ∃ es k, y = kV k ∧ H5 D = some (.dK es) ∧ es.length < sizeLine ∧ Pv (i + 1) (upd H5 D (.dK (putK es k z))) else Pv (i + 1) H3) (hd : ∀ H, Pv n H → Qd H) :
    ∃ W : Nat → Nat → Hp → Prop, (∃ m, W 0 m (upd G1 D (.dK []))) ∧ ∀ i m H, W i m H →
      (J.stop i H ∧ Qd H) ∨ (J.go i H ∧ ∃ Nx : Hp → Prop, (∀ H', Nx H' → ∃ m', m' < m ∧ W (i + 1) m' H') ∧ ∀ x H', J.yld i H x H' → g x (wipe σ is) H' fun τ H2 => wipe τ is = wipe σ is ∧ tt τ H2 fun yes H3 =>
        if yes = true then tk τ H3 fun y H4 => tv τ H4 fun z H5 => ∃ es k, y = kV k ∧ H5 D = some (.dK es) ∧ es.length < sizeLine ∧ Nx (upd H5 D (.dK (putK es k z))) else Nx H3) := by
  refine ⟨fun i m H => m = n - i ∧ i ≤ n ∧ Pv i H, ⟨n, (Nat.sub_zero n).symm, Nat.zero_le _, h0⟩, ?_⟩
  intro i m H hW
  obtain ⟨rfl, hi, p⟩ := hW
  have gd := hG i H hi p
  rcases Nat.lt_or_ge i n with hlt | hge
  · refine .inr ⟨wk.goes i H hlt gd, Pv (i + 1), ?_, ?_⟩
    · intro H' p'
      exact ⟨n - (i + 1), by omega, rfl, hlt, p'⟩
    · intro x H' y
      exact hs i x H H' hlt p (wk.yields i H x H' hlt gd y)
  · obtain rfl : i = n := Nat.le_antisymm hi hge
    exact .inl ⟨wk.stops H gd, hd H p⟩
theorem u1 {n : Nat} (h : n + 64 < cLine) : n + 1 < cLine := by omega
theorem keys_at {g : Str → V} : ∀ {xs : List Str} {b : Str}, b ∈ xs → valV (xs.map fun x => ((Sum.inr x : Key), g x)) (Sum.inr b) = some (g b)
  | x :: r, b, h => by
    by_cases e : x = b
    · subst e
      exact valV_pos rfl
    · rw [List.map_cons, valV_neg (fun z => e (Sum.inr.inj z))]
      exact keys_at ((List.mem_cons.mp h).resolve_left fun z => e z.symm)
theorem keys_out {g : Str → V} : ∀ {xs : List Str} {b : Str}, b ∉ xs → valV (xs.map fun x => ((Sum.inr x : Key), g x)) (Sum.inr b) = none
  | [], b, _ => rfl
  | x :: r, b, h => by
    have hne : ¬ ((Sum.inr x : Key) = Sum.inr b) := fun z => h (Sum.inr.inj z ▸ List.mem_cons_self)
    rw [List.map_cons, valV_neg hne]
    exact keys_out fun z => h (List.mem_cons_of_mem _ z)
/-- a dict of lists of texts by texts -/
def DSL (H : Hp) (D : Addr) (xs : List Str) (val : Str → List Str) : Prop := ∃ af : Str → Addr, H D = some (.dK (xs.map fun x => ((Sum.inr x : Key), V.ref (af x)))) ∧ ∀ x ∈ xs, H (af x) = some (.lst ((val x).map V.str))
theorem DSL.same {H H' : Hp} {D : Addr} {xs : List Str} {val : Str → List Str} (h : DSL H D xs val) (sm : Same H H') : DSL H' D xs val := by
  obtain ⟨af, h1, h2⟩ := h
  exact ⟨af, sm _ _ h1, fun x hx => sm _ _ (h2 x hx)⟩
theorem DSL.put {H : Hp} {D l : Addr} {xs : List Str} {val : Str → List Str} {b : Str} (h : DSL H D xs val) (hl : H l = some (.lst ((val b).map V.str))) (nb : b ∉ xs) : ∃ kvs, H D = some (.dK kvs) ∧ kvs.length = xs.length ∧ DSL (upd H D (.dK (putK kvs (Sum.inr b) (.ref l)))) D (xs ++ [b]) val := by
  obtain ⟨af, h1, h2⟩ := h
  refine ⟨_, h1, List.length_map .., fun y => if y = b then l else af y, ?_, fun x hx => ?_⟩
  · rw [upd_same, putK_new _ (keys_out nb), List.map_append]
    congr 3
    · refine List.map_congr_left fun x hx => ?_
      show _ = ((Sum.inr x : Key), V.ref (if x = b then l else af x))
      rw [if_neg fun (e : x = b) => nb (e ▸ hx)]
    · show [(Sum.inr b, V.ref l)] = [(Sum.inr b, V.ref (if b = b then l else af b))]
      rw [if_pos rfl]
  · have hne : ∀ {q : Addr} {ys : List V}, H q = some (.lst ys) → q ≠ D := fun hq e => by
      rw [e, h1] at hq
      exact nomatch hq
    by_cases e : x = b
    · show (upd H D _) (if x = b then l else af x) = _
      rw [if_pos e, upd_ne (hne hl), e]
      exact hl
    · have hx' : x ∈ xs := by
        rcases List.mem_append.mp hx with q | q
        · exact q
        · exact absurd (List.mem_singleton.mp q) e
      show (upd H D _) (if x = b then l else af x) = _
      rw [if_neg e, upd_ne (hne (h2 x hx'))]
      exact h2 x hx'
theorem DSL.get {H : Hp} {D : Addr} {xs : List Str} {val : Str → List Str} {b : Str} (h : DSL H D xs val) (hb : b ∈ xs) : ∃ l, DGet H D (.str b) (some (.ref l)) ∧ H l = some (.lst ((val b).map V.str)) := by
  obtain ⟨af, h1, h2⟩ := h
  refine ⟨af b, ?_, h2 b hb⟩
  have e := DGet.k (k := (Sum.inr b : Key)) h1
  rw [keys_at hb] at e
  exact e
theorem Ties.closed {zs : List Str} {H : Hp} {r : Addr} {L : SL} (h : Ties zs H r L) : ∀ q ∈ L.map prOf, q.2 ∈ zs ∧ q.1 ≠ q.2 ∧ q.1 ∈ zs := by
  intro q hq
  obtain ⟨p, hp, rfl⟩ := List.mem_map.mp hq
  obtain ⟨_, x, y, e, hx, hy, ne⟩ := h.2.1 p hp
  unfold prOf
  rw [e]
  exact ⟨hy, ne, hx⟩
theorem Ties.few {zs : List Str} {H : Hp} {r : Addr} {L : SL} (h : Ties zs H r L) (hz : zs.length ≤ 12) : (L.map prOf).length ≤ 144 := by
  rw [List.length_map]
  exact Nat.le_trans (sub_len (fun p hp => (h.2.1 p hp).2) h.2.2.1) (Nat.mul_le_mul hz hz)
theorem may_some {qs : List (Str × Str)} {zs : List Str} (nd : zs.Nodup) (hq : ∀ q ∈ qs, q.2 ∈ zs ∧ q.1 ≠ q.2) (ne : zs ≠ []) : 0 < ((srt zs).filter (lets qs zs)).length := by
  obtain ⟨b, hb, hl⟩ := low_lets nd hq ne
  exact List.length_pos_of_mem (List.mem_filter.mpr ⟨(srt_perm zs).mem_iff.mpr hb, hl⟩)
end HF
/-! {(a, b): v for ..}: dicts by tuples of texts -/
namespace HF
open PySem PySem.Spec PyProof.Rows L2
section
variable {X : Cx}
/-- a comprehension's own storing, the key a tuple -/
theorem d_dictSetT {pins : List (Addr × Obj)} {σ : L2.St} {H : Hp} {st : Shared} {E : Value → Shared → Prop} {D b : Addr} {es : List (List Key × V)} {k : List Key} {v : V} {r : Value} {Q : Unit → Shared → Prop} (hu : X.A.units + 1 < cLine) (I : Inv X pins σ H st)
    (hD : H D = some (.dT es)) (few : es.length < sizeLine) (hb : H b = some (.tup (k.map kV))) (rv : RelV v r) (q : ∀ s', Inv X pins σ (upd H D (.dT (putK es k v))) s' → Q () s') : wpAny (model X.prog X.w) X.A (dictSet D (.ref b) r) Q E st := by
  obtain ⟨z, low, xs, rel, dd⟩ := dt_of I.hok hD
  have hz : xs.length ≤ sizeLine := by
    rw [← Paired.length rel]
    exact z
  have hl : (putK es k v).length ≤ sizeLine := Nat.le_trans (length_putK es k v) few
  refine wpAny_dictSet_heap (hsz := hz) (show X.A.units < cLine by omega) (key_of I.hok hb) dd fun h' dd' same => q _ ?_
  obtain ⟨o, e1, e2, g1, g2, g3, g4, g5, g6⟩ := dd'
  have old : ∀ c ys, H c = some (.tup ys) → upd H D (.dT (putK es k v)) c = some (.tup ys) := fun c ys ec => by
    rw [upd_ne (ne_of ec hD (fun z => nomatch z))]
    exact ec
  exact d_write I (by rw [hD]; exact True.intro) same ⟨o, g1⟩ ⟨hl, low, _, (rel.put k hb rv).keeps old, o, e1, e2, g1, g2, g3, g4, g6⟩
/-- the reading: D the new dict, keys tuples of texts and ints -/
def tDcT (wi : TI) (g : TG) (tt : TT) (tk tv : TE) (is : List Nat) : TE := fun σ H Q => wi σ H fun J G => ∀ D, G D = none → ∃ W : Nat → Nat → Hp → Prop, (∃ m, W 0 m (upd G D (.dT []))) ∧ ∀ i m H, W i m H →
  (J.stop i H ∧ Q (.ref D) H) ∨ (J.go i H ∧ ∃ Nx : Hp → Prop, (∀ H', Nx H' → ∃ m', m' < m ∧ W (i + 1) m' H') ∧ ∀ x H', J.yld i H x H' → g x (wipe σ is) H' fun τ H2 => wipe τ is = wipe σ is ∧ tt τ H2 fun yes H3 =>
    if yes = true then tk τ H3 fun y H4 => tv τ H4 fun z H5 => ∃ es k b, y = .ref b ∧ H5 b = some (.tup (k.map kV)) ∧ H5 D = some (.dT es) ∧ es.length < sizeLine ∧ Nx (upd H5 D (.dT (putK es k z))) else Nx H3)
theorem dcT_core {pins : List (Addr × Obj)} {st : Shared} {σ : L2.St} {H : Hp} {Q : VK} {kx vx tg over : Expr} {cs : List Expr} {sc2 : Scope} {own : List (Str × Nat)} {pos pos2 : Pos} {wi : TI} {g : TG} {tt : TT} {tk tv : TE} {use : Option (Value → Sem Unit)} {Qf : Value → Shared → Prop}
    (hu : X.A.units + 1 < cLine) (calm : X.calm = true) (nd : X.N.Nodup) (I : Inv X pins σ H st) (hi : PI X tg over wi) (ok : BlkOk X.N X.env.scope sc2 own)
    (pg : ∀ (s : Shared) (H : Hp) (C : Addr) (cl : List (Str × Addr)) (fp : List Addr), PG (X.blk s H sc2 (compEnvC sc2 cl C X.env) fp) tg g) (pt : ∀ (s : Shared) (H : Hp) (C : Addr) (cl : List (Str × Addr)) (fp : List Addr), PTs (X.blk s H sc2 (compEnvC sc2 cl C X.env) fp) cs tt)
    (pk : ∀ (s : Shared) (H : Hp) (C : Addr) (cl : List (Str × Addr)) (fp : List Addr), PE (X.blk s H sc2 (compEnvC sc2 cl C X.env) fp) kx tk)
    (pw : ∀ (s : Shared) (H : Hp) (C : Addr) (cl : List (Str × Addr)) (fp : List Addr), PE (X.blk s H sc2 (compEnvC sc2 cl C X.env) fp) vx tv) (fold : ∀ x, foldedSetIterable over X.env x = pure x)
    (hyp : tDcT wi g tt tk tv (own.map (·.2)) σ H Q)
    (back : ∀ D C s' m H', Inv X pins σ H' s' → Q (.ref D) H' → s'.heap.Ns C m → FpOk X pins H' C → compPost (model X.prog X.w) X.A X.xe use Qf (.ref D) C (.ok .next) s') :
    wpAny (model X.prog X.w) X.A (comprehension (.DictComp kx vx [⟨tg, over, cs, 0⟩] sc2 pos) sc2 X.env pos2 newDict false (eval over X.env) use) Qf X.xe st := by
  have cells : ∀ y ∈ sc2.names, y.2 = .free → ∃ c, X.env.cells.lookup y.1 = some c := fun y hy e => (ok.free y hy e).elim (fun z => I.ok.has _ (.inl z)) fun z => I.ok.has _ (.inr z)
  refine wpAny_comprehension_free (use := use) rfl fold (closure_ok cells) ok.kind (fun y hy e => by rw [ok.uniq y hy, e]) (thn (hi.run pins st σ H _ I hyp) ?_)
  intro xv sA hA
  refine thn hA ?_
  rintro itv sB ⟨it, fp, tn, J, HB, rfl, IB, TW, stB, fpB, qB⟩
  refine wpAny_newObj_type (newEnv_comp ?_)
  obtain ⟨D, eD⟩ : ∃ D, D = sB.heap.objs.size := ⟨_, rfl⟩
  have freeD : HB D = none := IB.hok.fresh (Nat.le_of_eq eD.symm)
  obtain ⟨W, ⟨m0, wStart⟩, turns⟩ := qB D freeD
  obtain ⟨sC, eC⟩ : ∃ sC : Shared, sC = { sB with heap := sB.heap.push { cls := .type "dict", data := .dict #[] } } := ⟨_, rfl⟩
  have hC : sC.heap = sB.heap.push { cls := .type "dict", data := .dict #[] } := by rw [eC]
  have IC : Inv X pins σ (upd HB D (.dT [])) sC := by
    rw [eC, eD]
    exact IB.laid (t' := sB.toks) (fun b o e => Heap.get?_push_of_some _ e) (Nat.le_refl _) (dt_empty sB.heap IB.big)
  have below : ∀ b ∈ fp, b < sB.heap.objs.size := fun b hb => (TW.obj _ _ stB b hb).elim fun o z => Heap.lt_size z.1
  have fpC : ∀ b ∈ fp, FpOk X pins (upd HB D (.dT [])) b ∧ b < sC.heap.objs.size := fun b hb => by
    refine ⟨⟨?_, (fpB b hb).2⟩, ?_⟩
    · rw [upd_ne (by rw [eD]; exact Nat.ne_of_lt (below b hb))]
      exact (fpB b hb).1
    · rw [hC, Heap.size_push]
      exact Nat.lt_succ_of_lt (below b hb)
  have stC : tn 0 sC.heap := TW.keep _ _ _ stB fun b _ o e => by
    rw [hC]
    exact Heap.get?_push_of_some _ e
  have IS := block_start IC ok nd fpC
  have pg1 := pg sC (upd HB D (.dT [])) sC.heap.objs.size (cellsFrom (sC.heap.objs.size + 1) sc2.names (cloFrom X.env.cells sc2.names [])) fp
  have pt1 := pt sC (upd HB D (.dT [])) sC.heap.objs.size (cellsFrom (sC.heap.objs.size + 1) sc2.names (cloFrom X.env.cells sc2.names [])) fp
  have pk1 := pk sC (upd HB D (.dT [])) sC.heap.objs.size (cellsFrom (sC.heap.objs.size + 1) sc2.names (cloFrom X.env.cells sc2.names [])) fp
  have pw1 := pw sC (upd HB D (.dT [])) sC.heap.objs.size (cellsFrom (sC.heap.objs.size + 1) sc2.names (cloFrom X.env.cells sc2.names [])) fp
  rw [← eC, ← eD]
  show codeAny _ _ (.compStart (.DictComp kx vx [⟨tg, over, cs, 0⟩] sc2 pos) 0 (.ref it) (.ref D) (compEnvC sc2 (cellsFrom (sC.heap.objs.size + 1) sc2.names (cloFrom X.env.cells sc2.names [])) sC.heap.objs.size X.env)) (compPost (model X.prog X.w) X.A X.xe use Qf (.ref D) sC.heap.objs.size) { sC with heap := pushCells (sC.heap.push { cls := .type "dict", data := .dict #[] }) sc2.names }
  have bare : ∀ b ∈ fp, (upd HB D (.dT [])) b = none := fun b hb => (fpC b hb).1.1
  generalize hce : compEnvC sc2 (cellsFrom (sC.heap.objs.size + 1) sc2.names (cloFrom X.env.cells sc2.names [])) sC.heap.objs.size X.env = ce at IS pg1 pt1 pk1 pw1 ⊢
  have locC : ce.locals = sC.heap.objs.size := by
    rw [← hce]
    rfl
  generalize upd HB D (.dT []) = HC at IC IS pg1 pt1 pk1 pw1 wStart bare fpC
  generalize hsS : ({ sC with heap := pushCells (sC.heap.push { cls := .type "dict", data := .dict #[] }) sc2.names } : Shared) = sS at IS ⊢
  have stS : tn 0 sS.heap := TW.keep _ _ _ stC fun b _ o e => by
    rw [← hsS]
    exact pushCells_keeps _ _ _ _ (Heap.get?_push_of_some _ e)
  have fine : ∀ {τ : L2.St} {G : Hp} {u : Shared}, Inv (X.blk sC HC sc2 ce fp) [] τ G u → (∀ b ∈ fp, G b = none) → ∀ b ∈ fp, FpOk (X.blk sC HC sc2 ce fp) [] G b := by
    intro τ G u J' hn b hb
    refine ⟨hn b hb, (J'.ok.exf b hb).1, J'.ok.exfs b hb, .inl hb, fun x c e => (J'.ok.exf b hb).2 x c e, fun p hp => ?_⟩
    exact absurd (show p ∈ ([] : List (Addr × Obj)) ++ [] from hp) (by simp)
  have loop : codeAny (model X.prog X.w) X.A (.compLoop (.DictComp kx vx [⟨tg, over, cs, 0⟩] sc2 pos) 0 (.ref it) (.ref D) ce) (compPost (model X.prog X.w) X.A X.xe use Qf (.ref D) sC.heap.objs.size) sS := by
    refine compLoop_anyD (fun n u => ∃ i G, Inv (X.blk sC HC sc2 ce fp) [] (wipe σ (own.map (·.2))) G u ∧ tn i u.heap ∧ (∀ b ∈ fp, G b = none) ∧ W i n G) ?_ m0 ⟨0, HC, IS, stS, bare, wStart⟩
    rintro n u5 ⟨i, G5, J5, tn5, bare5, w5⟩
    rcases turns i n G5 w5 with ⟨stop, fin⟩ | ⟨go, Nx, less, step⟩
    · refine thnF (TW.done (X.blk sC HC sc2 ce fp) rfl rfl rfl calm i [] u5 _ G5 (fun _ _ => False) J5 (fine J5 bare5) tn5 stop) ?_
      rintro r u6 ⟨rfl, J6⟩
      have J7 : Inv X pins σ G5 u6 := IC.call' (ch := fp) J6.os J6.base J6.hok J6.bare fun b hb => ⟨(fpC b hb).1.2.2.2.1, (fpC b hb).1.2.1, (fpC b hb).1.2.2.2.2.1, (fpC b hb).1.2.2.2.2.2⟩
      have bareC : G5 sC.heap.objs.size = none := by
        have z : G5 ce.locals = none := J6.free
        rwa [locC] at z
      obtain ⟨m, ns, _⟩ := J6.loc
      have ns2 : u6.heap.Ns ce.locals m := ns
      rw [locC] at ns2
      exact back D sC.heap.objs.size u6 m G5 J7 fin ns2 (IC.fpOk (Nat.le_refl _) bareC)
    · refine thnF (TW.item (X.blk sC HC sc2 ce fp) rfl rfl rfl calm i [] u5 _ G5 (fun _ _ => False) J5 (fine J5 bare5) tn5 go) ?_
      rintro r u6 ⟨v, rfl, h6⟩
      refine thnF h6 ?_
      rintro _ u7 ⟨x, G7, J7, rel7, yl7, tn7, bare7⟩
      refine thnF (pg1.run _ u7 _ G7 x v _ (J7.pinned (fine J7 bare7) (TW.obj _ _ tn7)) rel7 (step x G7 yl7)) ?_
      rintro _ u8 ⟨σ8, G8, J8, wp8, q8⟩
      refine thnF (pt1.run _ u8 σ8 G8 _ J8 q8) ?_
      rintro yes u9 ⟨G9, J9, q9⟩
      have ends : ∀ {u : Shared} {G : Hp}, Inv (X.blk sC HC sc2 ce fp) ([] ++ pinsAt fp u7.heap) σ8 G u → Nx G → ∃ m, m < n ∧ ∃ i G, Inv (X.blk sC HC sc2 ce fp) [] (wipe σ (own.map (·.2))) G u ∧ tn i u.heap ∧ (∀ b ∈ fp, G b = none) ∧ W i m G := by
        intro u G J' nx
        obtain ⟨m2, lt2, w2⟩ := less G nx
        have still : ∀ b ∈ fp, ∀ o, u7.heap.get? b = some o → u.heap.get? b = some o ∧ G b = none := fun b hb o e => by
          have z := J'.pin (b, o) (List.mem_append_right _ (List.mem_append_right _ (mem_pinsAt hb e)))
          exact ⟨z.1, z.2.1⟩
        have len8 : (wipe σ (own.map (·.2))).length = σ8.length := by rw [← wp8, wipe_length]
        refine ⟨m2, lt2, i + 1, G, (J'.unpinned (pins := [])).weak len8 (fun j v e => ?_), TW.keep _ _ _ tn7 fun b hb o e => (still b hb o e).1, fun b hb => ?_, w2⟩
        · rw [← wp8] at e
          exact (wipe_some e).1
        · obtain ⟨o, e, _⟩ := TW.obj _ _ tn7 b hb
          exact (still b hb o e).2
      cases yes with
      | false =>
        simp only [Bool.false_eq_true, if_false] at q9 ⊢
        exact ends J9 q9
      | true =>
        simp only [if_true] at q9 ⊢
        refine thnF (pk1.run _ u9 σ8 G9 _ J9 q9) ?_
        rintro kv u10 ⟨yk, G10, J10, rel10, q10⟩
        refine thnF (pw1.run _ u10 σ8 G10 _ J10 q10) ?_
        rintro vv u11 ⟨yv, G11, J11, rel11, es, k, b, rfl, hb, hD, few, nx⟩
        cases (show kv = Value.ref b from rel10)
        exact d_dictSetT (X := X.blk sC HC sc2 ce fp) hu J11 hD few hb rel11 fun u12 J12 => ends J12 nx
  exact codeAny_compStart_dict loop (TW.self X.A 0 _ _ _ stS loop)
theorem ps_setDcT {i : Nat} {y : Str} {py : Pos} {kx vx tg over : Expr} {cs : List Expr} {sc2 : Scope} {own : List (Str × Nat)} {pos sp2 : Pos} {wi : TI} {g : TG} {tt : TT} {tk tv : TE} (hu : X.A.units + 1 < cLine) (calm : X.calm = true) (nd : X.N.Nodup) (hy : X.N[i]? = some y) (loc : X.env.scope.names.lookup y = some .local)
    (sw : swapsWith (.DictComp kx vx [⟨tg, over, cs, 0⟩] sc2 pos) (some (.Name y py)) sp2.line X.env = pure true) (hi : PI X tg over wi) (ok : BlkOk X.N X.env.scope sc2 own)
    (pg : ∀ (s : Shared) (H : Hp) (C : Addr) (cl : List (Str × Addr)) (fp : List Addr), PG (X.blk s H sc2 (compEnvC sc2 cl C X.env) fp) tg g) (pt : ∀ (s : Shared) (H : Hp) (C : Addr) (cl : List (Str × Addr)) (fp : List Addr), PTs (X.blk s H sc2 (compEnvC sc2 cl C X.env) fp) cs tt)
    (pk : ∀ (s : Shared) (H : Hp) (C : Addr) (cl : List (Str × Addr)) (fp : List Addr), PE (X.blk s H sc2 (compEnvC sc2 cl C X.env) fp) kx tk)
    (pw : ∀ (s : Shared) (H : Hp) (C : Addr) (cl : List (Str × Addr)) (fp : List Addr), PE (X.blk s H sc2 (compEnvC sc2 cl C X.env) fp) vx tv) (fold : ∀ x, foldedSetIterable over X.env x = pure x := by intro _; rfl) :
    PS X (.Assign [.Name y py] (.DictComp kx vx [⟨tg, over, cs, 0⟩] sc2 pos) sp2) (tAsg (tDcT wi g tt tk tv (own.map (·.2))) (gName i)) := by
  refine ⟨fun pins st σ H D I hyp => ?_⟩
  rw [exec_Assign_Name_used _ _ _ _ sw]
  refine wpAny_bind (wpAny_standAt (wpAny_bind ?_))
  show wpAny _ X.A (do let _ ← comprehension (.DictComp kx vx [⟨tg, over, cs, 0⟩] sc2 pos) sc2 X.env (firstIterPos [⟨tg, over, cs, 0⟩] pos) newDict false (eval over X.env) (some (assign (.Name y py) X.env))) _ _ st
  have hyp2 : tDcT wi g tt tk tv (own.map (·.2)) σ H (fun x H1 => gName i x σ H1 D.nx) := hyp
  refine wpAny_bind (thn (dcT_core (Qf := fun _ s' => SP X pins D .next s') hu calm nd I hi ok pg pt pk pw fold hyp2 ?_) fun _ s' hq => wpAny_pure (wpAny_pure hq))
  intro L C s' m H' I' q ns fr
  show wpAny _ _ (assign (.Name y py) X.env (.ref L)) _ _ _
  refine wpAny_assign_Name (store_ok2 (v := V.ref L) I' nd hy (.inl loc) rfl (fun s2 J ⟨a, sb, ha⟩ => ?_) (.inr loc))
  obtain ⟨g0, g1, g2, g3, g4, g5⟩ := fr
  have hCa : C ≠ a := ha.elim (fun z => z ▸ g1) fun z e => g4 y a z e.symm
  exact ⟨m, ns.sameBut sb hCa, fun h3 sb3 => ⟨_, H', J.turned (t' := s2.toks) (fun b o hb e => (sb3.2 b hb).trans e) g0 g1 g3 g4 g5, q⟩⟩
end
theorem dcT_it {J : It} {n : Nat} {G : Hp → Prop} {Y : Nat → Hp → V → Hp → Prop} (wk : Walk J n G Y) {g : TG} {tt : TT} {tk tv : TE} {is : List Nat} {σ : L2.St} {G1 : Hp} {D : Addr} {Qd : Hp → Prop} (Pv : Nat → Hp → Prop) (h0 : Pv 0 (upd G1 D (.dT []))) (hG : ∀ i H, i ≤ n → Pv i H → G H)
    (hs : ∀ i x H H', i < n → Pv i H → Y i H x H' → g x (wipe σ is) H' fun τ H2 => wipe τ is = wipe σ is ∧ tt τ H2 fun yes H3 =>
      if yes = true then tk τ H3 fun y H4 => tv τ H4 fun z H5 => ∃ es k b, y = .ref b ∧ H5 b = some (.tup (k.map kV)) ∧ H5 D = some (.dT es) ∧ es.length < sizeLine ∧ Pv (i + 1) (upd H5 D (.dT (putK es k z))) else Pv (i + 1) H3) (hd : ∀ H, Pv n H → Qd H) :
    ∃ W : Nat → Nat → Hp → Prop, (∃ m, W 0 m (upd G1 D (.dT []))) ∧ ∀ i m H, W i m H →
      (J.stop i H ∧ Qd H) ∨ (J.go i H ∧ ∃ Nx : Hp → Prop, (∀ H', Nx H' → ∃ m', m' < m ∧ W (i + 1) m' H') ∧ ∀ x H', J.yld i H x H' → g x (wipe σ is) H' fun τ H2 => wipe τ is = wipe σ is ∧ tt τ H2 fun yes H3 =>
        if yes = true then tk τ H3 fun y H4 => tv τ H4 fun z H5 => ∃ es k b, y = .ref b ∧ H5 b = some (.tup (k.map kV)) ∧ H5 D = some (.dT es) ∧ es.length < sizeLine ∧ Nx (upd H5 D (.dT (putK es k z))) else Nx H3) := by
  refine ⟨fun i m H => m = n - i ∧ i ≤ n ∧ Pv i H, ⟨n, (Nat.sub_zero n).symm, Nat.zero_le _, h0⟩, ?_⟩
  intro i m H hW
  obtain ⟨rfl, hi, p⟩ := hW
  have gd := hG i H hi p
  rcases Nat.lt_or_ge i n with hlt | hge
  · refine .inr ⟨wk.goes i H hlt gd, Pv (i + 1), ?_, ?_⟩
    · intro H' p'
      exact ⟨n - (i + 1), by omega, rfl, hlt, p'⟩
    · intro x H' y
      exact hs i x H H' hlt p (wk.yields i H x H' hlt gd y)
  · obtain rfl : i = n := Nat.le_antisymm hi hge
    exact .inl ⟨wk.stops H gd, hd H p⟩
end HF
/-! len(set(texts)) -/
namespace HF
open PySem PySem.Spec PyProof.Rows L2
theorem dedG_mem {x : Str} {ys : List Str} : x ∈ dedG [] ys ↔ x ∈ ys := by
  rw [dedG_nil]
  exact ded_mem
theorem dedG_next {x : Str} {xs : List Str} {i : Nat} (h : xs[i]? = some x) : (dedG [] (xs.take (i + 1))).length = if x ∈ xs.take i then (dedG [] (xs.take i)).length else (dedG [] (xs.take i)).length + 1 := by
  rw [List.take_add_one, h]
  unfold dedG
  rw [List.foldl_append]
  show (if x ∈ dedG [] (xs.take i) then dedG [] (xs.take i) else dedG [] (xs.take i) ++ [x]).length = _
  by_cases e : x ∈ xs.take i
  · rw [if_pos e, if_pos (dedG_mem.mpr e)]
    rfl
  · rw [if_neg e, if_neg fun z => e (dedG_mem.mp z), List.length_append]
    rfl
theorem dedG_few (ys : List Str) : (dedG [] ys).length ≤ ys.length := by
  rw [dedG_nil]
  induction ys with
  | nil => exact Nat.le_refl _
  | cons y r ih =>
    show ((ded r).filter _).length + 1 ≤ r.length + 1
    have := List.length_filter_le (fun x => decide (x ≠ y)) (ded r)
    omega
theorem ded_nodup : ∀ {ys : List Str}, ys.Nodup → ded ys = ys
  | [], _ => rfl
  | y :: r, h => by
    obtain ⟨n1, n2⟩ := List.nodup_cons.mp h
    show y :: (ded r).filter _ = y :: r
    have e : r.filter (fun x => decide (x ≠ y)) = r := List.filter_eq_self.mpr fun x hx => decide_eq_true fun (e : x = y) => n1 (e ▸ hx)
    rw [ded_nodup n2, e]
section
variable {P : Program} {w : World} {A : Around} {E : Value → Shared → Prop} {s : Shared}
abbrev StT (P : Program) (w : World) (h : Heap) (a : Addr) (xs : List Str) (i : Nat) : Prop := h.SetOf (strKind P w) a (fun k => decide (k ∈ xs.take i)) (dedG [] (xs.take i)).length
theorem StT.keep {h h' : Heap} {a : Addr} {xs : List Str} {i : Nat} (R : StT P w h a xs i) (k : ∀ o, h.get? a = some o → h'.get? a = some o) : StT P w h' a xs i := by
  obtain ⟨o, es, ep, t, ho, r⟩ := R
  exact ⟨o, es, ep, t, k o ho, r⟩
theorem update_t {I : Addr} {fp wr : List Addr} {G : Array GenState → Array GenState → Prop} {n : Nat} {Pv : Nat → Value → Prop} {St : Nat → Shared → Prop} {R : Result → Shared → Prop}
    (W : WalksS P w A.in1 I fp wr G n Pv St) (S : Addr) (out : S ∉ fp) (xs : List Str) (hn : n = xs.length) (few : xs.length ≤ 1000) (vals : ∀ i v, Pv i v → ∃ x t, xs[i]? = some x ∧ v = .str x t) :
    ∀ (k i : Nat) (st : Shared), n - i = k → i ≤ n → St i st → StT P w st.heap S xs i → (∀ s', Moved (S :: wr) G st s' → StT P w s'.heap S xs n → R (.ok (.ret .none)) s') →
      codeAny (model P w) A (.builtin "set.update.loop" ⟨[.ref S, .ref I], []⟩) R st := by
  have outw : S ∉ wr := fun h => out (W.sub _ h)
  have wider : ∀ b ∈ wr, b ∈ S :: wr := fun b hb => List.mem_cons_of_mem _ hb
  intro k
  induction k with
  | zero =>
    rintro i st e0 hi hst hS hR
    obtain rfl : i = n := by omega
    refine codeAny_builtin F.entry_set_update_loop ?_
    rw [Around.under_plainId F.plain_set_update_loop _]
    show wpAny _ A.in1 (pyNext (.ref I) >>= _) _ _ st
    refine wpAny_bind (W.done st _ _ hst fun s1 mv => ?_)
    show wpAny _ A.in1 (ret Value.none) _ _ s1
    exact wpAny_pure (hR s1 (mv.mono wider) (hS.keep fun o e => mv.heap S o outw e))
  | succ k ih =>
    rintro i st e0 hi hst hS hR
    have lt : i < n := by omega
    refine codeAny_builtin F.entry_set_update_loop ?_
    rw [Around.under_plainId F.plain_set_update_loop _]
    show wpAny _ A.in1 (pyNext (.ref I) >>= _) _ _ st
    refine wpAny_bind (W.item i st _ _ lt hst fun v s1 hP hst1 mv => ?_)
    obtain ⟨x, t, hx, rfl⟩ := vals i v hP
    have hS1 : StT P w s1.heap S xs i := hS.keep fun o e => mv.heap S o outw e
    have small := dedG_few (xs.take i)
    rw [List.length_take] at small
    show wpAny _ A.in1 (holding [Value.str x t] (setAdd S (.str x t)) >>= _) _ _ s1
    refine wpAny_bind (wpAny_holding ?_)
    unfold setAdd
    refine wpAny_holding (wpAny_bind ((strKind P w).pyHash (k := x) (strKind_is _ _ _ _) ?_))
    refine wpAny_setAddHashed_of (knd := strKind P w) (s := { s1 with toks := s1.toks + 1 }) (strKind_is _ _ _ _) rfl hS1 (by unfold scanBound; omega) fun h2 sb hS2 => ?_
    have next : StT P w h2 S xs (i + 1) := by
      refine SetOf_congr hS2 (fun y => ?_) ?_
      · rw [Bool.eq_iff_iff, Bool.or_eq_true, decide_eq_true_iff, decide_eq_true_iff, decide_eq_true_iff, List.take_add_one, hx, List.mem_append]
        simp
      · rw [dedG_next hx]
        by_cases e : x ∈ xs.take i
        · rw [if_pos e, if_pos (decide_eq_true e)]
        · rw [if_neg e, if_neg (by rw [decide_eq_true_iff]; exact e)]
    refine wpAny_pure ⟨plainId_quiet F.plain_set_update_loop _, ih (i + 1) _ (by omega) lt (W.frame _ s1 _ _ hst1 (Nat.le_succ _) fun b hb o e => ?_) next fun s3 mv3 hS3 => ?_⟩
    · rw [sb.2 b fun z => out (z ▸ hb)]
      exact e
    · refine hR s3 (Moved.trans W.gtrans ((mv.mono wider).then_heap (Nat.le_succ _) fun b o hb e => ?_) mv3) hS3
      rw [sb.2 b fun z => hb (z ▸ List.mem_cons_self)]
      exact e
theorem call_set_t {l : Addr} {items : Array Value} (xs : List Str) {Q : Value → Shared → Prop} (hh : A.handled = none) (hl : s.heap.IsList l items) (hit : Vals (xs.map V.str) items.toList) (few : xs.length ≤ 1000)
    (hQ : ∀ (h' : Heap) (tk : Nat), StT P w h' s.heap.objs.size xs xs.length → (∀ b o, s.heap.get? b = some o → h'.get? b = some o) → Q (.ref s.heap.objs.size) { s with heap := h', toks := tk }) :
    wpAny (model P w) A (call (.type "set") [.ref l]) Q E s := by
  have many : items.size = xs.length := by
    have q : (xs.map V.str).length = items.toList.length := Paired.length hit
    rw [List.length_map] at q
    simpa using q.symm
  obtain ⟨c, tl, hmro⟩ := F.called_set.mro
  have hmade := F.called_set.made
  have hsub := F.called_set.sub
  refine wpAny_call (codeAny_of_tree ?_)
  show wpAny _ _ (callAny (.type "set") _) _ _ _
  refine wpAny_pure ⟨Code.quiet_builtin _ (by decide +kernel), codeAny_builtin F.entry_type_call ?_⟩
  rw [Around.under_plain (weight_type_call_type "set" [.ref l] []) rfl]
  have h1 := F.called_set.notType
  have h2 := F.called_set.canCreate
  have hct := F.typeCall_set_1 (.ref l)
  repeat (any_goals (first | assumption | wp_step))
  refine codeAny_mono (code_set_led1 (.ref l) (E := E) (Q₁ := fun obj s₁ => obj = .ref s.heap.objs.size ∧ s₁ = { s with heap := s.heap.push (bareSet w) }) ⟨rfl, rfl⟩) fun r s₁ hr => ?_
  cases r with
  | error e => exact hr
  | ok fl =>
    cases fl with
    | ret obj =>
      obtain ⟨rfl, rfl⟩ := hr
      have atS : (s.heap.push (bareSet w)).get? s.heap.objs.size = some (bareSet w) := Heap.get?_push_size _ rfl
      have hT : Shared.TypeIs { s with heap := s.heap.push (bareSet w) } (.ref s.heap.objs.size) "set" := ⟨_, atS, rfl⟩
      have hli := F.called_set.init.lookup
      have hbi := F.called_set.init.bind (.ref s.heap.objs.size)
      repeat (any_goals (first | assumption | wp_step))
      refine codeAny_mono (codeAny_call_builtin (R := wants (fun r s₂ => r = .none ∧ ∃ h' tk, s₂ = { s with heap := h', toks := tk } ∧ StT P w h' s.heap.objs.size xs xs.length ∧ (∀ b o, s.heap.get? b = some o → h'.get? b = some o)) E) F.called_set.init.plain F.entry_set_init (check_set_init_1 hT ?_)) fun r₂ s₂ hr₂ => ?_
      · obtain ⟨⟨ocls, odict, odata, oslots⟩, hol, hcl, nl, hdl⟩ := hl
        simp only at hcl hdl
        subst hcl hdl
        have hol1 : (s.heap.push (bareSet w)).get? l = some { cls := .type "list", dict := odict, data := .seq items nl, slots := oslots } := Heap.get?_push_of_some _ hol
        have hsls := F.sub_list_set
        have hslf := F.sub_list_frozenset
        have hne : (Value.type "list" == Value.type "dict") = false := by decide
        have hl1 : (s.heap.push (bareSet w)).IsList l items := ⟨_, hol1, rfl, nl, rfl⟩
        unfold Builtin.«set.__init__» noKeywords Builtin.Frozenset.updateFrom
        generalize hPI : pyIter = PI
        wp_walk
        subst hPI
        refine wpAny_pyIter_list hl1 (wpAny_bind (wpAny_runValue ?_))
        have ltl : l < s.heap.objs.size := Heap.lt_size hol
        have sz1 : (s.heap.push (bareSet w)).objs.size = s.heap.objs.size + 1 := Heap.size_push ..
        have hval : ∀ (i : Nat) (v : Value), items[i]? = some v → ∃ x t, xs[i]? = some x ∧ v = .str x t := fun i v hv => by
          have q : items.toList[i]? = some v := by
            rw [Array.getElem?_toList]
            exact hv
          have lt : i < items.size := (Array.getElem?_eq_some_iff.mp hv).1
          have hx : xs[i]? = some (xs[i]'(by omega)) := List.getElem?_eq_getElem _
          obtain ⟨u, e1, e2⟩ := Vals.get hit (show (xs.map V.str)[i]? = some (.str (xs[i]'(by omega))) by rw [List.getElem?_map, hx]; rfl)
          rw [q] at e1
          cases e1
          obtain ⟨t, rfl⟩ := e2
          exact ⟨_, t, hx, rfl⟩
        refine update_t ((Walks.list (by simp [hh]) _ l (by rw [sz1]; exact Nat.ne_of_lt (Nat.lt_succ_of_lt ltl)) items).toS) s.heap.objs.size
          (by rw [sz1]; simp only [List.mem_cons, List.not_mem_nil, or_false, not_or]; exact ⟨Nat.ne_of_lt (Nat.lt_succ_self _), Nat.ne_of_gt ltl⟩) xs many few hval (items.size - 0) 0 _ (by omega) (Nat.zero_le _)
          ⟨⟨_, Heap.get?_push_size _ rfl, rfl, rfl⟩, (hl1.push _)⟩ ?hS0 ?hR
        case hS0 =>
          exact ⟨_, #[], 0, _, Heap.get?_push_of_some _ atS, ⟨rfl, rfl, rfl⟩, rfl, (fun e he => by simp at he), (fun k => by simp), (by decide), (by rfl), rfl⟩
        case hR =>
          rintro ⟨h', g2, d', tk', os'⟩ mv hS'
          have eg : g2 = s.gens := mv.gens
          have ed : d' = s.drawn := mv.drawn
          have eo : os' = s.os := mv.os
          subst eg ed eo
          show wpAny _ _ _ _ _ _
          refine wpAny_pure ?_
          show wpAny _ _ (ret Value.none) _ _ _
          rw [many] at hS'
          refine wpAny_pure ⟨rfl, h', tk', rfl, hS', fun b o e => mv.heap b o (fun hb => ?_) (Heap.get?_push_of_some _ (Heap.get?_push_of_some _ e))⟩
          have hlt := Heap.lt_size e
          rcases List.mem_cons.mp hb with z | z
          · rw [z] at hlt
            exact Nat.lt_irrefl _ hlt
          · rw [List.mem_singleton.mp z, sz1] at hlt
            exact absurd hlt (Nat.not_lt_of_le (Nat.le_succ _))
      · cases r₂ with
        | error e => exact hr₂
        | ok fl₂ =>
          cases fl₂ with
          | ret r =>
            obtain ⟨rfl, h', tk, rfl, hS', kp⟩ := hr₂
            repeat (any_goals (first | assumption | wp_step))
            exact hQ _ _ hS' kp
          | _ => exact hr₂.elim
    | _ => exact hr.elim
end
section
variable {X : Cx}
/-- len(set(texts)) -/
def tLenT (K : PySem.W.Frag) (ta : TE) : TE := fun σ H Q => ta σ H fun x H1 => ∃ (l : Addr) (xs : List Str), x = .ref l ∧ SqL K H1 l (xs.map V.str) ∧ xs.length ≤ 1000 ∧ Q (.int ((dedG [] xs).length : Nat)) H1
theorem pe_lenT {e : Expr} {te : TE} {p1 p2 p3 pos : Pos} (calm : X.calm = true) (gl : Gl X "len") (ml : X.mg "len" = none) (gs : Gl X "set") (ms : X.mg "set" = none) (he : PE X e te)
    (st1 : starEach [e] X.env = (false, eval e X.env) :: starEach [] X.env := by rfl) : PE X (.Call (.Name "len" p1) [.Call (.Name "set" p2) [e] [] p3] [] pos) (tLenT X.K te) := by
  refine ⟨fun pins st σ H Q I want => Call_ (ld_blt I gl ml PySem.boot_len (PyProof.Rows.callWith_builtin1 (PyProof.Rows.args_cons ?_ rfl) rfl rfl))⟩
  refine Call_ (ld_blt I gs ms PyProof.Rows.boot_set (PyProof.Rows.callWith_type1 (PyProof.Rows.args_cons (thn (he.run pins st σ H _ I want) ?_) st1) st1 rfl))
  rintro v s1 ⟨x, H1, J, r1, l, xs, rfl, hq, few, q⟩
  refine PyProof.Rows.args_nil ?_
  cases r1
  obtain ⟨its, rel, pl, _⟩ := J.list hq
  refine call_set_t (P := X.prog) (w := X.w) xs (J.ok.hd calm) pl.isList (by simpa using rel) few fun h' tk hS kp => PyProof.Rows.args_nil ?_
  obtain ⟨o, es, ep, t, ho, hex, hd, _, _, _, hf, hn⟩ := hS
  have J2 : Inv X pins σ H1 { s1 with heap := h', toks := tk } := J.kept kp
  have small := dedG_few (xs.take xs.length)
  rw [List.take_length] at small hn
  exact call_len_set ho hex hd hf (by rw [hn]; omega) ⟨.int ((dedG [] xs).length : Nat), H1, J2.tok _, ⟨_, by rw [hn]⟩, q⟩
end
end HF
namespace HF
open PySem PySem.Spec PyProof.Rows L2
def uu (zs : List Str) (a b : Str) : Nat := if up zs (a, b) = true then 1 else 0
/-- how many of the next ones lie above the one before -/
def C (zs : List Str) : List Str → Nat
  | a :: b :: r => uu zs a b + C zs (b :: r)
  | _ => 0
def T (zs ls : List Str) : Nat := C zs (ls ++ ls.take 1)
theorem num_cons (zs : List Str) (q : Str × Str) (ps : List (Str × Str)) : num zs (q :: ps) = uu zs q.1 q.2 + num zs ps := by
  unfold num uu
  by_cases e : up zs q = true
  · rw [List.filter_cons_of_pos e, if_pos (show up zs (q.1, q.2) = true from e), List.length_cons]
    omega
  · rw [List.filter_cons_of_neg e, if_neg (show ¬ up zs (q.1, q.2) = true from e)]
    omega
theorem num_zip (zs : List Str) : ∀ (a : Str) (l : List Str), num zs ((a :: l).zip l) = C zs (a :: l)
  | a, [] => rfl
  | a, b :: r => by
    rw [List.zip_cons_cons, num_cons, num_zip zs b r]
    rfl
theorem num_law (zs : List Str) (x : Str) : ∀ (a : Str) (r : List Str), num zs ((a :: r).zip (r ++ [x])) = C zs (a :: r ++ [x])
  | a, [] => by
    show num zs [(a, x)] = C zs [a, x]
    rw [num_cons]
    rfl
  | a, b :: r => by
    show num zs ((a, b) :: (b :: r).zip (r ++ [x])) = C zs (a :: b :: (r ++ [x]))
    rw [num_cons, num_law zs x b r]
    rfl
theorem law_T {zs ls : List Str} (h : 1 ≤ ls.length) : num zs (ls.zip (ls.drop 1 ++ ls.take 1)) = T zs ls := by
  cases ls with
  | nil => simp at h
  | cons a r =>
    show num zs ((a :: r).zip (r ++ [a])) = C zs (a :: r ++ [a])
    exact num_law zs a a r
theorem C_split (zs : List Str) (x : Str) (v : List Str) : ∀ u : List Str, C zs (u ++ x :: v) = C zs (u ++ [x]) + C zs (x :: v)
  | [] => by
    show C zs (x :: v) = 0 + C zs (x :: v)
    omega
  | [a] => by
    show uu zs a x + C zs (x :: v) = (uu zs a x + 0) + C zs (x :: v)
    omega
  | a :: b :: r => by
    have ih := C_split zs x v (b :: r)
    show uu zs a b + C zs (b :: r ++ x :: v) = (uu zs a b + C zs (b :: r ++ [x])) + C zs (x :: v)
    omega
theorem prog_T (zs ms : List Str) (y : Str) : num zs ((y :: (ms ++ [y])).zip (ms ++ [y])) = T zs (ms ++ [y]) := by
  rw [num_zip]
  cases ms with
  | nil => rfl
  | cons x t =>
    show uu zs y x + C zs (x :: (t ++ [y])) = C zs ((x :: t ++ [y]) ++ [x])
    rw [List.append_assoc, show x :: t ++ ([y] ++ [x]) = (x :: t) ++ y :: [x] from rfl, C_split]
    show uu zs y x + C zs (x :: (t ++ [y])) = C zs (x :: t ++ [y]) + (uu zs y x + 0)
    rw [Nat.add_zero, Nat.add_comm]
    rfl
theorem T_rot (zs : List Str) : ∀ u v : List Str, T zs (u ++ v) = T zs (v ++ u)
  | [], v => by rw [List.nil_append, List.append_nil]
  | a :: u, [] => by rw [List.nil_append, List.append_nil]
  | a :: u, b :: v => by
    unfold T
    show C zs ((a :: u ++ b :: v) ++ [a]) = C zs ((b :: v ++ a :: u) ++ [b])
    rw [List.append_assoc, List.append_assoc]
    show C zs (a :: u ++ b :: (v ++ [a])) = C zs (b :: v ++ a :: (u ++ [b]))
    rw [C_split zs b, C_split zs a]
    show C zs (a :: (u ++ [b])) + C zs (b :: (v ++ [a])) = C zs (b :: (v ++ [a])) + C zs (a :: (u ++ [b]))
    omega
def Ad (zs : List Str) : List Str → Prop
  | a :: b :: r => pos a zs ≠ pos b zs ∧ Ad zs (b :: r)
  | _ => True
theorem uu_two {zs : List Str} {a b : Str} (h : pos a zs ≠ pos b zs) : uu zs a b + uu zs b a = 1 := by
  unfold uu up
  by_cases e : (pos b zs : Int) < (pos a zs : Int)
  · rw [if_pos (decide_eq_true e), if_neg (by rw [decide_eq_true_eq]; show ¬ (pos a zs : Int) < (pos b zs : Int); omega)]
  · rw [if_neg (by rw [decide_eq_true_eq]; exact e), if_pos (by rw [decide_eq_true_eq]; show (pos a zs : Int) < (pos b zs : Int); omega)]
theorem C_rev {zs : List Str} : ∀ {m : List Str}, m ≠ [] → Ad zs m → C zs m + C zs m.reverse + 1 = m.length
  | [], h, _ => absurd rfl h
  | [a], _, _ => rfl
  | a :: b :: r, _, h => by
    have ih := C_rev (m := b :: r) (by simp) h.2
    have e : (a :: b :: r).reverse = r.reverse ++ b :: [a] := by
      rw [List.reverse_cons, List.reverse_cons, List.append_assoc]
      rfl
    rw [e, C_split, ← List.reverse_cons]
    show (uu zs a b + C zs (b :: r)) + (C zs (b :: r).reverse + (uu zs b a + 0)) + 1 = (b :: r).length + 1
    have := uu_two h.1
    omega
theorem Ad_of {zs : List Str} : ∀ {l : List Str}, l.Nodup → (∀ x ∈ l, x ∈ zs) → Ad zs l
  | [], _, _ => trivial
  | [a], _, _ => trivial
  | a :: b :: r, hn, hi => by
    have h2 := List.nodup_cons.mp hn
    refine ⟨fun e => h2.1 ?_, Ad_of h2.2 fun x hx => hi x (List.mem_cons_of_mem _ hx)⟩
    rw [pos_inj (hi a List.mem_cons_self) (hi b (List.mem_cons_of_mem _ List.mem_cons_self)) e]
    exact List.mem_cons_self
theorem Ad_snoc {zs : List Str} {x : Str} : ∀ {l : List Str}, Ad zs l → (∀ y, l.getLast? = some y → pos y zs ≠ pos x zs) → Ad zs (l ++ [x])
  | [], _, _ => trivial
  | [a], _, h => ⟨h a rfl, trivial⟩
  | a :: b :: r, hA, h => ⟨hA.1, Ad_snoc (l := b :: r) hA.2 fun y hy => h y (by rw [List.getLast?_cons_cons]; exact hy)⟩
theorem Ad_round {zs : List Str} {x b : Str} {r : List Str} (hn : (x :: b :: r).Nodup) (hi : ∀ y ∈ x :: b :: r, y ∈ zs) : Ad zs ((x :: b :: r) ++ [x]) := by
  refine Ad_snoc (Ad_of hn hi) fun y hy e => ?_
  rw [List.getLast?_cons_cons] at hy
  have hm := List.mem_of_getLast? hy
  have := pos_inj (hi y (List.mem_cons_of_mem _ hm)) (hi x List.mem_cons_self) e
  exact (List.nodup_cons.mp hn).1 (this ▸ hm)
theorem C_rise {zs : List Str} : ∀ {a b : Str} {t : List Str} {z : Str}, Ad zs (a :: b :: t) → C zs (a :: b :: t) = 0 → (b :: t).getLast? = some z → pos a zs < pos z zs
  | a, b, [], z, hA, h0, hz => by
    have ez : b = z := Option.some.inj hz
    subst ez
    have h1 : uu zs a b + 0 = 0 := h0
    have h2 : ¬ up zs (a, b) = true := fun e => by
      unfold uu at h1
      rw [if_pos e] at h1
      cases h1
    have h3 : ¬ (pos b zs : Int) < (pos a zs : Int) := fun e => h2 (decide_eq_true e)
    have := hA.1
    omega
  | a, b, c :: t, z, hA, h0, hz => by
    have h1 : uu zs a b + C zs (b :: c :: t) = 0 := h0
    have h2 : ¬ up zs (a, b) = true := fun e => by
      unfold uu at h1
      rw [if_pos e] at h1
      omega
    have h3 : ¬ (pos b zs : Int) < (pos a zs : Int) := fun e => h2 (decide_eq_true e)
    have h4 := C_rise (a := b) (b := c) (t := t) (z := z) hA.2 (by omega) (by rw [List.getLast?_cons_cons] at hz; exact hz)
    have := hA.1
    omega
theorem T_pos {zs ls : List Str} (hn : ls.Nodup) (hi : ∀ y ∈ ls, y ∈ zs) (h2 : 2 ≤ ls.length) : 1 ≤ T zs ls := by
  cases ls with
  | nil => simp at h2
  | cons x r =>
    cases r with
    | nil => simp at h2
    | cons b r =>
      rcases Nat.eq_zero_or_pos (T zs (x :: b :: r)) with e | e
      · have e2 : C zs (x :: b :: (r ++ [x])) = 0 := e
        have := C_rise (z := x) (Ad_round hn hi) e2 (show ((b :: r) ++ [x]).getLast? = some x by rw [List.getLast?_append]; rfl)
        omega
      · exact e
theorem T_rev {zs ls : List Str} (hn : ls.Nodup) (hi : ∀ y ∈ ls, y ∈ zs) (h2 : 2 ≤ ls.length) : T zs ls + T zs ls.reverse = ls.length := by
  cases ls with
  | nil => simp at h2
  | cons x r =>
    cases r with
    | nil => simp at h2
    | cons b r =>
      have h := C_rev (zs := zs) (m := (x :: b :: r) ++ [x]) (by simp) (Ad_round hn hi)
      have e1 : T zs (x :: b :: r).reverse = C zs (x :: (x :: b :: r).reverse) := by
        rw [List.reverse_cons, ← prog_T, num_zip]
      have e2 : ((x :: b :: r) ++ [x]).reverse = x :: (x :: b :: r).reverse := by
        rw [List.reverse_append]
        rfl
      rw [e2, ← e1, List.length_append] at h
      have e3 : T zs (x :: b :: r) = C zs ((x :: b :: r) ++ [x]) := rfl
      rw [← e3] at h
      simp only [List.length_singleton] at h
      omega
theorem T_lt {zs ls : List Str} (hn : ls.Nodup) (hi : ∀ y ∈ ls, y ∈ zs) (h2 : 2 ≤ ls.length) : T zs ls < ls.length := by
  have h := T_rev hn hi h2
  have := T_pos (zs := zs) (ls := ls.reverse) ((List.reverse_perm ls).nodup_iff.mpr hn) (fun y hy => hi y (List.mem_reverse.mp hy)) (by rw [List.length_reverse]; exact h2)
  omega
theorem snoc_of {ls : List Str} (h : 1 ≤ ls.length) : ∃ ms y, ls = ms ++ [y] := by
  have hne : ls ≠ [] := fun e => by
    rw [e] at h
    simp at h
  exact ⟨ls.dropLast, ls.getLast hne, (List.dropLast_concat_getLast hne).symm⟩
end HF
/-! rings, and how they fall -/
namespace HF
open PySem PySem.Spec PyProof.Rows L2
theorem pos_filter {p : Str → Bool} {x y : Str} (hx : p x = true) (hy : p y = true) : ∀ zs : List Str, (pos x (zs.filter p) < pos y (zs.filter p) ↔ pos x zs < pos y zs)
  | [] => Iff.rfl
  | z :: r => by
    have ih := pos_filter hx hy r
    by_cases e : p z = true
    · rw [List.filter_cons_of_pos e]
      unfold pos
      by_cases ex : z = x
      · by_cases ey : z = y
        · rw [if_pos ex, if_pos ey, if_pos ex, if_pos ey]
        · rw [if_pos ex, if_neg ey, if_pos ex, if_neg ey]
          omega
      · by_cases ey : z = y
        · rw [if_neg ex, if_pos ey, if_neg ex, if_pos ey]
          omega
        · rw [if_neg ex, if_neg ey, if_neg ex, if_neg ey]
          omega
    · have ex : ¬ z = x := fun q => e (q ▸ hx)
      have ey : ¬ z = y := fun q => e (q ▸ hy)
      rw [List.filter_cons_of_neg e]
      show _ ↔ (if z = x then 0 else pos x r + 1) < (if z = y then 0 else pos y r + 1)
      rw [if_neg ex, if_neg ey]
      omega
theorem pos_top (b : Str) (zs : List Str) : pos b (onTop b zs) = 0 := by
  show (if b = b then 0 else _) = 0
  rw [if_pos rfl]
theorem pos_rest {b x : Str} (h : x ≠ b) (zs : List Str) : pos x (onTop b zs) = pos x (zs.filter fun z => decide (z ≠ b)) + 1 := by
  show (if b = x then 0 else _) = _
  rw [if_neg fun e => h e.symm]
theorem uu_rest {b x y : Str} {zs : List Str} (hx : x ≠ b) (hy : y ≠ b) : uu (onTop b zs) x y = uu zs x y := by
  have h := pos_filter (p := fun z => decide (z ≠ b)) (x := y) (y := x) (decide_eq_true hy) (decide_eq_true hx) zs
  have e : (((pos y (onTop b zs) : Nat) : Int) < ((pos x (onTop b zs) : Nat) : Int)) ↔ (((pos y zs : Nat) : Int) < ((pos x zs : Nat) : Int)) := by
    rw [pos_rest hx, pos_rest hy]
    omega
  have e2 : up (onTop b zs) (x, y) = up zs (x, y) := by
    unfold up
    rw [Bool.eq_iff_iff, decide_eq_true_iff, decide_eq_true_iff]
    exact e
  unfold uu
  rw [e2]
theorem C_rest {b : Str} {zs : List Str} : ∀ {l : List Str}, b ∉ l → C (onTop b zs) l = C zs l
  | [], _ => rfl
  | [a], _ => rfl
  | a :: c :: r, h => by
    have h1 : a ≠ b := fun e => h (e ▸ List.mem_cons_self)
    have h2 : c ≠ b := fun e => h (e ▸ List.mem_cons_of_mem _ List.mem_cons_self)
    show uu (onTop b zs) a c + C (onTop b zs) (c :: r) = uu zs a c + C zs (c :: r)
    rw [uu_rest h1 h2, C_rest fun z => h (List.mem_cons_of_mem _ z)]
/-- each next one a friend of the one before -/
def Ch (qs : List (Str × Str)) : List Str → Prop
  | a :: b :: r => (a, b) ∈ qs ∧ Ch qs (b :: r)
  | _ => True
theorem Ch.app {qs : List (Str × Str)} {x : Str} {v : List Str} : ∀ {u : List Str}, Ch qs (u ++ [x]) → Ch qs (x :: v) → Ch qs (u ++ x :: v)
  | [], _, h => h
  | [a], h, h2 => ⟨h.1, h2⟩
  | a :: b :: r, h, h2 => ⟨h.1, Ch.app (u := b :: r) h.2 h2⟩
theorem Ch.split {qs : List (Str × Str)} {x : Str} {v : List Str} : ∀ {u : List Str}, Ch qs (u ++ x :: v) → Ch qs (u ++ [x]) ∧ Ch qs (x :: v)
  | [], h => ⟨trivial, h⟩
  | [a], h => ⟨⟨h.1, trivial⟩, h.2⟩
  | a :: b :: r, h => by
    obtain ⟨h1, h2⟩ := Ch.split (u := b :: r) h.2
    exact ⟨⟨h.1, h1⟩, h2⟩
structure Rng (qs : List (Str × Str)) (zs ls : List Str) : Prop where
  nd : ls.Nodup
  two : 2 ≤ ls.length
  sub : ∀ x ∈ ls, x ∈ zs
  ch : Ch qs (ls ++ ls.take 1)
theorem Rng.rot {qs : List (Str × Str)} {zs u v : List Str} (h : Rng qs zs (u ++ v)) : Rng qs zs (v ++ u) := by
  obtain ⟨h1, h2, h3, h4⟩ := h
  have pm : (u ++ v).Perm (v ++ u) := List.perm_append_comm
  refine ⟨pm.nodup_iff.mp h1, by rw [← pm.length_eq]; exact h2, fun x hx => h3 x (pm.mem_iff.mpr hx), ?_⟩
  cases u with
  | nil => rwa [List.append_nil] at *
  | cons a u =>
    cases v with
    | nil => rw [List.append_nil] at h4; exact h4
    | cons b v =>
      have h5 : Ch qs ((a :: u) ++ b :: (v ++ [a])) := by
        have e : (a :: u ++ b :: v) ++ List.take 1 (a :: u ++ b :: v) = (a :: u) ++ b :: (v ++ [a]) := by simp
        rwa [e] at h4
      obtain ⟨h6, h7⟩ := Ch.split h5
      have e : (b :: v ++ a :: u) ++ List.take 1 (b :: v ++ a :: u) = (b :: v) ++ a :: (u ++ [b]) := by simp
      rw [e]
      exact Ch.app h7 h6
/-- a going takes from a ring what the law says -/
theorem fall_in {qs : List (Str × Str)} {zs u v : List Str} {b f : Str} (h : Rng qs zs (u ++ b :: v)) (nd : zs.Nodup) (hb : b ∈ zs) (hl : lets qs zs b = true) (hf : (v ++ u).getLast? = some f) :
    (T (onTop b zs) (u ++ b :: v) : Int) = (T zs (u ++ b :: v) : Int) - (if (pos f zs : Int) < (pos b zs : Int) then 0 else 1) ∧ f ∈ zs := by
  have hr : Rng qs zs (b :: (v ++ u)) := h.rot
  have e1 : ∀ ys, T ys (u ++ b :: v) = T ys (b :: (v ++ u)) := fun ys => T_rot ys u (b :: v)
  obtain ⟨m, hm⟩ : ∃ m, v ++ u = m ++ [f] := by
    have hne : v ++ u ≠ [] := fun e => by rw [e] at hf; simp at hf
    refine ⟨(v ++ u).dropLast, ?_⟩
    rw [List.getLast?_eq_some_getLast hne] at hf
    rw [← Option.some.inj hf]
    exact (List.dropLast_concat_getLast hne).symm
  have hfz : f ∈ zs := hr.sub f (by rw [hm]; simp)
  have nin : b ∉ v ++ u := (List.nodup_cons.mp hr.nd).1
  have fb : f ≠ b := fun e => nin (by rw [hm, e]; simp)
  have e2 : ∀ ys, T ys (b :: (v ++ u)) = C ys (b :: (v ++ u)) + uu ys f b := fun ys => by
    show C ys ((b :: (v ++ u)) ++ [b]) = _
    rw [hm]
    have e3 : (b :: (m ++ [f])) ++ [b] = (b :: m) ++ f :: [b] := by simp
    rw [e3, C_split]
    show C ys (b :: (m ++ [f])) + (uu ys f b + 0) = _
    omega
  obtain ⟨w0, wr, hw⟩ : ∃ w0 wr, v ++ u = w0 :: wr := by
    cases hc : v ++ u with
    | nil => rw [hc] at hf; simp at hf
    | cons a r => exact ⟨a, r, rfl⟩
  have w0b : w0 ≠ b := fun e => nin (by rw [hw, e]; exact List.mem_cons_self)
  have e4 : ∀ ys, C ys (b :: (v ++ u)) = uu ys b w0 + C ys (v ++ u) := fun ys => by
    rw [hw]
    rfl
  have tie : (b, w0) ∈ qs := by
    have h4 := hr.ch
    rw [hw] at h4
    exact h4.1
  have up1 : (pos w0 zs : Int) < (pos b zs : Int) := by
    unfold lets at hl
    refine of_decide_eq_true (List.all_eq_true.mp hl w0 ?_)
    unfold sndOf
    exact List.mem_map.mpr ⟨(b, w0), List.mem_filter.mpr ⟨tie, decide_eq_true rfl⟩, rfl⟩
  have a1 : uu zs b w0 = 1 := by
    unfold uu up
    rw [if_pos (decide_eq_true up1)]
  have a2 : uu (onTop b zs) b w0 = 0 := by
    unfold uu up
    rw [if_neg]
    rw [decide_eq_true_iff]
    show ¬ ((pos w0 (onTop b zs) : Nat) : Int) < ((pos b (onTop b zs) : Nat) : Int)
    rw [pos_top]
    omega
  have a3 : uu (onTop b zs) f b = 1 := by
    unfold uu up
    rw [if_pos]
    rw [decide_eq_true_iff]
    show ((pos b (onTop b zs) : Nat) : Int) < ((pos f (onTop b zs) : Nat) : Int)
    rw [pos_top, pos_rest fb]
    omega
  have a4 : (uu zs f b : Int) = if (pos f zs : Int) < (pos b zs : Int) then 0 else 1 := by
    have hne : pos f zs ≠ pos b zs := fun e => fb (pos_inj hfz hb e)
    unfold uu up
    by_cases e : (pos f zs : Int) < (pos b zs : Int)
    · rw [if_pos e, if_neg]
      · rfl
      · rw [decide_eq_true_iff]
        show ¬ ((pos b zs : Nat) : Int) < ((pos f zs : Nat) : Int)
        omega
    · rw [if_neg e, if_pos]
      · rfl
      · rw [decide_eq_true_iff]
        show ((pos b zs : Nat) : Int) < ((pos f zs : Nat) : Int)
        omega
  refine ⟨?_, hfz⟩
  rw [e1, e1, e2, e2, e4, e4, a1, a2, a3, C_rest nin, ← a4]
  omega
theorem fall_out {zs ls : List Str} {b : Str} (h : b ∉ ls) : T (onTop b zs) ls = T zs ls := by
  unfold T
  refine C_rest fun z => ?_
  rcases List.mem_append.mp z with q | q
  · exact h q
  · exact h (List.mem_of_mem_take q)
theorem Rng.perm {qs : List (Str × Str)} {zs zs' ls : List Str} (h : Rng qs zs ls) (pm : zs'.Perm zs) : Rng qs zs' ls := ⟨h.nd, h.two, fun x hx => pm.mem_iff.mpr (h.sub x hx), h.ch⟩
theorem split_at {b : Str} : ∀ {ls : List Str}, b ∈ ls → ∃ u v, ls = u ++ b :: v ∧ u.length = pos b ls
  | x :: r, h => by
    by_cases e : x = b
    · exact ⟨[], r, by rw [e]; rfl, by unfold pos; rw [if_pos e]; rfl⟩
    · obtain ⟨u, v, h1, h2⟩ := split_at ((List.mem_cons.mp h).resolve_left fun q => e q.symm)
      refine ⟨x :: u, v, by rw [h1]; rfl, ?_⟩
      unfold pos
      rw [if_neg e, List.length_cons, h2]
theorem fan_at {u v : List Str} {b f : Str} (hf : (v ++ u).getLast? = some f) : atI ((u ++ b :: v).map V.str) ((u.length : Int) - 1) = some (.str f) := by
  rcases List.eq_nil_or_concat u with e | ⟨u', x, e⟩
  · subst e
    rw [List.append_nil] at hf
    obtain ⟨m, hm⟩ : ∃ m, v = m ++ [f] := by
      have hne : v ≠ [] := fun e => by rw [e] at hf; simp at hf
      refine ⟨v.dropLast, ?_⟩
      rw [List.getLast?_eq_some_getLast hne] at hf
      rw [← Option.some.inj hf]
      exact (List.dropLast_concat_getLast hne).symm
    rw [hm]
    show atI ((b :: (m ++ [f])).map V.str) (0 - 1) = _
    rw [show ((b :: (m ++ [f])).map V.str) = ((b :: m).map V.str) ++ [.str f] by simp]
    exact atI_last _ _
  · subst e
    have hx : x = f := by
      rw [List.concat_eq_append, ← List.append_assoc, List.getLast?_append] at hf
      exact Option.some.inj hf
    subst hx
    have e1 : ((u'.concat x).length : Int) - 1 = ((u'.length : Nat) : Int) := by
      rw [List.length_concat]
      omega
    rw [e1]
    refine atI_nat ?_
    rw [List.concat_eq_append, List.append_assoc, List.getElem?_map, List.getElem?_append_right (Nat.le_refl _), Nat.sub_self]
    rfl
end HF
namespace HF
open PySem PySem.Spec PyProof.Rows L2
theorem pe_dcT {X : Cx} {kx vx tg over : Expr} {cs : List Expr} {sc2 : Scope} {own : List (Str × Nat)} {pos : Pos} {wi : TI} {g : TG} {tt : TT} {tk tv : TE} (hu : X.A.units + 1 < cLine) (calm : X.calm = true) (nd : X.N.Nodup) (hi : PI X tg over wi) (ok : BlkOk X.N X.env.scope sc2 own)
    (pg : ∀ (s : Shared) (H : Hp) (C : Addr) (cl : List (Str × Addr)) (fp : List Addr), PG (X.blk s H sc2 (compEnvC sc2 cl C X.env) fp) tg g) (pt : ∀ (s : Shared) (H : Hp) (C : Addr) (cl : List (Str × Addr)) (fp : List Addr), PTs (X.blk s H sc2 (compEnvC sc2 cl C X.env) fp) cs tt)
    (pk : ∀ (s : Shared) (H : Hp) (C : Addr) (cl : List (Str × Addr)) (fp : List Addr), PE (X.blk s H sc2 (compEnvC sc2 cl C X.env) fp) kx tk)
    (pw : ∀ (s : Shared) (H : Hp) (C : Addr) (cl : List (Str × Addr)) (fp : List Addr), PE (X.blk s H sc2 (compEnvC sc2 cl C X.env) fp) vx tv) (fold : ∀ x, foldedSetIterable over X.env x = pure x := by intro _; rfl) :
    PE X (.DictComp kx vx [⟨tg, over, cs, 0⟩] sc2 pos) (tDcT wi g tt tk tv (own.map (·.2))) := by
  refine ⟨fun pins st σ H Q I hyp => ?_⟩
  rw [arm_eval_DictComp]
  refine dcT_core hu calm nd I hi ok pg pt pk pw fold hyp fun D C s' m H' J q ns fr => ⟨m, ns, fun h2 sb => ?_⟩
  obtain ⟨g0, g1, g2, g3, g4, g5⟩ := fr
  have still : ∀ b o, b ≠ C → s'.heap.get? b = some o → h2.get? b = some o := fun b o hb e => (sb.2 b hb).trans e
  exact ⟨.ref D, H', J.turned (t' := s'.toks) still g0 g1 g3 g4 g5, rfl, q⟩
theorem ch_zip {qs : List (Str × Str)} : ∀ {a : Str} {l : List Str} {i : Nat} {q : Str × Str}, Ch qs (a :: l) → ((a :: l).zip l)[i]? = some q → q ∈ qs
  | a, [], i, q, _, h => by simp at h
  | a, b :: r, 0, q, h, hq => by
    cases (show some (a, b) = some q from hq)
    exact h.1
  | a, b :: r, i + 1, q, h, hq => ch_zip (a := b) (l := r) (i := i) h.2 hq
theorem Rng.pairs {qs : List (Str × Str)} {zs ms : List Str} {y : Str} (h : Rng qs zs (ms ++ [y])) {i : Nat} {q : Str × Str} (hq : ((y :: (ms ++ [y])).zip (ms ++ [y]))[i]? = some q) : q ∈ qs := by
  refine ch_zip ?_ hq
  have h4 := h.ch
  cases ms with
  | nil =>
    have := h.two
    simp at this
  | cons x t =>
    have e : (x :: t ++ [y]) ++ List.take 1 (x :: t ++ [y]) = (x :: t) ++ y :: [x] := by simp
    rw [e] at h4
    obtain ⟨h5, h6⟩ := Ch.split h4
    exact ⟨h6.1, h5⟩
variable (K : PySem.W.Frag)
def spShow : Sp := fun vs H Q _ => ∃ (r a : Addr) (zs ls : List Str) (qs : List (Str × Str)), vs = [.ref r, .ref a] ∧ PqT K H r qs ∧ SqL K H a (ls.map V.str) ∧ Rng qs zs ls ∧ qs.length ≤ 400 ∧ ls.length ≤ 1000 ∧ ∀ H' : Hp, Same H H' → Q (.bl true) H'
def spFall : Sp := fun vs H Q _ => ∃ (h a : Addr) (b : Str) (zs ls : List Str) (qs : List (Str × Str)), vs = [.ref h, .ref a, .str b] ∧ Hq K H h zs ∧ SqL K H a (ls.map V.str) ∧ Rng qs zs ls ∧ zs.Nodup ∧ b ∈ zs ∧ lets qs zs b = true ∧ ls.length ≤ 1000 ∧
  ∀ H' : Hp, Same H H' → Q (.int ((T zs ls : Int) - (T (onTop b zs) ls : Int))) H'
/-- rings in a list -/
structure LpAt (qs : List (Str × Str)) (zs : List Str) (H : Hp) (F : Addr) (as : List Addr) (rs : List (List Str)) : Prop where
  top : H F = some (.lst (as.map V.ref))
  len : as.length = rs.length
  at' : ∀ (i : Nat) (a : Addr) (ls : List Str), as[i]? = some a → rs[i]? = some ls → H a = some (.lst (ls.map V.str))
  rng : ∀ ls ∈ rs, Rng qs zs ls
def spLoops : Sp := fun vs H Q _ => ∃ (p h r : Addr) (n : Nat) (c : Int) (zs : List Str) (L : SL), vs = [.ref p, .ref h, .ref r, .int n] ∧ Bx H p c ∧ c < 2 ^ 38 ∧ n ≤ 20 ∧ Tp H h (zs.map V.str) ∧ zs.Nodup ∧ zs ≠ [] ∧ zs.length ≤ 12 ∧ (∀ z ∈ zs, Nm z) ∧ Ties zs H r L ∧
  ∀ (H' : Hp) (F : Addr) (as : List Addr) (rs : List (List Str)) (c' : Int), Oth p H H' → H F = none → LpAt (L.map prOf) zs H' F as rs → rs.length ≤ n → Bx H' p c' → c ≤ c' → c' ≤ c + 20 * n → Q (.ref F) H'
variable {K}
theorem LpAt.same {qs : List (Str × Str)} {zs : List Str} {H H' : Hp} {F : Addr} {as : List Addr} {rs : List (List Str)} (h : LpAt qs zs H F as rs) (sm : Same H H') : LpAt qs zs H' F as rs :=
  ⟨sm _ _ h.top, h.len, fun i a ls h1 h2 => sm _ _ (h.at' i a ls h1 h2), h.rng⟩
theorem bx_refs {H : Hp} {p F : Addr} {c : Int} {as : List Addr} (hb : Bx H p c) (h : H F = some (.lst (as.map V.ref))) : F ≠ p := fun e => by
  obtain ⟨x, y, e2, _⟩ := hb
  rw [e, e2] at h
  have e3 := Option.some.inj h
  injection e3 with e4
  cases as with
  | nil => exact nomatch e4
  | cons a r => injection e4 with e5; exact nomatch e5
theorem bx_strs {H : Hp} {p F : Addr} {c : Int} {ls : List Str} (hb : Bx H p c) (h : H F = some (.lst (ls.map V.str))) : F ≠ p := fun e => by
  obtain ⟨x, y, e2, _⟩ := hb
  rw [e, e2] at h
  have e3 := Option.some.inj h
  injection e3 with e4
  cases ls with
  | nil => exact nomatch e4
  | cons a r => injection e4 with e5; exact nomatch e5
theorem LpAt.oth {qs : List (Str × Str)} {zs : List Str} {H H' : Hp} {F p : Addr} {c : Int} {as : List Addr} {rs : List (List Str)} (h : LpAt qs zs H F as rs) (o : Oth p H H') (hb : Bx H p c) : LpAt qs zs H' F as rs :=
  ⟨o _ _ h.top (bx_refs hb h.top), h.len, fun i a ls h1 h2 => o _ _ (h.at' i a ls h1 h2) (bx_strs hb (h.at' i a ls h1 h2)), h.rng⟩
theorem LpAt.get {qs : List (Str × Str)} {zs : List Str} {H : Hp} {F : Addr} {as : List Addr} {rs : List (List Str)} (h : LpAt qs zs H F as rs) {i : Nat} {a : Addr} (ha : as[i]? = some a) : ∃ ls, rs[i]? = some ls ∧ H a = some (.lst (ls.map V.str)) ∧ Rng qs zs ls := by
  have hi : i < rs.length := by
    rw [← h.len]
    exact (List.getElem?_eq_some_iff.mp ha).1
  have hr : rs[i]? = some rs[i] := List.getElem?_eq_getElem hi
  exact ⟨_, hr, h.at' i a _ ha hr, h.rng _ (List.mem_of_getElem? hr)⟩
end HF
namespace HF
open PySem PySem.Spec PyProof.Rows L2
/-! ### heights raised by ties, and the ring behind them: the mathematics -/
def gn (zs ws : List Str) (q : Str × Str) : Int := (if up ws q = true then 1 else 0) - (if up zs q = true then 1 else 0)
theorem gn_le (zs ws : List Str) (q : Str × Str) : gn zs ws q ≤ 1 ∧ -1 ≤ gn zs ws q := by
  unfold gn
  cases up ws q <;> cases up zs q <;> decide
theorem gn_uu (zs ws : List Str) (a b : Str) : gn zs ws (a, b) = (uu ws a b : Int) - (uu zs a b : Int) := by
  unfold gn uu
  cases up ws (a, b) <;> cases up zs (a, b) <;> rfl
structure Bf (qs : List (Str × Str)) (g : Str × Str → Int) (t : Nat) (h : Str → Int) (c : Str → Option Str) (r : Str → Nat) (done : List (Str × Str)) : Prop where
  e : ∀ v u, c v = some u → (u, v) ∈ qs ∧ h v ≤ h u + g (u, v)
  le : ∀ v, r v ≤ t + 1
  st : ∀ v u, c v = some u → r v ≤ r u + 1
  has : ∀ v, 1 ≤ r v → ∃ u, c v = some u
  old : ∀ q ∈ qs, r q.1 < t → h q.1 + g q ≤ h q.2
  new : ∀ q ∈ done, r q.1 < t + 1 → h q.1 + g q ≤ h q.2
  cy : ∀ S : Str → Prop, (∃ v, S v) → (∀ v, S v → ∃ u, c v = some u ∧ S u) → ∃ v u, S v ∧ S u ∧ c v = some u ∧ h v < h u + g (u, v)
  nn : ∀ v, 0 ≤ h v
  zero : ∀ v, c v = none → h v = 0
/-- the state within a turn: what was raised last -/
structure Mid (qs : List (Str × Str)) (g : Str × Str → Int) (t : Nat) (h : Str → Int) (c : Str → Option Str) (r : Str → Nat) (done : List (Str × Str)) (last : Option Str) : Prop extends Bf qs g t h c r done where
  none_ : last = none → ∀ q ∈ done, h q.1 + g q ≤ h q.2
  some_ : ∀ f, last = some f → r f = t + 1
def setF {α : Type} (h : Str → α) (v : Str) (x : α) : Str → α := fun y => if y = v then x else h y
theorem setF_eq {α : Type} (h : Str → α) (v : Str) (x : α) : setF h v x v = x := if_pos rfl
theorem setF_ne {α : Type} (h : Str → α) {v y : Str} (x : α) (e : y ≠ v) : setF h v x y = h y := if_neg e
theorem Bf.start (qs : List (Str × Str)) (g : Str × Str → Int) : Bf qs g 0 (fun _ => 0) (fun _ => none) (fun _ => 0) [] where
  e := fun _ _ h => nomatch h
  le := fun _ => Nat.zero_le _
  st := fun _ _ h => nomatch h
  has := fun _ h => nomatch h
  old := fun _ _ h => nomatch h
  new := fun _ h => nomatch h
  cy := fun S ⟨v, hv⟩ hc => by
    obtain ⟨u, hu, _⟩ := hc v hv
    exact nomatch hu
  nn := fun _ => Int.le_refl _
  zero := fun _ _ => rfl
theorem Bf.turn {qs : List (Str × Str)} {g : Str × Str → Int} {t : Nat} {h : Str → Int} {c : Str → Option Str} {r : Str → Nat} (b : Bf qs g t h c r qs) : Bf qs g (t + 1) h c r [] where
  e := b.e
  le := fun v => Nat.le_succ_of_le (b.le v)
  st := b.st
  has := b.has
  old := fun q hq hr => b.new q hq hr
  new := fun _ h => nomatch h
  cy := b.cy
  nn := b.nn
  zero := b.zero
theorem Bf.mid {qs : List (Str × Str)} {g : Str × Str → Int} {t : Nat} {h : Str → Int} {c : Str → Option Str} {r : Str → Nat} (b : Bf qs g t h c r []) : Mid qs g t h c r [] none :=
  { b with none_ := fun _ _ hq => (nomatch hq), some_ := fun _ hf => (nomatch hf) }
theorem Mid.keep {qs : List (Str × Str)} {g : Str × Str → Int} {t : Nat} {h : Str → Int} {c : Str → Option Str} {r : Str → Nat} {done : List (Str × Str)} {last : Option Str} (m : Mid qs g t h c r done last) {q : Str × Str} (hs : ¬ h q.2 < h q.1 + g q) : Mid qs g t h c r (done ++ [q]) last :=
  { m with
    new := fun p hp hr => by
      rcases List.mem_append.mp hp with z | z
      · exact m.new p z hr
      · rw [List.mem_singleton.mp z]
        omega
    none_ := fun hn p hp => by
      rcases List.mem_append.mp hp with z | z
      · exact m.none_ hn p z
      · rw [List.mem_singleton.mp z]
        omega }
theorem Mid.raise {qs : List (Str × Str)} {g : Str × Str → Int} {t : Nat} {h : Str → Int} {c : Str → Option Str} {r : Str → Nat} {done : List (Str × Str)} {last : Option Str} (m : Mid qs g t h c r done last) (sub : ∀ q ∈ done, q ∈ qs) {u v : Str} (hq : (u, v) ∈ qs) (ne : u ≠ v) (hs : h v < h u + g (u, v)) :
    Mid qs g t (setF h v (h u + g (u, v))) (setF c v (some u)) (setF r v (t + 1)) (done ++ [(u, v)]) (some v) := by
  have hup : ∀ x, h x ≤ setF h v (h u + g (u, v)) x := fun x => by
    by_cases ex : x = v
    · rw [ex, setF_eq]
      omega
    · rw [setF_ne _ _ ex]
      exact Int.le_refl _
  have hu : setF h v (h u + g (u, v)) u = h u := setF_ne _ _ ne
  have hv : setF h v (h u + g (u, v)) v = h u + g (u, v) := setF_eq _ _ _
  have hrt : t ≤ r u := Nat.le_of_not_lt fun hlt => by
    have h1 := m.old _ hq hlt
    have h2 : h u + g (u, v) ≤ h v := h1
    omega
  refine { e := ?_, le := ?_, st := ?_, has := ?_, old := ?_, new := ?_, cy := ?_, nn := ?_, zero := ?_, none_ := fun z => (nomatch z), some_ := fun f z => ?_ }
  · intro x y hxy
    by_cases ex : x = v
    · subst ex
      rw [setF_eq] at hxy
      cases hxy
      exact ⟨hq, by rw [hv, hu]; exact Int.le_refl _⟩
    · rw [setF_ne _ _ ex] at hxy
      obtain ⟨h1, h2⟩ := m.e x y hxy
      refine ⟨h1, ?_⟩
      rw [setF_ne h _ ex]
      have := hup y
      omega
  · intro x
    by_cases ex : x = v
    · rw [ex, setF_eq]
      exact Nat.le_refl _
    · rw [setF_ne _ _ ex]
      exact m.le x
  · intro x y hxy
    by_cases ex : x = v
    · subst ex
      rw [setF_eq] at hxy
      cases hxy
      rw [setF_eq, setF_ne _ _ ne]
      omega
    · rw [setF_ne _ _ ex] at hxy
      have h1 := m.st x y hxy
      rw [setF_ne _ _ ex]
      by_cases ey : y = v
      · rw [ey, setF_eq]
        rw [ey] at h1
        have := m.le v
        have := m.le x
        omega
      · rw [setF_ne _ _ ey]
        exact h1
  · intro x hx
    by_cases ex : x = v
    · rw [ex, setF_eq]
      exact ⟨u, rfl⟩
    · rw [setF_ne _ _ ex] at hx ⊢
      exact m.has x hx
  · intro q hq1 hr
    by_cases ex : q.1 = v
    · rw [ex, setF_eq] at hr
      omega
    · rw [setF_ne _ _ ex] at hr
      rw [setF_ne h _ ex]
      have := m.old q hq1 hr
      have := hup q.2
      omega
  · intro q hq1 hr
    by_cases ex : q.1 = v
    · rw [ex, setF_eq] at hr
      omega
    · rw [setF_ne _ _ ex] at hr
      rw [setF_ne h _ ex]
      rcases List.mem_append.mp hq1 with z | z
      · have := m.new q z hr
        have := hup q.2
        omega
      · rw [List.mem_singleton.mp z]
        show h u + g (u, v) ≤ setF h v (h u + g (u, v)) v
        rw [hv]
        exact Int.le_refl _
  · intro S hne hcl
    by_cases hv' : ∃ w, S w ∧ w ≠ v ∧ c w = some v
    · by_cases hSv : S v
      · obtain ⟨w, h1, h2, h3⟩ := hv'
        refine ⟨w, v, h1, hSv, by rw [setF_ne _ _ h2]; exact h3, ?_⟩
        have := (m.e w v h3).2
        rw [setF_ne h _ h2, hv]
        omega
      · have hcl2 : ∀ x, S x → ∃ y, c x = some y ∧ S y := fun x hx => by
          obtain ⟨y, hy, hSy⟩ := hcl x hx
          have ex : x ≠ v := fun z => hSv (z ▸ hx)
          rw [setF_ne _ _ ex] at hy
          exact ⟨y, hy, hSy⟩
        obtain ⟨x, y, hx, hy, hxy, hlt⟩ := m.cy S hne hcl2
        have ex : x ≠ v := fun z => hSv (z ▸ hx)
        have ey : y ≠ v := fun z => hSv (z ▸ hy)
        refine ⟨x, y, hx, hy, by rw [setF_ne _ _ ex]; exact hxy, ?_⟩
        rw [setF_ne h _ ex, setF_ne h _ ey]
        exact hlt
    · have hne2 : ∃ x, S x ∧ x ≠ v := by
        obtain ⟨x, hx⟩ := hne
        by_cases ex : x = v
        · obtain ⟨y, hy, hSy⟩ := hcl x hx
          rw [ex, setF_eq] at hy
          cases hy
          exact ⟨u, hSy, ne⟩
        · exact ⟨x, hx, ex⟩
      have hcl2 : ∀ x, (S x ∧ x ≠ v) → ∃ y, c x = some y ∧ (S y ∧ y ≠ v) := fun x hx => by
        obtain ⟨y, hy, hSy⟩ := hcl x hx.1
        rw [setF_ne _ _ hx.2] at hy
        exact ⟨y, hy, hSy, fun z => hv' ⟨x, hx.1, hx.2, z ▸ hy⟩⟩
      obtain ⟨x, y, hx, hy, hxy, hlt⟩ := m.cy (fun x => S x ∧ x ≠ v) hne2 hcl2
      refine ⟨x, y, hx.1, hy.1, by rw [setF_ne _ _ hx.2]; exact hxy, ?_⟩
      rw [setF_ne h _ hx.2, setF_ne h _ hy.2]
      exact hlt
  · intro x
    exact Int.le_trans (m.nn x) (hup x)
  · intro x hx
    by_cases ex : x = v
    · rw [ex, setF_eq] at hx
      exact nomatch hx
    · rw [setF_ne _ _ ex] at hx ⊢
      exact m.zero x hx
  · cases z
    exact setF_eq _ _ _
/-! ### no ring grows where heights stand -/
structure Pot (zs ws : List Str) (qs : List (Str × Str)) (h : Str → Int) : Prop where
  nn : ∀ v, 0 ≤ h v
  few : ∀ v ∈ zs, h v < zs.length
  ok : ∀ q ∈ qs, h q.1 + gn zs ws q ≤ h q.2
theorem Mid.pot {zs ws : List Str} {qs : List (Str × Str)} {t : Nat} {h : Str → Int} {c : Str → Option Str} {r : Str → Nat} (m : Mid qs (gn zs ws) t h c r qs none) (hz : ∀ q ∈ qs, q.1 ∈ zs ∧ q.2 ∈ zs) : Pot zs ws qs h := by
  have ok := m.none_ rfl
  refine ⟨m.nn, fun v hv => ?_, ok⟩
  have hv0 := m.nn v
  have hall : ∀ k : Nat, (k : Int) ≤ h v → ∃ x ∈ zs, h x = k := fun k hk => by
    by_cases e : h v = k
    · exact ⟨v, hv, e⟩
    · refine Classical.byContradiction fun hno => ?_
      have hlt : (k : Int) < h v := by omega
      obtain ⟨x, y, hx, hy, hxy, hl⟩ := m.cy (fun x => (k : Int) < h x ∧ x ∈ zs) ⟨v, hlt, hv⟩ (fun x hx => by
        cases hc : c x with
        | none =>
          have := m.zero x hc
          omega
        | some u =>
          obtain ⟨h1, h2⟩ := m.e x u hc
          have h3 := (gn_le zs ws (u, x)).1
          have hu := (hz _ h1).1
          have : h u ≠ k := fun z => hno ⟨u, hu, z⟩
          exact ⟨u, rfl, by omega, hu⟩)
      have := ok _ (m.e x y hxy).1
      have h4 : h y + gn zs ws (y, x) ≤ h x := this
      omega
  obtain ⟨n, hn⟩ := Int.eq_ofNat_of_zero_le hv0
  have hch : ∀ k : Nat, ∃ x, k ≤ n → x ∈ zs ∧ h x = k := fun k => by
    by_cases hk : k ≤ n
    · obtain ⟨x, h1, h2⟩ := hall k (by omega)
      exact ⟨x, fun _ => ⟨h1, h2⟩⟩
    · exact ⟨v, fun z => absurd z hk⟩
  have hf := fun k => Classical.choose_spec (hch k)
  generalize hF : (fun k => Classical.choose (hch k)) = F at *
  have hF2 : ∀ k, k ≤ n → F k ∈ zs ∧ h (F k) = k := fun k hk => by
    rw [← hF]
    exact hf k hk
  have hnd : ((List.range (n + 1)).map F).Nodup := by
    refine List.pairwise_map.mpr ?_
    refine (List.pairwise_lt_range (n := n + 1)).imp_of_mem fun {a b} ha hb hab e => ?_
    have h1 := hF2 a (by have := List.mem_range.mp ha; omega)
    have h2 := hF2 b (by have := List.mem_range.mp hb; omega)
    rw [e, h2.2] at h1
    have := h1.2
    omega
  have hle := nodup_le _ zs hnd (fun x hx => by
    obtain ⟨k, hk, rfl⟩ := List.mem_map.mp hx
    exact (hF2 k (by have := List.mem_range.mp hk; omega)).1)
  rw [List.length_map, List.length_range] at hle
  omega
theorem C_pot {zs ws : List Str} {qs : List (Str × Str)} {h : Str → Int} (p : Pot zs ws qs h) : ∀ {a : Str} {l : List Str} {z : Str}, Ch qs (a :: l) → (a :: l).getLast? = some z → h a + ((C ws (a :: l) : Nat) : Int) ≤ h z + ((C zs (a :: l) : Nat) : Int)
  | a, [], z, _, e => by
    cases (show some a = some z from e)
    show h a + 0 ≤ h a + 0
    exact Int.le_refl _
  | a, b :: r, z, hc, e => by
    have h1 := p.ok (a, b) hc.1
    have h2 := C_pot p (a := b) (l := r) (z := z) hc.2 (by simpa using e)
    rw [gn_uu] at h1
    have e1 : C ws (a :: b :: r) = uu ws a b + C ws (b :: r) := rfl
    have e2 : C zs (a :: b :: r) = uu zs a b + C zs (b :: r) := rfl
    have h3 : h a + ((uu ws a b : Int) - (uu zs a b : Int)) ≤ h b := h1
    rw [e1, e2]
    omega
theorem Pot.rings {zs ws : List Str} {qs : List (Str × Str)} {h : Str → Int} (p : Pot zs ws qs h) {xs ls : List Str} (g : Rng qs xs ls) : T ws ls ≤ T zs ls := by
  cases ls with
  | nil => exact Nat.le_refl _
  | cons a l =>
    have hc : Ch qs (a :: (l ++ [a])) := g.ch
    have := C_pot p hc (z := a) (by rw [show a :: (l ++ [a]) = (a :: l) ++ [a] from rfl, List.getLast?_append]; rfl)
    show C ws (a :: (l ++ [a])) ≤ C zs (a :: (l ++ [a]))
    omega
/-! ### steps back -/
def wk (c : Str → Option Str) : Nat → Str → Option Str
  | 0, v => some v
  | k + 1, v => (wk c k v).bind c
theorem wk_has {qs : List (Str × Str)} {g : Str × Str → Int} {t : Nat} {h : Str → Int} {c : Str → Option Str} {r : Str → Nat} {done : List (Str × Str)} (b : Bf qs g t h c r done) {v : Str} : ∀ {k : Nat}, k ≤ r v → ∃ x, wk c k v = some x ∧ r v ≤ r x + k
  | 0, _ => ⟨v, rfl, Nat.le_refl _⟩
  | k + 1, hk => by
    obtain ⟨x, h1, h2⟩ := wk_has b (v := v) (k := k) (by omega)
    obtain ⟨u, hu⟩ := b.has x (by omega)
    refine ⟨u, ?_, ?_⟩
    · show (wk c k v).bind c = some u
      rw [h1]
      exact hu
    · have := b.st x u hu
      omega
/-- behind as many steps as there are books one goes round -/
theorem wk_round {zs : List Str} {c : Str → Option Str} {v s : Str} (nd : zs.Nodup) (hv : v ∈ zs) (hc : ∀ x y, c x = some y → y ∈ zs) (hw : wk c zs.length v = some s) : ∃ (q : Nat → Str) (m : Nat), 1 ≤ m ∧ q 0 = s ∧ q m = s ∧ (∀ k, c (q k) = some (q (k + 1))) ∧ ∀ k, 1 ≤ k → k < m → q k ≠ s := by
  have hsome : ∀ k, k ≤ zs.length → ∃ x, wk c k v = some x := fun k hk => by
    have : ∀ j, j ≤ zs.length → (wk c (zs.length - j) v).isSome = true := fun j => by
      induction j with
      | zero =>
        intro _
        rw [Nat.sub_zero, hw]
        rfl
      | succ j ih =>
        intro hj
        have h1 := ih (by omega)
        rw [show zs.length - j = (zs.length - (j + 1)) + 1 by omega] at h1
        have h2 : ((wk c (zs.length - (j + 1)) v).bind c).isSome = true := h1
        cases e : wk c (zs.length - (j + 1)) v with
        | none =>
          rw [e] at h2
          exact nomatch h2
        | some x => rfl
    have h1 := this (zs.length - k) (by omega)
    rw [show zs.length - (zs.length - k) = k by omega] at h1
    exact Option.isSome_iff_exists.mp h1
  let p : Nat → Str := fun k => (wk c k v).getD v
  have hp : ∀ k, k ≤ zs.length → wk c k v = some (p k) := fun k hk => by
    obtain ⟨x, hx⟩ := hsome k hk
    show wk c k v = some ((wk c k v).getD v)
    rw [hx]
    rfl
  have hst : ∀ k, k < zs.length → c (p k) = some (p (k + 1)) := fun k hk => by
    have h1 := hp (k + 1) (by omega)
    have h2 : (wk c k v).bind c = some (p (k + 1)) := h1
    rw [hp k (by omega)] at h2
    exact h2
  have hin : ∀ k, k ≤ zs.length → p k ∈ zs := fun k => by
    cases k with
    | zero => exact fun _ => hv
    | succ k => exact fun hk => hc _ _ (hst k (by omega))
  have hrep : ∃ i j, i < j ∧ j ≤ zs.length ∧ p i = p j := Classical.byContradiction fun hno => by
    have hnd : ((List.range (zs.length + 1)).map p).Nodup := by
      refine List.pairwise_map.mpr ?_
      refine (List.pairwise_lt_range (n := zs.length + 1)).imp_of_mem fun {a b} ha hb hab e => ?_
      exact hno ⟨a, b, hab, by have := List.mem_range.mp hb; omega, e⟩
    have hle := nodup_le _ zs hnd (fun x hx => by
      obtain ⟨k, hk, rfl⟩ := List.mem_map.mp hx
      exact hin k (by have := List.mem_range.mp hk; omega))
    rw [List.length_map, List.length_range] at hle
    omega
  obtain ⟨i, j, hij, hj, e⟩ := hrep
  have hd : 0 < j - i := by omega
  let s' : Nat → Str := fun k => p (i + k % (j - i))
  have hs' : ∀ k, c (s' k) = some (s' (k + 1)) := fun k => by
    have hlt := Nat.mod_lt k hd
    show c (p (i + k % (j - i))) = some (p (i + (k + 1) % (j - i)))
    rw [hst _ (by omega)]
    by_cases hw2 : k % (j - i) + 1 < j - i
    · rw [show (k + 1) % (j - i) = k % (j - i) + 1 by
        rw [Nat.add_mod, Nat.mod_eq_of_lt (a := 1) (by omega), Nat.mod_eq_of_lt hw2]]
      rw [show i + k % (j - i) + 1 = i + (k % (j - i) + 1) by omega]
    · have e2 : k % (j - i) + 1 = j - i := by omega
      have e3 : (k + 1) % (j - i) = 0 := by
        rw [← Nat.mod_add_mod, e2, Nat.mod_self]
      rw [e3, show i + k % (j - i) + 1 = j by omega, ← e]
      rfl
  have heq : ∀ k, i + k ≤ zs.length → p (i + k) = s' k := fun k => by
    induction k with
    | zero =>
      intro _
      show p (i + 0) = p (i + 0 % (j - i))
      rw [Nat.zero_mod]
    | succ k ih =>
      intro hk
      have h1 := hst (i + k) (by omega)
      rw [ih (by omega), hs' k] at h1
      exact (Option.some.inj h1).symm
  have hs : s = s' (zs.length - i) := by
    have h1 := hp zs.length (Nat.le_refl _)
    rw [hw] at h1
    rw [Option.some.inj h1, ← heq (zs.length - i) (by omega), show i + (zs.length - i) = zs.length by omega]
  let q : Nat → Str := fun k => s' (zs.length - i + k)
  have hq0 : q 0 = s := hs.symm
  have hqd : q (j - i) = s := by
    rw [hs]
    show p (i + (zs.length - i + (j - i)) % (j - i)) = p (i + (zs.length - i) % (j - i))
    rw [Nat.add_mod_right]
  have hqs : ∀ k, c (q k) = some (q (k + 1)) := fun k => hs' _
  obtain ⟨m, h1, h2, h3⟩ := st_least (p := fun k => 1 ≤ k ∧ q k = s) (j - i) ⟨by omega, hqd⟩
  exact ⟨q, m, h2.1, hq0, h2.2, hqs, fun k hk hkm e => h3 k hkm ⟨hk, e⟩⟩
/-- what stands behind, from the first on -/
def back (q : Nat → Str) (n : Nat) : List Str := (List.range n).map q
theorem back_len (q : Nat → Str) (n : Nat) : (back q n).length = n := by
  unfold back
  rw [List.length_map, List.length_range]
theorem back_succ (q : Nat → Str) (n : Nat) : back q (n + 1) = back q n ++ [q n] := by
  unfold back
  rw [List.range_succ, List.map_append]
  rfl
theorem back_rev (q : Nat → Str) (n : Nat) : (back q (n + 1)).reverse = q n :: (back q n).reverse := by
  rw [back_succ, List.reverse_append]
  rfl
theorem back_nodup {q : Nat → Str} {c : Str → Option Str} {s : Str} {m : Nat} (h0 : q 0 = s) (hm : q m = s) (hq : ∀ k, c (q k) = some (q (k + 1))) (hl : ∀ k, 1 ≤ k → k < m → q k ≠ s) : (back q m).Nodup := by
  have go : ∀ d a b, q a = q b → q (a + d) = q (b + d) := fun d => by
    induction d with
    | zero => exact fun a b h => h
    | succ d ih =>
      intro a b h
      have h1 := hq (a + d)
      rw [ih a b h, hq (b + d)] at h1
      exact (Option.some.inj h1).symm
  refine List.pairwise_map.mpr ?_
  refine (List.pairwise_lt_range (n := m)).imp_of_mem fun {a b} ha hb hab e => ?_
  have hbm := List.mem_range.mp hb
  have h1 := go (m - b) a b e
  rw [show b + (m - b) = m by omega, hm] at h1
  exact hl (a + (m - b)) (by omega) (by omega) h1
theorem ch_back {qs : List (Str × Str)} {q : Nat → Str} (h : ∀ k, (q (k + 1), q k) ∈ qs) : ∀ n, Ch qs (back q n).reverse
  | 0 => trivial
  | 1 => trivial
  | n + 2 => by
    rw [back_rev, back_rev]
    refine ⟨h n, ?_⟩
    rw [← back_rev]
    exact ch_back h (n + 1)
theorem C_back {zs ws : List Str} {h : Str → Int} {q : Nat → Str} (hle : ∀ k, h (q k) ≤ h (q (k + 1)) + gn zs ws (q (k + 1), q k)) : ∀ n, h (q 0) + ((C zs (back q (n + 1)).reverse : Nat) : Int) ≤ h (q n) + ((C ws (back q (n + 1)).reverse : Nat) : Int) ∧
    ((∃ k, k < n ∧ h (q k) < h (q (k + 1)) + gn zs ws (q (k + 1), q k)) → h (q 0) + ((C zs (back q (n + 1)).reverse : Nat) : Int) < h (q n) + ((C ws (back q (n + 1)).reverse : Nat) : Int))
  | 0 => ⟨Int.le_refl _, fun ⟨k, hk, _⟩ => absurd hk (Nat.not_lt_zero k)⟩
  | n + 1 => by
    obtain ⟨i1, i2⟩ := C_back hle n
    have h1 := hle n
    rw [gn_uu] at h1
    have e : ∀ xs : List Str, C xs (back q (n + 1 + 1)).reverse = uu xs (q (n + 1)) (q n) + C xs (back q (n + 1)).reverse := fun xs => by
      rw [back_rev, back_rev q n]
      rfl
    rw [e, e]
    refine ⟨by omega, ?_⟩
    rintro ⟨k, hk, hs⟩
    by_cases hkn : k = n
    · subst hkn
      rw [gn_uu] at hs
      omega
    · have := i2 ⟨k, by omega, hs⟩
      omega
theorem ring_rot {qs : List (Str × Str)} {zs ws : List Str} {q : Nat → Str} {m : Nat} {s : Str} (hm : 2 ≤ m) (h0 : q 0 = s) (hqm : q m = s) : (∀ xs, T xs (back q m).reverse = C xs (back q (m + 1)).reverse) ∧ (Ch qs (back q (m + 1)).reverse → Ch qs ((back q m).reverse ++ (back q m).reverse.take 1)) := by
  obtain ⟨n, rfl⟩ : ∃ n, m = n + 1 := ⟨m - 1, by omega⟩
  have hb : ∀ n, (back q (n + 1)).reverse = ((List.range n).map fun k => q (k + 1)).reverse ++ [q 0] := fun n => by
    unfold back
    rw [List.range_succ_eq_map, List.map_cons, List.map_map, List.reverse_cons]
    rfl
  have hr : (back q (n + 1 + 1)).reverse = q 0 :: (back q (n + 1)).reverse := by
    rw [back_rev, hqm, h0]
  refine ⟨fun xs => ?_, fun h => ?_⟩
  · rw [hb n, T_rot, hr, hb n]
    rfl
  · rw [hr, hb n] at h
    rw [hb n]
    generalize hgu : ((List.range n).map fun k => q (k + 1)).reverse = u at *
    cases u with
    | nil =>
      have := congrArg List.length hgu
      rw [List.length_reverse, List.length_map, List.length_range] at this
      exact absurd (show n = 0 from this) (by omega)
    | cons a t =>
      have h1 : (q 0, a) ∈ qs := h.1
      have h2 : Ch qs (a :: t ++ [q 0]) := h.2
      show Ch qs ((a :: t ++ [q 0]) ++ [a])
      rw [List.append_assoc]
      exact Ch.app (u := a :: t) (x := q 0) (v := [a]) h2 ⟨h1, trivial⟩
/-- the ring that the heights tell -/
theorem Bf.ring {zs ws : List Str} {qs : List (Str × Str)} {t : Nat} {h : Str → Int} {c : Str → Option Str} {r : Str → Nat} {done : List (Str × Str)} (b : Bf qs (gn zs ws) t h c r done) (hz : ∀ q ∈ qs, q.2 ∈ zs ∧ q.1 ≠ q.2 ∧ q.1 ∈ zs)
    {q : Nat → Str} {m : Nat} {s : Str} (hm : 1 ≤ m) (h0 : q 0 = s) (hqm : q m = s) (hq : ∀ k, c (q k) = some (q (k + 1))) (hl : ∀ k, 1 ≤ k → k < m → q k ≠ s) : Rng qs zs (back q m).reverse ∧ T zs (back q m).reverse < T ws (back q m).reverse := by
  have hpair : ∀ k, (q (k + 1), q k) ∈ qs := fun k => (b.e _ _ (hq k)).1
  have hm2 : 2 ≤ m := by
    refine Nat.lt_of_le_of_ne hm fun e => ?_
    subst e
    exact (hz _ (hpair 0)).2.1 (hqm.trans h0.symm)
  obtain ⟨r1, r2⟩ := ring_rot (qs := qs) (zs := zs) (ws := ws) hm2 h0 hqm
  refine ⟨⟨?_, ?_, ?_, r2 (ch_back hpair _)⟩, ?_⟩
  · have h1 := back_nodup h0 hqm hq hl
    exact List.pairwise_reverse.mpr (h1.imp fun h e => h e.symm)
  · rw [List.length_reverse, back_len]
    exact hm2
  · intro x hx
    obtain ⟨k, _, rfl⟩ := List.mem_map.mp (List.mem_reverse.mp hx)
    exact (hz _ (hpair k)).1
  · rw [r1, r1]
    have hle : ∀ k, h (q k) ≤ h (q (k + 1)) + gn zs ws (q (k + 1), q k) := fun k => (b.e _ _ (hq k)).2
    obtain ⟨x, y, ⟨k, hk, rfl⟩, _, hxy, hlt⟩ := b.cy (fun x => ∃ k, k < m ∧ x = q k) ⟨q 0, 0, by omega, rfl⟩ (fun x ⟨k, hk, e⟩ => by
      subst e
      by_cases hkm : k + 1 < m
      · exact ⟨_, hq k, k + 1, hkm, rfl⟩
      · have e2 : k + 1 = m := by omega
        exact ⟨_, hq k, 0, by omega, by rw [e2, hqm, h0]⟩)
    rw [hq k] at hxy
    cases hxy
    have := (C_back (zs := zs) (ws := ws) hle m).2 ⟨k, hk, hlt⟩
    rw [hqm, h0] at this
    omega
/-! ### the same told again: which ring it is -/
abbrev RS := (Str → Int) × (Str → Option Str) × Option Str
def rs (g : Str × Str → Int) (st : RS) (q : Str × Str) : RS := if st.1 q.2 < st.1 q.1 + g q then (setF st.1 q.2 (st.1 q.1 + g q), setF st.2.1 q.2 (some q.1), some q.2) else st
def rnd (qs : List (Str × Str)) (g : Str × Str → Int) (h : Str → Int) (c : Str → Option Str) : RS := qs.foldl (rs g) (h, c, none)
def rndsL (qs : List (Str × Str)) (g : Str × Str → Int) : Nat → RS
  | 0 => (fun _ => 0, fun _ => none, none)
  | i + 1 => rnd qs g (rndsL qs g i).1 (rndsL qs g i).2.1
def RingIs (zs ws : List Str) (qs : List (Str × Str)) (ls : List Str) : Prop := ∃ (h : Str → Int) (c : Str → Option Str) (f s : Str) (q : Nat → Str) (m : Nat), rndsL qs (gn zs ws) zs.length = (h, c, some f) ∧ wk c zs.length f = some s ∧ q 0 = s ∧ q m = s ∧ 1 ≤ m ∧ (∀ k, c (q k) = some (q (k + 1))) ∧ (∀ k, 1 ≤ k → k < m → q k ≠ s) ∧ ls = (back q m).reverse
theorem RingIs.one {zs ws : List Str} {qs : List (Str × Str)} {ls ls' : List Str} (a : RingIs zs ws qs ls) (b : RingIs zs ws qs ls') : ls = ls' := by
  obtain ⟨h, c, f, s, q, m, e1, e2, e3, e4, e5, e6, e7, rfl⟩ := a
  obtain ⟨h', c', f', s', q', m', d1, d2, d3, d4, d5, d6, d7, rfl⟩ := b
  rw [e1] at d1
  cases d1
  rw [e2] at d2
  cases d2
  have hq : ∀ k, q k = q' k := fun k => by
    induction k with
    | zero => rw [e3, d3]
    | succ k ih =>
      have h1 := e6 k
      rw [ih, d6 k] at h1
      exact (Option.some.inj h1).symm
  have hm : m = m' := by
    refine Nat.le_antisymm (Nat.le_of_not_lt fun z => ?_) (Nat.le_of_not_lt fun z => ?_)
    · exact e7 m' d5 z (by rw [hq]; exact d4)
    · exact d7 m e5 z (by rw [← hq]; exact e4)
  have : q = q' := funext hq
  rw [this, hm]
end HF
namespace HF
open PySem PySem.Spec PyProof.Rows L2
/-! ### the fewest goings: the mathematics -/
/-- what forces all down to a place of the other heap -/
def Fp (zs ws : List Str) (g : Str → Int) (i : Nat) (x : Str) : Prop := 0 < g x ∨ ∃ y, ws[i + 1]? = some y ∧ pos y zs < pos x zs
structure Sol (zs ws : List Str) (qs : List (Str × Str)) (g : Str → Int) : Prop where
  nn : ∀ x, 0 ≤ g x
  up : ∀ i x, ws[i]? = some x → Fp zs ws g i x → ∀ j y, j ≤ i → ws[j]? = some y → 1 ≤ g y
  ed : ∀ q ∈ qs, 0 < g q.1 → g q.1 + gn zs ws q ≤ g q.2
theorem Fp.mono {zs ws : List Str} {g g' : Str → Int} {i : Nat} {x : Str} (h : Fp zs ws g i x) (le : ∀ x, g x ≤ g' x) : Fp zs ws g' i x := h.imp (fun z => by have := le x; omega) id
theorem Pot.sol {zs ws : List Str} {qs : List (Str × Str)} {h : Str → Int} (p : Pot zs ws qs h) : Sol zs ws qs (fun x => 1 + h x) := by
  refine ⟨fun x => ?_, fun i x hx hf j y hj hy => ?_, fun q hq hp => ?_⟩
  · have := p.nn x
    show 0 ≤ 1 + h x
    omega
  · have := p.nn y
    show 1 ≤ 1 + h y
    omega
  · have := p.ok q hq
    show 1 + h q.1 + gn zs ws q ≤ 1 + h q.2
    omega
/-- how many are forced -/
structure Fm (zs ws : List Str) (g : Str → Int) (m : Nat) : Prop where
  le : m ≤ ws.length
  all : ∀ i x, ws[i]? = some x → Fp zs ws g i x → i < m
  at_ : m = 0 ∨ ∃ x, ws[m - 1]? = some x ∧ Fp zs ws g (m - 1) x
def rz (g : Str → Int) (xs : List Str) : Str → Int := fun x => if x ∈ xs then max (g x) 1 else g x
theorem rz_le (g : Str → Int) (xs : List Str) (x : Str) : g x ≤ rz g xs x := by
  unfold rz
  split <;> omega
theorem rz_in {g : Str → Int} {xs : List Str} {x : Str} (h : x ∈ xs) : 1 ≤ rz g xs x := by
  unfold rz
  rw [if_pos h]
  omega
theorem rz_out {g : Str → Int} {xs : List Str} {x : Str} (h : x ∉ xs) : rz g xs x = g x := if_neg h
theorem rz_set {g : Str → Int} {xs : List Str} {x : Str} : setF (rz g xs) x (max (rz g xs x) 1) = rz g (xs ++ [x]) := by
  funext y
  unfold setF rz
  by_cases e : y = x
  · subst e
    rw [if_pos rfl, if_pos (List.mem_append.mpr (.inr (List.mem_singleton.mpr rfl)))]
    split <;> omega
  · rw [if_neg e]
    have : (y ∈ xs ++ [x]) ↔ y ∈ xs := by
      rw [List.mem_append, List.mem_singleton]
      exact ⟨fun h => h.resolve_right e, .inl⟩
    simp only [this]
theorem Fm.below {zs ws : List Str} {qs : List (Str × Str)} {g g' : Str → Int} {m : Nat} (f : Fm zs ws g m) (s : Sol zs ws qs g') (le : ∀ x, g x ≤ g' x) : ∀ x, rz g (ws.take m) x ≤ g' x := fun x => by
  by_cases hx : x ∈ ws.take m
  · obtain ⟨j, hj⟩ := List.mem_iff_getElem?.mp hx
    rw [List.getElem?_take] at hj
    split at hj
    · rename_i hjm
      rcases f.at_ with h0 | ⟨y, hy, hf⟩
      · omega
      · have := s.up (m - 1) y hy (hf.mono le) j x (by omega) hj
        have := le x
        unfold rz
        rw [if_pos hx]
        omega
    · exact nomatch hj
  · rw [rz_out hx]
    exact le x
/-- the end: nothing was raised by ties behind what is forced -/
theorem Fm.sol {zs ws : List Str} {qs : List (Str × Str)} {g : Str → Int} {m : Nat} (f : Fm zs ws g m) (nd : ws.Nodup) (nn : ∀ x, 0 ≤ g x) (ed : ∀ q ∈ qs, 0 < rz g (ws.take m) q.1 → rz g (ws.take m) q.1 + gn zs ws q ≤ rz g (ws.take m) q.2) : Sol zs ws qs (rz g (ws.take m)) := by
  refine ⟨fun x => Int.le_trans (nn x) (rz_le _ _ _), fun i x hx hf j y hj hy => ?_, ed⟩
  have him : i < m := Nat.lt_of_not_le fun hle => by
    have hxn : x ∉ ws.take m := fun hm => by
      obtain ⟨k, hk⟩ := List.mem_iff_getElem?.mp hm
      rw [List.getElem?_take] at hk
      split at hk
      · have h1 := pos_at nd hx
        have h2 := pos_at nd hk
        omega
      · exact nomatch hk
    have : Fp zs ws g i x := hf.imp (fun z => by rw [rz_out hxn] at z; exact z) id
    have := f.all i x hx this
    omega
  refine rz_in (List.mem_iff_getElem?.mpr ⟨j, ?_⟩)
  rw [List.getElem?_take, if_pos (by omega)]
  exact hy
/-! ### how much is left to be raised -/
def room (zs : List Str) (U g : Str → Int) : Nat := (zs.map fun x => (U x - g x).toNat).sum
theorem room_le {U g g' : Str → Int} (le : ∀ x, g x ≤ g' x) : ∀ zs : List Str, room zs U g' ≤ room zs U g
  | [] => Nat.le_refl _
  | z :: r => by
    have h1 := room_le le r (U := U)
    have h2 := le z
    show (U z - g' z).toNat + room r U g' ≤ (U z - g z).toNat + room r U g
    omega
theorem room_lt {U g g' : Str → Int} (le : ∀ x, g x ≤ g' x) {v : Str} (hv : g v < g' v) (hU : g' v ≤ U v) : ∀ {zs : List Str}, v ∈ zs → room zs U g' < room zs U g
  | z :: r, h => by
    have h1 := room_le le r (U := U)
    have h2 := le z
    show (U z - g' z).toNat + room r U g' < (U z - g z).toNat + room r U g
    rcases List.mem_cons.mp h with e | e
    · subst e
      omega
    · have := room_lt le hv hU e
      omega
theorem setF_up {g : Str → Int} {v : Str} {x : Int} (h : g v ≤ x) : ∀ y, g y ≤ setF g v x y := fun y => by
  unfold setF
  split
  · rename_i e
    rw [e]
    exact h
  · exact Int.le_refl _
theorem setF_below {g g' : Str → Int} {v : Str} {x : Int} (le : ∀ y, g y ≤ g' y) (h : x ≤ g' v) : ∀ y, setF g v x y ≤ g' y := fun y => by
  unfold setF
  split
  · rename_i e
    rw [e]
    exact h
  · exact le y
/-- the numbers of goings: the least of all that do -/
structure Lst (zs ws : List Str) (qs : List (Str × Str)) (g : Str → Int) : Prop where
  sol : Sol zs ws qs g
  least : ∀ g', Sol zs ws qs g' → ∀ x, g x ≤ g' x
theorem Lst.few {zs ws : List Str} {qs : List (Str × Str)} {g h : Str → Int} (l : Lst zs ws qs g) (p : Pot zs ws qs h) : ∀ x ∈ zs, g x ≤ zs.length := fun x hx => by
  have h1 := l.least _ p.sol x
  have h2 := p.few x hx
  have h3 : g x ≤ 1 + h x := h1
  omega
theorem Lst.one {zs ws : List Str} {qs : List (Str × Str)} {g g' : Str → Int} (l : Lst zs ws qs g) (l' : Lst zs ws qs g') : g = g' := funext fun x => Int.le_antisymm (l.least _ l'.sol x) (l'.least _ l.sol x)
/-! ### the row of these -/
def layer (ws : List Str) (g : Str → Int) (k : Nat) : List Str := ws.reverse.filter fun x => decide ((k : Int) ≤ g x)
def rowOf (ws : List Str) (g : Str → Int) : Nat → List Str
  | 0 => []
  | n + 1 => layer ws g (n + 1) ++ rowOf ws g n
theorem layer_sub {ws : List Str} {g : Str → Int} {k : Nat} : ∀ x ∈ layer ws g k, x ∈ ws := fun x hx => List.mem_reverse.mp (List.mem_filter.mp hx).1
theorem rowOf_sub {ws : List Str} {g : Str → Int} : ∀ {n : Nat}, ∀ x ∈ rowOf ws g n, x ∈ ws
  | 0, x, hx => nomatch hx
  | n + 1, x, hx => (List.mem_append.mp hx).elim (layer_sub x) (rowOf_sub x)
theorem layer_len (ws : List Str) (g : Str → Int) (k : Nat) : (layer ws g k).length ≤ ws.length := by
  have := List.length_filter_le (fun x => decide ((k : Int) ≤ g x)) ws.reverse
  rw [List.length_reverse] at this
  exact this
theorem rowOf_len (ws : List Str) (g : Str → Int) : ∀ n, (rowOf ws g n).length ≤ n * ws.length
  | 0 => Nat.zero_le _
  | n + 1 => by
    have h1 := rowOf_len ws g n
    have h2 := layer_len ws g (n + 1)
    show (layer ws g (n + 1) ++ rowOf ws g n).length ≤ (n + 1) * ws.length
    rw [List.length_append, Nat.add_mul]
    omega
end HF
/-! refusals: own classes over a class of Python's own, with an __init__ that tells the base a text and keeps one field -/
namespace HF
open PySem PySem.Spec PyProof.Rows L2
structure XoC (K : PySem.W.Frag) (C : Addr) (B newId initId : String) (bmB : List Value) : Prop where
  base : ExcBaseFacts B newId initId bmB
  store : StoreFacts B bmB "object.__setattr__" "object"
  ini : PySem.W.excInitIn K C bmB newId = true
  over : PySem.W.excOver K C bmB = true
  hdi : PySem.W.hasDictIn K C = true
  sa : PySem.W.findIn K (.ref C) "__setattr__" = some (some (.builtin "object.__setattr__"))
  exC : PySem.W.subIn K (.ref C) (.type "BaseException") = some true
  tyC : PySem.W.typeIn K (.ref C) = some (.type "type")
  kC : PySem.W.keepIn K (.ref C) = true
section
variable {prog : Program} {w : World} {A : Around} {R : Result → Shared → Prop} {hp : Heap} {g : Array GenState} {d : Drawn} {t : Nat} {os : OsState} {K : PySem.W.Frag} {B newId initId : String} {bmB : List Value}
/-- the first field -/
theorem xosa {x C t1 : Addr} {name : Str} {tk : Tok} {v : Value} (T : XoC K C B newId initId bmB) (X : K.In hp) (hx : hp.get? x = some (PySem.HandSPX.excO C t1)) (no : PySem.W.findIn K (.ref C) name = some none)
    (hq : ∀ h2 tk2 dx, (∀ b o, b ≠ x → hp.get? b = some o → h2.get? b = some o) → hp.objs.size ≤ dx → dx ≠ x → h2.get? x = some { PySem.HandSPX.excO C t1 with dict := some dx } → h2.Ns1 dx (fun y => if y = name then some v else none) → R (.ok (.ret .none)) ⟨h2, g, d, tk2, os⟩) :
    codeAny (model prog w) A (.call (.builtin "object.__setattr__") ⟨[.ref x, .str name tk, v], []⟩) R ⟨hp, g, d, t, os⟩ := by
  have I : PySem.W.InstAt hp x (PySem.HandSPX.excO C t1) C none := ⟨hx, rfl, rfl, trivial⟩
  have far : x ≠ hp.objs.size := Nat.ne_of_lt (Heap.lt_size hx)
  have tkr : PySem.W.takerIn K C name = some none := by
    unfold PySem.W.takerIn
    rw [no]
    rfl
  obtain ⟨cd, hcd, hdct⟩ : ∃ cd, PySem.W.clsIn K C = some cd ∧ cd.hasDict = true := by
    have z := T.hdi
    unfold PySem.W.hasDictIn at z
    cases hc : PySem.W.clsIn K C with
    | none =>
      rw [hc] at z
      exact nomatch z
    | some cd =>
      rw [hc] at z
      exact ⟨cd, rfl, z⟩
  have lc : PySem.W.Looks (model prog w) hp (classData C) cd := PySem.W.looks_clsIn X hcd
  refine PySem.W.osa_openX T.store X I T.over tkr fun bb => ?_
  dsimp only
  obtain ⟨n1, n2, n3, n4, n5, n6, n7, n8, n9, n10, n11⟩ := cd
  dsimp only at hdct
  subst hdct
  unfold PySem.Builtin.ObjectAttr.storeInOwnDict PySem.Builtin.ObjectAttr.ownDictForStores
  repeat (first | with_reducible refine PySem.HandSPX.store_in_new ?_ ?_ | with_reducible refine wpAny_loadPart_at hx ?_ | with_reducible refine lc.at ?_ | wp_step)
  · exact ⟨_, #[], _, (Heap.get?_update_ne _ _ _ _ far.symm).trans (Heap.get?_push_at rfl rfl), rfl, fun e he => absurd he (by simp), fun _ => rfl⟩
  · intro h2 tk2 ns sb
    have hx1 : (hp.push { cls := .type "dict", data := .dict #[] }).get? x = some (PySem.HandSPX.excO C t1) := Heap.get?_push_of_some _ hx
    refine hq h2 tk2 hp.objs.size (fun b o hb ho => ?_) (Nat.le_refl _) far.symm ?_ ns
    · exact (sb.2 b (Nat.ne_of_lt (Heap.lt_size ho))).trans ((Heap.get?_update_ne _ _ _ _ hb).trans (Heap.get?_push_of_some _ ho))
    · exact (sb.2 x far).trans (Heap.get?_update_self _ hx1 rfl)
end
section
variable {X : Cx} {pins : List (Addr × Obj)} {σ : L2.St} {H : Hp} {s : Shared} {a C dx : Addr} {f : Str} {y : V} {u : Value} {E : Value → Shared → Prop} {A : Around} {B newId initId : String} {bmB : List Value}
/-- self.f = y on an exception without a dict as yet -/
theorem xst_new {Q : Unit → Shared → Prop} (T : XoC X.K C B newId initId bmB) (I : Inv X pins σ H s) (e : H a = some (exo a C none)) (no : PySem.W.findIn X.K (.ref C) f = some none) (ry : RelV y u)
    (q : ∀ dx s', H dx = none → dx ≠ a → Inv X pins σ (upd (upd H dx (exd dx [(f, y)])) a (exo a C (some dx))) s' → Q () s') : wpAny (model X.prog X.w) A (setAttr (.ref a) f u) Q E s := by
  obtain ⟨t1, ho⟩ := exo_at I.hok e
  obtain ⟨hp, g, d, t, os⟩ := s
  have plain : PySem.W.InstAt hp a (PySem.HandSPX.excO C t1) C none := ⟨ho, rfl, rfl, trivial⟩
  refine PySem.W.set_plain I.kIn plain T.sa (xosa T I.kIn ho no ?_)
  intro h2 tk2 dx kp big ne hx ns
  have bare : H dx = none := I.hok.fresh big
  have below : ∀ {b : Addr} {o : Obj}, hp.get? b = some o → b ≠ dx := fun z => Nat.ne_of_lt (Nat.lt_of_lt_of_le (Heap.lt_size z) big)
  have away : ∀ {b : Addr}, H b = none → b ≠ a := fun n z => by
    rw [z, e] at n
    exact nomatch n
  have un : Un X.fs [] H (upd (upd H dx (exd dx [(f, y)])) a (exo a C (some dx))) hp h2 :=
    { keep := fun b o z n _ _ => kp b o (away n) z
      slot := fun b o z n _ _ => ⟨o.slots, kp b o (away n) z⟩
      free := fun b o z n _ => (upd_ne (away n)).trans ((upd_ne (below z)).trans n)
      there := fun b o z _ => if hb : b = a then ⟨_, hb ▸ hx⟩ else ⟨o, kp b o hb z⟩
      tups := fun b xs z => (upd_ne (at_ne e z exo_tup)).trans ((upd_ne (ne_of_none z bare)).trans z)
      frzs := fun b o v z => (upd_ne (at_ne e z exo_frz)).trans ((upd_ne (ne_of_none z bare)).trans z)
      tbls := fun b ps z => ⟨#[], by rw [upd_ne (at_ne e z exo_tbl), upd_ne (ne_of_none z bare), z]; simp⟩ }
  refine q dx _ bare ne (I.un (t' := tk2) un fun b o z => ?_)
  by_cases ha : b = a
  · subst ha
    rw [upd_same] at z
    cases z
    exact exo_ok hx
  · rw [upd_ne ha] at z
    by_cases hd : b = dx
    · subst hd
      rw [upd_same] at z
      cases z
      exact exd_ok ns (relO_put (fs := []) ry fun g => True.intro)
    · rw [upd_ne hd] at z
      refine (I.hok b o z).stay (fun c v hc z2 => kp c v ?_ z2) (fun c hc => ?_) fun c xs hc => ?_
      · exact hc.elim (fun q2 => q2 ▸ ha) fun q2 => at_ne e q2 exo_own
      · exact (upd_ne (at_ne e hc exo_own)).trans ((upd_ne (ne_of_none hc bare)).trans hc)
      · exact (upd_ne (at_ne e hc exo_tup)).trans ((upd_ne (ne_of_none hc bare)).trans hc)
/-- B.__init__(self, ..) -/
theorem xinit {us : List Value} {Q : Value → Shared → Prop} (T : XoC X.K C B newId initId bmB) (I : Inv X pins σ H s) (e : H a = some (exo a C none)) (few : us.length ≤ sizeLine) (q : ∀ s', Inv X pins σ H s' → Q .none s') :
    wpAny (model X.prog X.w) A (call (.builtin initId) (.ref a :: us)) Q E s := by
  obtain ⟨c1, c2, c3, c4, c5, c6, c7, c8, c9, c10, c11, c12, c13, c14, c15, c16, hC, hT⟩ := PySem.W.excInit_of I.kIn T.ini
  obtain ⟨t1, ho⟩ := exo_at I.hok e
  obtain ⟨hp, g, d, t, os⟩ := s
  refine wpAny_call (PySem.HandSPX.init_base T.base hT hC ho few ?_)
  intro h2 t2 kp hx
  have J := I.write (t' := t) (x := a) (e := a) (o := exo a C none) (by rw [e]; exact True.intro) (.inl rfl) kp ⟨_, hx⟩ (exo_ok hx)
  have same : upd H a (exo a C none) = H := funext fun b => by
    by_cases hb : b = a
    · rw [hb, upd_same, e]
    · rw [upd_ne hb]
  rw [same] at J
  exact q _ J
end
/-- the readings -/
def tBI (K : PySem.W.Frag) (B newId initId : String) (bmB : List Value) (ta : TA) : TE := fun σ H Q => ta σ H fun vs H1 => ∃ (a C : Addr) (ws : List V), vs = .ref a :: ws ∧ ws.length ≤ 1000 ∧ XoC K C B newId initId bmB ∧ H1 a = some (exo a C none) ∧ Q .non H1
def tXst (K : PySem.W.Frag) (B newId initId : String) (bmB : List Value) (f : Str) (to te : TE) : TS := fun D σ H => te σ H fun y H1 => to σ H1 fun x H2 => ∃ a C : Addr, x = .ref a ∧ XoC K C B newId initId bmB ∧ PySem.W.findIn K (.ref C) f = some none ∧
  H2 a = some (exo a C none) ∧ ∀ dx, H2 dx = none → dx ≠ a → D.nx σ (upd (upd H2 dx (exd dx [(f, y)])) a (exo a C (some dx)))
section
variable {X : Cx} {o e : Expr} {es : List Expr} {to te : TE} {ta : TA} {f : Str} {p p' p1 p2 pos : Pos} {B newId initId : String} {bmB : List Value} {x : Str}
theorem pe_binit {pl : Sem Bool} (hg : Gl X x) (hm : X.mg x = none) (boot : bootBuiltins x = some (.type B)) (nn : x ≠ "__name__") (ndb : (x == ("__debug__" : Str)) = false) (ty : typeOf (.type B) = pure (.type "type")) (ns : Manifest.isStub B = false) (hin : PySem.W.handedIn (.builtin initId) = true)
    (vV : PySem.W.findCls X.K (.type B) (.type "type") "__init__" = some (.val (.builtin initId))) (ha : PA X (e :: es) ta)
    (hc : eval (.Call (.Attribute (.Name x p1) "__init__" p2) (e :: es) [] pos) X.env = (do
      let ov ← eval (.Name x p1) X.env
      standAt p2.atName
      let (f, first) ← holding [ov] (getMethod ov "__init__" pl)
      callWith pos f first (backTo pos (starEach (e :: es) X.env)) (backToKw pos (keywordEach [] X.env))) := by rfl)
    (he : starEach (e :: es) X.env = (false, eval e X.env) :: starEach es X.env := by rfl) (hpl : (backTo pos (starEach es X.env)).any (·.1) = false := by rfl) :
    PE X (.Call (.Attribute (.Name x p1) "__init__" p2) (e :: es) [] pos) (tBI X.K B newId initId bmB ta) := by
  refine ⟨fun pins st σ H Q I want => PySem.W.methodCall_KW (ld_blt I hg hm boot ?_ nn ndb) hc⟩
  obtain ⟨m, fr⟩ := I.fr
  refine PySem.W.method_type fr I.ok.mod.kin ty ns vV hin ?_
  show wpAny _ _ (callWith pos (Value.builtin initId) [] (backTo pos (starEach (e :: es) X.env)) []) _ _ _
  refine PyProof.Rows.callWith_method1 (thn (ha.run pos pins _ σ H _ (I.tok _) want) ?_) he hpl
  rintro us s1 ⟨vs, H1, J, rel, a, C, ws, rfl, few, T, ea, q⟩
  cases rel with
  | @cons _ u0 _ ur ra rr =>
    cases (show u0 = Value.ref a from ra)
    have hlen : ur.length ≤ sizeLine := by
      rw [← Paired.length rr, sizeLine_eq]
      omega
    exact xinit T J ea hlen fun s2 J2 => ⟨.non, H1, J2, rfl, q⟩
theorem ps_xst (ho : PE X o to) (he : PE X e te) (sw : swapsWith e (some (.Attribute o f p')) pos.line X.env = pure false := by rfl) : PS X (.Assign [.Attribute o f p'] e pos) (tXst X.K B newId initId bmB f to te) := by
  refine ⟨fun pins st σ H D I want => plainObj_wpAny_Assign_Attribute (thn (he.run pins st σ H _ I want) ?_) sw⟩
  rintro v s1 ⟨y, H1, J1, r1, q1⟩
  refine thn (ho.run pins s1 σ H1 _ J1 q1) ?_
  rintro u s2 ⟨z, H2, J2, r2, a, C, rfl, T, no, ea, q⟩
  cases (show u = Value.ref a from r2)
  exact xst_new T J2 ea no r1 fun dx s3 n ne J3 => ⟨σ, _, J3, q dx n ne⟩
/-- C(e, ..) -/
theorem pmk_x {CX : CXT} {C fI : Addr} {k : Nat} {fd : FuncData} {ps : List Str} {sp : Sp} {ds : List Value} {dvs : List V} (T : XoC X.K C B newId initId bmB) (iC : PySem.W.findIn X.K (.ref C) "__init__" = some (some (.ref fI))) (tI : PySem.W.typeIn X.K (.ref fI) = some (.type "function"))
    (F1 : FnOk X.prog X.w X.K X.mg X.base CX k fI fd ps sp) (hr : Room (k + 1) X.A) (hb : Binds X.K fd ps ds) (hd : Vals dvs ds) (hx : Passes CX X (fun _ _ _ => False)) (hg : Gl X x) (hm : X.mg x = some (.ref C)) (ha : PA X (e :: es) ta)
    (hdb : (x == ("__debug__" : Str)) = false := by decide) (he : starEach (e :: es) X.env = (false, eval e X.env) :: starEach es X.env := by rfl) (hpl : (backTo pos (starEach es X.env)).any (·.1) = false := by rfl) :
    PMk X (.Call (.Name x p) (e :: es) [] pos) (tMkO C sp dvs ta) := by
  intro pins st σ H Q I want
  refine wpAny_Call_Name_kw (ld_glob I hg hm (PySem.W.callWith_K (h₀ := X.base) I.ok.mod.kin T.kC (thn (ha.run pos pins st σ H _ I want) ?_) he hpl) hdb)
  rintro us s1 ⟨vs, H1, J, rel, few, q1⟩
  refine ⟨J.kIn, ?_⟩
  obtain ⟨c1, c2, c3, c4, c5, c6, c7, c8, c9, c10, c11, c12, c13, c14, c15, c16, hC, hT⟩ := PySem.W.excInit_of J.kIn T.ini
  show wpAny _ _ (call (.ref C) us) _ _ _
  obtain ⟨hp, g, dr, tk, os⟩ := s1
  have up1 : hp.objs.size ≤ hp.objs.size + 1 := Nat.le_succ _
  have hq := q1 (hp.objs.size + 1) (J.hok.fresh up1)
  have kk : ∀ b o, hp.get? b = some o → ((hp.push (PySem.W.kdv_tup us)).push (PySem.HandSPX.excO C hp.objs.size)).get? b = some o := fun b o z => Heap.get?_push_of_some _ (Heap.get?_push_of_some _ z)
  have made : ((hp.push (PySem.W.kdv_tup us)).push (PySem.HandSPX.excO C hp.objs.size)).get? (hp.objs.size + 1) = some (PySem.HandSPX.excO C hp.objs.size) := by heap_get
  have J2 : Inv X pins σ (upd H1 (hp.objs.size + 1) (exo (hp.objs.size + 1) C none)) ⟨(hp.push (PySem.W.kdv_tup us)).push (PySem.HandSPX.excO C hp.objs.size), g, dr, tk, os⟩ := J.laid (t' := tk) kk up1 (exo_ok made)
  have r2 : Vals (V.ref (hp.objs.size + 1) :: (vs ++ dvs)) (Value.ref (hp.objs.size + 1) :: (us ++ ds)) := .cons rfl (rel.append hd)
  have hl : (Value.ref (hp.objs.size + 1) :: us ++ ds).length = ps.length := by
    have z := r2.length
    rw [F1.len _ _ _ _ hq] at z
    exact z.symm
  have short : us.length ≤ sizeLine := by
    rw [← Paired.length rel, sizeLine_eq]
    omega
  refine wpAny_call (PySem.HandSPX.call_own T.base hT hC (PySem.W.looks_findIn J.kIn iC) (fun self => PySem.W.bind_fn J.kIn self tI) short (codeAny_mono (F1.run _ X.stack _ _ ⟨Value.ref (hp.objs.size + 1) :: us, []⟩ (Value.ref (hp.objs.size + 1) :: (us ++ ds)) _ _ (fun _ _ _ => False) (hr.make C us []) (J2.env0.make C us []) (hb _ (Value.ref (hp.objs.size + 1) :: us) J2.kIn hl) r2 hq) ?_))
  intro r s2 z
  cases r with
  | error er => exact hx pins σ _ _ er s2 J2 z
  | ok fl =>
    cases fl with
    | ret u =>
      obtain ⟨v, H2, os2, bare2, un2, hok2, rv, ev, dd, fs, ea, ed, nd1, q2⟩ := z
      subst ev
      obtain ⟨h2, g2, d2, t2, os3⟩ := s2
      exact ⟨rv, mk_end (raises_own T.exC T.tyC) J up1 kk un2 hok2 os2 bare2 ea ed nd1 q2⟩
    | next => exact z.elim
    | brk => exact z.elim
    | cont => exact z.elim
end
end HF
/-! a refusal caught by one of several classes, and kept -/
namespace HF
open PySem PySem.Spec PyProof.Rows L2
/-- an exception of the class cls that was caught: at a, its dict at d -/
def ExH (cls : Value) (d : Option Addr) (a : Addr) : HO := .ext fun h => ∃ oe vs, h.get? a = some oe ∧ Zc cls d oe ∧ oe.data = .fields vs
theorem exH_ok {P : Program} {w : World} {H : Hp} {h : Heap} {a : Addr} {cls : Value} {d : Option Addr} {oe : Obj} {vs : Array Value} (e : h.get? a = some oe) (z : Zc cls d oe) (hd : oe.data = .fields vs) : ObjOk P w H h a (ExH cls d a) := by
  refine ⟨⟨oe, vs, e, z, hd⟩, ⟨oe, e⟩, ?_⟩
  rintro h1 h2 ⟨o2, v2, e2, z2, d2⟩ k
  exact ⟨o2, v2, k _ e2, z2, d2⟩
theorem fly_keeps {Bs h h2 : Heap} {l : List Env} {a : Addr} {Z : Obj → Prop} (f : PySem.HandSPX.FlyingZ Bs l a Z h) (k : ∀ b o, h.get? b = some o → h2.get? b = some o) : PySem.HandSPX.FlyingZ Bs l a Z h2 := by
  obtain ⟨f1, f2, f3, oe, vs, T, oT, tt, e1, e2, e3, e4, e5, e6, e7, e8, e9⟩ := f
  refine ⟨fun b o z => k b o (f1 b o z), f2, f3.of_keeps fun b o z _ => ⟨o, k b o z, rfl⟩, oe, vs, T, oT, tt, k _ _ e1, e2, e3, e4, e5, e6, k _ _ e7, e8, e9⟩
theorem Inv.track {X : Cx} {pins : List (Addr × Obj)} {σ : L2.St} {H : Hp} {s : Shared} {a : Addr} {φ : Heap → Prop} (I : Inv X pins σ H s) (hn : H a = none) (h0 : X.s_0.heap.get? a = none) (nL : a ≠ X.env.locals)
    (nC : ∀ x c, X.env.cells.lookup x = some c → c ≠ a) (nP : ∀ p ∈ X.pn ++ pins, p.1 ≠ a) (new : ObjOk X.prog X.w (upd H a (.ext φ)) s.heap a (.ext φ)) : Inv X pins σ (upd H a (.ext φ)) s where
  ok := I.ok
  os := I.os
  bare := I.bare
  base :=
    { keep := I.base.keep
      slot := I.base.slot
      free := fun b o z n hx => by
        have ne : b ≠ a := fun e => by
          rw [e, h0] at z
          exact nomatch z
        rw [upd_ne ne]
        exact I.base.free b o z n hx
      there := I.base.there
      tups := fun b xs z => by
        have q := I.base.tups b xs z
        rw [upd_ne (ne_of_none q hn)]
        exact q
      frzs := fun b o u z => by
        have q := I.base.frzs b o u z
        rw [upd_ne (ne_of_none q hn)]
        exact q
      tbls := fun b ps z => by
        obtain ⟨more, q⟩ := I.base.tbls b ps z
        exact ⟨more, by rw [upd_ne (ne_of_none q hn)]; exact q⟩ }
  loc := I.loc
  cell := I.cell
  free := by
    rw [upd_ne nL.symm]
    exact I.free
  freeC := fun x c e => by
    rw [upd_ne (nC x c e)]
    exact I.freeC x c e
  pin := fun p hp => by
    obtain ⟨p1, p2, p3⟩ := I.pin p hp
    exact ⟨p1, by rw [upd_ne (nP p hp)]; exact p2, p3⟩
  hok := fun b o z => by
    by_cases e : b = a
    · subst e
      rw [upd_same] at z
      cases z
      exact new
    · rw [upd_ne e] at z
      exact (I.hok b o z).stay (fun _ _ _ q => q) (fun c hc => by rw [upd_ne (ne_of_none hc hn)]; exact hc) fun c xs hc => by rw [upd_ne (ne_of_none hc hn)]; exact hc
  len := I.len
/-- what the clause wishes: the exception stays, at a -/
def wHold (K : PySem.W.Frag) (Cs : List Addr) (i : Nat) (ts : Addr → Value → Option Addr → TS) (Wout : WX) (D : Ends) : WX := fun cls d σ H =>
  ∃ b, PySem.W.exmAny K cls (Cs.map Value.ref) = some b ∧
    (b = true → ∀ a, H a = none → ts a cls d { nx := fun τ G => D.nx (τ.set i none) (upd G a (ExH cls d a)), rt := fun _ _ => False, bk := fun _ _ => False, ct := fun _ _ => False } (σ.set i (some (.ref a))) H) ∧ (b = false → Wout cls d σ H)
section
variable {X : Cx} {n : Str} {i : Nat} {body suite : List Stmt} {b₀ : Stmt} {x1 : Nat} {np pos pos' : Pos} {tb : WX → TS} {ts : Addr → Value → Option Addr → TS} {Wout : WX} {n1 n2 n3 n4 : Str} {q1 q2 q3 q4 : Pos} {C1 C2 C3 C4 : Addr}
theorem ps_try_hold (top : X.stack = X.env :: X.outer) (frm : X.env.frame = some X.env.locals) (nd : X.N.Nodup) (hi : X.N[i]? = some n) (loc : X.env.kindOf n = some .local) (ex0 : X.ex = [])
    (g1 : Gl X n1) (m1 : X.mg n1 = some (.ref C1)) (g2 : Gl X n2) (m2 : X.mg n2 = some (.ref C2)) (g3 : Gl X n3) (m3 : X.mg n3 = some (.ref C3)) (g4 : Gl X n4) (m4 : X.mg n4 = some (.ref C4)) (tk : Takes X Wout)
    (hb : ∀ (W : WX) (pn : List (Addr × Obj)) (xe : Value → Shared → Prop), Takes (X.tr pn xe) W → PassesOwn (model X.prog X.w) X.A X.env xe → PSs (X.tr pn xe) body (tb W))
    (hsu : ∀ (a : Addr) (oe : Obj) (cls : Value) (d : Option Addr) (pn : List (Addr × Obj)), Zc cls d oe → (∃ vs, oe.data = .fields vs) → PSs (X.suite a ((a, oe) :: pn)) (b₀ :: suite) (ts a cls d))
    (d1 : (n1 == ("__debug__" : Str)) = false := by decide) (d2 : (n2 == ("__debug__" : Str)) = false := by decide) (d3 : (n3 == ("__debug__" : Str)) = false := by decide) (d4 : (n4 == ("__debug__" : Str)) = false := by decide) :
    PS X (.Try body [.ExceptHandler (some (.Tuple [.Name n1 q1, .Name n2 q2, .Name n3 q3, .Name n4 q4] x1 np)) (some n) (b₀ :: suite) pos'] [] [] pos) (fun D σ H => tb (wHold X.K [C1, C2, C3, C4] i ts Wout D) D σ H) := by
  refine ⟨fun pins st σ H D I want => ?_⟩
  have ok := I.ok
  have frs1 : X.A.frames = some (X.env :: X.outer) := by rw [ok.frames, top]
  refine wpAny_Try_except ?_
  refine wpAny_mono ((hb (wHold X.K [C1, C2, C3, C4] i ts Wout D) (X.pn ++ pins) (fun e u1 => wpAny (model X.prog X.w) X.A (noteFrame e X.env) (fun _ u2 => wpAny (model X.prog X.w) X.A (setFlight e none) (fun _ u3 =>
    wpAny (model X.prog X.w) X.A (handleBy e X.env [.ExceptHandler (some (.Tuple [.Name n1 q1, .Name n2 q2, .Name n3 q3, .Name n4 q4] x1 np)) (some n) (b₀ :: suite) pos']) (SP X pins D) X.xe u3) X.xe u2) X.xe u1) ?grab PassesOwn.looking).run [] st σ H D (I.toTry _) want) ?thru (fun e u he => he)
  case grab =>
    rintro u sx ⟨a, Bs, sI, pins2, σ2, H2, cls, d, rfl, JT, nb, up, sky, na, eos, ag, b, hb1, yes, no⟩
    have J : Inv X pins σ2 H2 sI := JT.ofTry ok
    have sky2 : Sky Bs (X.env :: X.outer) a (Zc cls d) X.env.locals sx.heap := by
      rw [← top]
      exact sky
    show wpAny (model X.prog X.w) X.A (noteFrame (.ref a) X.env) _ _ _
    refine Sky.land Zc.steady frs1 frm sky2 fun h3 fl3 up3 => ?_
    have J3 : Inv X pins σ2 H2 { sx with heap := h3 } := J.landed nb fl3.1 (up.trans up3) eos ag
    obtain ⟨oe3, vs3, he3, hz3, hd3⟩ := fl3.there
    have off : ∀ {h : Heap} {o : Obj} {vs : Array Value}, h.FunFrames Bs (X.env :: X.outer) → h.get? a = some o → o.data = .fields vs → a ∉ frs (X.env :: X.outer) := by
      intro h o vs ff e dd hm
      obtain ⟨_, o2, e2, bad⟩ := ff.mem hm
      rw [e] at e2
      cases e2
      exact bad _ dd
    have nfr := off fl3.2.2.1 he3 hd3
    have nL : a ≠ X.env.locals := fun z => nfr (List.mem_filterMap.mpr ⟨X.env, List.mem_cons_self, by rw [frm, z]⟩)
    have nF : a ∉ X.fs := fun hm => by
      obtain ⟨e, he, q⟩ := List.mem_filterMap.mp hm
      exact nfr (List.mem_filterMap.mpr ⟨e, List.mem_cons_of_mem _ he, q⟩)
    have bareB : Bs.get? a = none := fl3.2.1
    have gone : sI.heap.get? a = none := by
      cases e : sI.heap.get? a with
      | none => rfl
      | some o =>
        have z := nb a o e (by rw [top]; exact nfr)
        rw [bareB] at z
        exact nomatch z
    have gone0 : X.s_0.heap.get? a = none := by
      cases e : X.s_0.heap.get? a with
      | none => rfl
      | some o =>
        obtain ⟨o2, z⟩ := J.base.there a o e (by rw [ex0]; exact List.not_mem_nil)
        rw [gone] at z
        exact nomatch z
    have apart : ∀ p ∈ X.pn ++ pins, p.1 ≠ a := fun p hp z => by
      have q := (J.pin p hp).1
      rw [z, gone] at q
      exact nomatch q
    have S3 := J3.suite he3 hd3 na nL nF
    refine wpAny_handleBy_cons (codeAny_handlers_test ?_) (by intro q; cases q)
    have LT : PySem.W.Looks (model X.prog X.w) h3 (typeOf (.ref a)) cls := fun A Q E s k q => wpAny_typeOf_ref (k _ _ he3) (by rw [hz3.1]; exact q)
    have kp4 : ∀ b o, h3.get? b = some o → (h3.push { cls := .type "tuple", data := .seq [Value.ref C1, Value.ref C2, Value.ref C3, Value.ref C4].toArray }).get? b = some o := fun _ _ z => Heap.get?_push_of_some _ z
    have at4 : (h3.push { cls := .type "tuple", data := .seq [Value.ref C1, Value.ref C2, Value.ref C3, Value.ref C4].toArray }).get? h3.objs.size = some { cls := .type "tuple", data := .seq [Value.ref C1, Value.ref C2, Value.ref C3, Value.ref C4].toArray } := Heap.get?_push_size _ rfl
    refine wpAny_Tuple_spliced (PyProof.Rows.args_cons (ld_glob (X := X.suite a ((a, oe3) :: (X.pn ++ pins))) S3 g1 m1 ?_ d1))
    refine PyProof.Rows.args_cons (ld_glob (X := X.suite a ((a, oe3) :: (X.pn ++ pins))) S3 g2 m2 ?_ d2)
    refine PyProof.Rows.args_cons (ld_glob (X := X.suite a ((a, oe3) :: (X.pn ++ pins))) S3 g3 m3 ?_ d3)
    refine PyProof.Rows.args_cons (ld_glob (X := X.suite a ((a, oe3) :: (X.pn ++ pins))) S3 g4 m4 ?_ d4)
    refine PyProof.Rows.args_nil ⟨(by rw [sizeLine_eq]; exact (by decide : 4 ≤ 16777216)), ?_⟩
    generalize hh4 : h3.push { cls := .type "tuple", data := .seq [Value.ref C1, Value.ref C2, Value.ref C3, Value.ref C4].toArray } = h4 at *
    have fl4 := fly_keeps fl3 kp4
    have up4 : sI.heap.UpToSlots h4 := fun b o e hd => by
      obtain ⟨sl, z⟩ := (up.trans up3) b o e hd
      exact ⟨sl, kp4 _ _ z⟩
    have J4 : Inv X pins σ2 H2 { sx with heap := h4 } := J.landed nb fl4.1 up4 eos ag
    have LM := PySem.W.exm_tup4 (M := model X.prog X.w) (K := X.K) (tp := h3.objs.size) (e := a) J4.kIn (LT.keeps kp4) at4 hb1
    refine LM.here ?_
    cases b with
    | true =>
      refine codeAny_handlers_suite_as ?_
      refine PySem.HandSPX.lands_againZ fl4 fun h5 fl5 up5 => ?_
      have J5 : Inv X pins σ2 H2 { sx with heap := h5 } := J.landed nb fl5.1 (up4.trans up5) eos ag
      obtain ⟨oe5, vs5, he5, hz5, hd5⟩ := fl5.there
      have S5 := J5.suite he5 hd5 na nL nF
      refine store_ok (X := X.suite a ((a, oe5) :: (X.pn ++ pins))) (v := .ref a) S5 nd hi (.inl loc) rfl (fun s6 S6 => ?_) (.inr loc)
      refine wpAny_mono ((hsu a oe5 cls d (X.pn ++ pins) hz5 ⟨_, hd5⟩).run [] s6 _ H2 _ S6 (yes rfl a na)) (fun fl7 s7 hsp => ?_) (fun _ _ z => z.elim)
      cases fl7 with
      | next =>
        obtain ⟨σ7, H7, S7, q7⟩ := hsp
        obtain ⟨pa1, pa2, pa3, pa4, pa5⟩ := S7.pin (a, oe5) (List.mem_append_left _ List.mem_cons_self)
        have J7 : Inv X pins σ7 H7 s7 := S7.unsuite ok
        have cells : ∀ x c, X.env.cells.lookup x = some c → c ≠ a := fun x c e z => by
          obtain ⟨v, ov, w1, w2⟩ := J7.cell x c e
          rw [z, pa1] at w1
          cases w1
          exact pa5 _ w2
        have J8 : Inv X pins σ7 (upd H7 a (ExH cls d a)) s7 := Inv.track J7 pa2 gone0 nL cells apart (exH_ok pa1 hz5 hd5)
        exact gone_ok J8 nd hi loc fun s8 J9 => ⟨_, _, J9, q7⟩
      | brk =>
        obtain ⟨σ7, H7, S7, q7⟩ := hsp
        exact q7.elim
      | cont =>
        obtain ⟨σ7, H7, S7, q7⟩ := hsp
        exact q7.elim
      | ret v =>
        obtain ⟨y7, σ7, H7, S7, r7, q7⟩ := hsp
        exact q7.elim
    | false =>
      show wpAny _ X.A (handleBy (.ref a) X.env []) _ _ _
      refine wpAny_handleBy_nil ?_
      obtain ⟨k1, k2, k3, oe, vs, T, oT, tt, he, hz, hd, h1, hr⟩ := id fl4
      unfold PySem.passOn
      refine wpAny_bind (wpAny_field he hd h1 ?_)
      rw [if_neg (show ¬ ((Value.ref T == Value.none) = true) from by simp)]
      have out : wpAny (model X.prog X.w) X.A (setFlight (.ref a) X.env.frame) (fun _ u4 => wpAny (model X.prog X.w) X.A (throw (.ref a) : Sem Flow) (SP X pins D) X.xe u4) X.xe { sx with heap := h4 } := by
        rw [frm]
        refine PySem.HandSPX.setFlight_upZ fl4 fun h5 fh5 up5 => wpAny_throw (tk _ _ ?_)
        exact ⟨a, Bs, sI, pins, σ2, H2, cls, d, rfl, J, nb, up4.trans up5, .inr (.inr (by rw [top]; exact fh5)), na, eos, ag, no rfl⟩
      first
        | exact wpAny_bind (wpAny_pure (wpAny_bind out))
        | exact wpAny_bind out
  case thru =>
    intro f u hsp
    cases f with
    | next =>
      obtain ⟨τ, G, J, q⟩ := hsp
      exact wpAny_execs_nil ⟨τ, G, J.ofTry ok, q⟩
    | brk =>
      obtain ⟨τ, G, J, q⟩ := hsp
      exact ⟨τ, G, J.ofTry ok, q⟩
    | cont =>
      obtain ⟨τ, G, J, q⟩ := hsp
      exact ⟨τ, G, J.ofTry ok, q⟩
    | ret v =>
      obtain ⟨y, τ, G, J, r, q⟩ := hsp
      exact ⟨y, τ, G, J.ofTry ok, r, q⟩
end
end HF
namespace HF
open PySem PySem.Spec PyProof.Rows L2
/-- what isinstance and the reading of fields ask of a class -/
structure XIs (K : PySem.W.Frag) (C : Addr) : Prop where
  cl : (PySem.W.clsIn K C).isSome = true
  ga : PySem.W.findIn K (.ref C) "__getattribute__" = some (some (.builtin "BaseException.__getattribute__"))
  gg : PySem.W.findIn K (.ref C) "__getattr__" = some none
  ex : PySem.W.subIn K (.ref C) (.type "BaseException") = some true
  hd : PySem.W.hasDictIn K C = true
  ca : PySem.W.findIn K (.ref C) "__class__" = some (some (.builtin "object.__class__"))
  sg : PySem.W.specialIn K (.builtin "object.__class__") "__get__" = some (some (.builtin "getset_descriptor.__get__"))
  tk : PySem.W.takesIn K (.builtin "object.__class__") = some true
  ob : PySem.W.mroIn K C (.type "object") = some true
section
variable {X : Cx}
theorem held_inst {pins : List (Addr × Obj)} {σ : L2.St} {H : Hp} {s : Shared} {a C dd : Addr} {fs : List (Str × V)} (I : Inv X pins σ H s) (ha : H a = some (ExH (.ref C) (some dd) a)) (hd : H dd = some (.xd fs)) :
    ∃ (oe od : Obj) (mA : Str → Option Value), PySem.W.InstAt s.heap a oe C (some od) ∧ (∀ f, RelO (fs.lookup f) (mA f)) ∧ (∀ f, PySem.W.lookIn f od = some (mA f)) := by
  obtain ⟨⟨oe, vs, e1, z, e2⟩, _⟩ := (show ObjOk X.prog X.w H s.heap a (ExH (.ref C) (some dd) a) from I.hok a _ ha)
  obtain ⟨mA, ns, rel⟩ := (show ObjOk X.prog X.w H s.heap dd (.xd fs) from I.hok dd _ hd)
  obtain ⟨od, ho, hl⟩ := lookIn_ns ns
  refine ⟨oe, od, mA, ⟨e1, z.1, by unfold PySem.W.notCls; rw [e2] <;> rfl, by rw [z.2]; exact ho⟩, rel, hl⟩
def rIsX (K : PySem.W.Frag) : List V → Hp → VK → Prop := fun xs H Q => ∃ (a C dd : Addr) (fs : List (Str × V)) (c : V) (cv : Value) (b : Bool), xs = [.ref a, c] ∧ H a = some (ExH (.ref C) (some dd) a) ∧ H dd = some (.xd fs) ∧ XIs K C ∧ (∀ u, RelV c u → u = cv) ∧ PySem.W.kitOne K (.ref C) cv = some b ∧ Q (.bl b) H
theorem call_isX : CallR X (.builtin "isinstance") (rIsX X.K) := by
  intro pins s σ H xs us Q I rel hyp
  obtain ⟨a, C, dd, fs, c, cv, b, rfl, ha, hd, T, hc, e, q⟩ := hyp
  obtain ⟨u1, u2, rfl, r1, r2⟩ := vals2 rel
  cases r1
  cases hc _ r2
  obtain ⟨oe, od, mA, J, _, _⟩ := held_inst I ha hd
  exact PySem.W.kia_one (PySem.W.kitx_exc T.cl T.ga T.gg T.ex T.ca T.sg T.tk T.ob) I.kIn J e (fun z => nomatch z) fun tk => ⟨.bl b, H, I.kept (t' := tk) fun _ _ z => z, rfl, q⟩
def rIsXT (K : PySem.W.Frag) : List V → Hp → VK → Prop := fun xs H Q => ∃ (a t C dd : Addr) (fs : List (Str × V)) (cs : List Addr) (b : Bool), xs = [.ref a, .ref t] ∧ H a = some (ExH (.ref C) (some dd) a) ∧ H dd = some (.xd fs) ∧ XIs K C ∧ H t = some (.tup (cs.map V.ref)) ∧ PySem.W.kitAny K (.ref C) (cs.map Value.ref) = some b ∧ Q (.bl b) H
theorem call_isXT : CallR X (.builtin "isinstance") (rIsXT X.K) := by
  intro pins s σ H xs us Q I rel hyp
  obtain ⟨a, t, C, dd, fs, cs, b, rfl, ha, hd, T, ht, e, q⟩ := hyp
  obtain ⟨u1, u2, rfl, r1, r2⟩ := vals2 rel
  cases r1
  cases r2
  obtain ⟨oe, od, mA, J, _, _⟩ := held_inst I ha hd
  obtain ⟨its, rv, ⟨o, ho, hcl, n, hdat⟩, _⟩ := I.tuple (.inl (.inl ht) : SqT X.K H t (cs.map V.ref))
  have eits := refs_at rv
  subst eits
  obtain ⟨oc, odd, oda, osl⟩ := o
  dsimp only at hcl hdat
  subst hcl hdat
  exact PySem.W.kia_tup (PySem.W.kitx_exc T.cl T.ga T.gg T.ex T.ca T.sg T.tk T.ob) I.kIn J ho e (fun z => nomatch z) fun tk => ⟨.bl b, H, I.kept (t' := tk) fun _ _ z => z, rfl, q⟩
def tXfH (K : PySem.W.Frag) (f : Str) (te : TE) : TE := fun σ H Q => te σ H fun x H1 => ∃ (a C dd : Addr) (fs : List (Str × V)) (v : V), x = .ref a ∧ H1 a = some (ExH (.ref C) (some dd) a) ∧ H1 dd = some (.xd fs) ∧ fs.lookup f = some v ∧ XIs K C ∧ PySem.W.findIn K (.ref C) f = some none ∧ Q v H1
theorem pe_xfH {e : Expr} {te : TE} {pos : Pos} {f : Str} (he : PE X e te) (hb : attributeBase e f X.env (eval e X.env) = eval e X.env := by rfl) : PE X (.Attribute e f pos) (tXfH X.K f te) := by
  refine ⟨fun pins s σ H Q I want => attr_of hb (thn (he.run pins s σ H _ I want) ?_)⟩
  rintro u s1 ⟨x, H1, J1, rx, a, C, dd, fs, v, rfl, ha, hd, hl, T, no, q⟩
  cases (show u = Value.ref a from rx)
  obtain ⟨oe, od, mA, J, rel, look⟩ := held_inst J1 ha hd
  obtain ⟨u2, hu, ru⟩ := RelO.some_of (v := v) (o := mA f) (by rw [← hl]; exact rel f)
  exact PySem.HandSPX.exc_get J1.kIn J T.ga T.gg T.ex (PySem.W.findObj_own T.hd no rfl (by rw [look, hu])) (handed_of ru) ⟨v, H1, J1.tok _, ru, q⟩
end
end HF
namespace HF
open PySem PySem.Spec PyProof.Rows L2
/-! ### rising lists of texts -/
theorem srt_eq (xs : List Str) : srt xs = xs.mergeSort fun a b => decide (a.cps.toList ≤ b.cps.toList) := by
  unfold srt
  have e := PySem.W.dataLe_str (β := Str) id
  have e2 : PySem.W.dataLe false PyData.str = fun a b : Str => decide (a.cps.toList ≤ b.cps.toList) := e
  rw [e2]
theorem srt_rise (xs : List Str) : (srt xs).Pairwise fun a b => a.cps.toList ≤ b.cps.toList := by
  rw [srt_eq]
  refine (List.pairwise_mergeSort (le := fun a b : Str => decide (a.cps.toList ≤ b.cps.toList)) (fun a b c h1 h2 => ?_) (fun a b => ?_) xs).imp fun h => of_decide_eq_true h
  · exact decide_eq_true (List.le_trans (of_decide_eq_true h1) (of_decide_eq_true h2))
  · rcases List.le_total a.cps.toList b.cps.toList with h | h
    · simp [h]
    · simp [h]
theorem str_anti {a b : Str} (h1 : a.cps.toList ≤ b.cps.toList) (h2 : b.cps.toList ≤ a.cps.toList) : a = b := by
  have e := List.le_antisymm h1 h2
  obtain ⟨⟨x⟩⟩ := a
  obtain ⟨⟨y⟩⟩ := b
  have e2 : x = y := e
  rw [e2]
theorem rise_one : ∀ {xs ys : List Str}, xs.Perm ys → (xs.Pairwise fun a b => a.cps.toList ≤ b.cps.toList) → (ys.Pairwise fun a b => a.cps.toList ≤ b.cps.toList) → xs = ys
  | [], ys, p, _, _ => p.nil_eq
  | x :: xs, [], p, _, _ => p.symm.nil_eq.symm
  | x :: xs, y :: ys, p, h1, h2 => by
    obtain ⟨a1, a2⟩ := List.pairwise_cons.mp h1
    obtain ⟨b1, b2⟩ := List.pairwise_cons.mp h2
    have e : x = y := by
      rcases List.mem_cons.mp (p.mem_iff.mp List.mem_cons_self) with q | q
      · exact q
      · rcases List.mem_cons.mp (p.mem_iff.mpr (List.mem_cons_self (a := y))) with q2 | q2
        · exact q2.symm
        · exact str_anti (a1 y q2) (b1 x q)
    subst e
    rw [rise_one (List.Perm.cons_inv p) a2 b2]
theorem srt_filter (p : Str → Bool) (xs : List Str) : srt (xs.filter p) = (srt xs).filter p :=
  rise_one ((srt_perm _).trans ((srt_perm xs).filter p).symm) (srt_rise _) ((srt_rise xs).filter p)
/-! ### x not in a tuple, whatever x -/
section
variable {X : Cx}
def rNotInT (K : PySem.W.Frag) : R2 := fun x y H Q => ∃ d ds, Dp K H x d ∧ Dp K H y (.tuple ds) ∧ SeqAt.shaped d = true ∧ SeqAt.shaped (.tuple ds) = true ∧ Q (.bl (!ds.any fun z => PyData.eqv z d)) H
theorem op_notInT (hu : X.A.units + 65 < cLine) : OpR X (compareOp .NotIn) (rNotInT X.K) := by
  intro pins s σ H x y v u Q I rx ry hyp
  obtain ⟨d, ds, hd, he, sd, se, q⟩ := hyp
  obtain ⟨as, r1⟩ := Dp.reads I d x v hd rx
  obtain ⟨bs, r2⟩ := Dp.reads I (.tuple ds) y u he ry
  have deep : d.depth ≤ 64 := of_decide_eq_true (Bool.and_eq_true_iff.mp sd).2
  exact SeqAt.notIn_tuple_reads r2 r1 (SeqAt.canLay_of_shaped se) (SeqAt.canLay_of_shaped sd) (by have := Nat.min_le_right (PyData.depthAll ds) d.depth; omega) ⟨.bl _, H, I, rfl, q⟩
end
theorem eqv_strs (b : Str) (zs : List Str) : ((zs.map PyData.str).any fun z => PyData.eqv z (.str b)) = decide (b ∈ zs) := by
  induction zs with
  | nil => simp
  | cons z r ih =>
    rw [List.map_cons, List.any_cons, ih]
    show ((z == b) || decide (b ∈ r)) = decide (b ∈ z :: r)
    by_cases e : z = b
    · simp [e]
    · have e2 : ¬ b = z := fun q => e q.symm
      simp [e, e2]
theorem eqv_other {d : PyData} (h : ∀ b, d ≠ .str b) (zs : List Str) : ((zs.map PyData.str).any fun z => PyData.eqv z d) = false := by
  induction zs with
  | nil => rfl
  | cons z r ih =>
    rw [List.map_cons, List.any_cons, ih, Bool.or_false]
    cases d with
    | str b => exact absurd rfl (h b)
    | _ => rfl
theorem shp_tup {zs : List Str} (h : ∀ z ∈ zs, Nm z) : SeqAt.shaped (.tuple (zs.map PyData.str)) = true := by
  unfold SeqAt.shaped
  rw [show (PyData.tuple (zs.map PyData.str)).canLay0 = true from canLay_strs h]
  show (true && decide (PyData.depthAll (zs.map PyData.str) + 1 ≤ 64)) = true
  rw [depth_strs]
  rfl
/-! ### promises -/
def clsB : Stmt → List Stmt
  | .ClassDef _ _ _ body _ _ _ _ _ _ _ => body
  | _ => []
abbrev initOf (st : Stmt) : Stmt := (clsB st).getD 0 (.Pass ⟨0, 0, 0, 0⟩)
def spXI (C : Addr) (f : Str) : Sp := fun vs H Q _ => ∃ (a : Addr) (v : V), vs = [.ref a, v] ∧ H a = some (exo a C none) ∧ ∀ dx, H dx = none → dx ≠ a → Q .non (upd (upd H dx (exd dx [(f, v)])) a (exo a C (some dx)))
variable (K : PySem.W.Frag)
/-- where the heap has such a book or not, and may it go -/
def spLaidX (CN CM : Addr) : Sp := fun vs H Q E => ∃ (h r : Addr) (v : V) (d : PyData) (zs : List Str) (qs : List (Str × Str)), vs = [.ref h, .ref r, v] ∧ Tp H h (zs.map V.str) ∧ PqA K H r qs ∧ Dp K H v d ∧ SeqAt.shaped d = true ∧ (∀ z ∈ zs, Nm z) ∧ zs.length ≤ 1000 ∧ qs.length ≤ 400 ∧
  ((∃ b, d = .str b ∧ b ∈ zs ∧ ((lets qs zs b = true ∧ ∀ (H' : Hp) (t : Addr), Same H H' → H t = none → Tp H' t ((onTop b zs).map V.str) → Q (.ref t) H') ∨ (lets qs zs b = false ∧ ∀ (H' : Hp) (dd : Addr), Same H H' → H' dd = some (.xd [(("book" : Str), v)]) → E (.ref CM) (some dd) H'))) ∨
    ((∀ b, d = .str b → b ∉ zs) ∧ ∀ (H' : Hp) (dd : Addr), Same H H' → H' dd = some (.xd [(("book" : Str), v)]) → E (.ref CN) (some dd) H'))
def spTold : Sp := fun vs H Q _ => ∃ (h r : Addr) (v : V) (d : PyData) (zs : List Str) (qs : List (Str × Str)), vs = [.ref h, .ref r, v] ∧ Tp H h (zs.map V.str) ∧ PqA K H r qs ∧ Dp K H v d ∧ SeqAt.shaped d = true ∧ (∀ z ∈ zs, Nm z) ∧ zs.length ≤ 1000 ∧ qs.length ≤ 400 ∧
  ((∃ b, d = .str b ∧ b ∈ zs ∧ ((lets qs zs b = true ∧ ∀ (H' : Hp) (t : Addr), Same H H' → Tp H' t ((onTop b zs).map V.str) → Q (.ref t) H') ∨ (lets qs zs b = false ∧ ∀ (H' : Hp) (l : Addr), Same H H' → H' l = some (.lst [.str "may not", v]) → Q (.ref l) H'))) ∨
    ((∀ b, d = .str b → b ∉ zs) ∧ ∀ (H' : Hp) (l : Addr), Same H H' → H' l = some (.lst [.str "none", v]) → Q (.ref l) H'))
def spMayGo : Sp := fun vs H Q _ => ∃ (h r : Addr) (zs : List Str) (qs : List (Str × Str)), vs = [.ref h, .ref r] ∧ Hq K H h zs ∧ PqA K H r qs ∧ zs.length ≤ 1000 ∧ qs.length ≤ 400 ∧
  ∀ (H' : Hp) (l : Addr), Same H H' → H l = none → H' l = some (.lst ((srt (zs.filter (lets qs zs))).map V.str)) → Q (.ref l) H'
def spStrange : Sp := fun vs H Q _ => ∃ (h : Addr) (zs : List Str), vs = [.ref h] ∧ Tp H h (zs.map V.str) ∧ zs.length ≤ 12 ∧
  ∀ (H' : Hp) (x : Str), Same H H' → x ∉ zs → Nm x → Q (.str x) H'
end HF
namespace HF
open PySem PySem.Spec PyProof.Rows L2
/-- three values by name, turned about -/
def g321 {α : Type} : List α → List α → List α
  | [], [r, h, u] => [u, h, r]
  | _, _ => []
theorem g321_rel {vs : List V} {us : List Value} {zs : List V} {ws : List Value} (h1 : Vals vs us) (h2 : Vals zs ws) : Vals (g321 vs zs) (g321 us ws) := by
  cases h1 with
  | nil =>
    cases h2 with
    | nil => exact .nil
    | cons a t =>
      cases t with
      | nil => exact .nil
      | cons b t2 =>
        cases t2 with
        | nil => exact .nil
        | cons c t3 =>
          cases t3 with
          | nil => exact .cons c (.cons b (.cons a .nil))
          | cons d t4 => exact .nil
  | cons a t =>
    exact .nil
/-- how the four refusals stand to one another -/
structure Kin (K : PySem.W.Frag) (CB CM CN CU : Addr) : Prop where
  xN : PySem.W.exmAny K (.ref CN) [.ref CB, .ref CM, .ref CN, .ref CU] = some true
  xM : PySem.W.exmAny K (.ref CM) [.ref CB, .ref CM, .ref CN, .ref CU] = some true
  nn : PySem.W.kitOne K (.ref CN) (.ref CN) = some true
  nl : PySem.W.kitOne K (.ref CN) (.type "LookupError") = some true
  nt : PySem.W.kitAny K (.ref CN) [.ref CM, .ref CU] = some false
  mn : PySem.W.kitOne K (.ref CM) (.ref CN) = some false
  mm : PySem.W.kitOne K (.ref CM) (.ref CM) = some true
  mr : PySem.W.kitOne K (.ref CM) (.type "RuntimeError") = some true
  mt : PySem.W.kitAny K (.ref CM) [.ref CB, .ref CN] = some false
end HF
/-! one of two readings; loops and comprehensions over lists or tuples -/
namespace HF
open PySem PySem.Spec PyProof.Rows L2
section
variable {X : Cx}
def oE (a b : TE) : TE := fun σ H Q => a σ H Q ∨ b σ H Q
def oI (a b : TI) : TI := fun σ H R => a σ H R ∨ b σ H R
def oG (a b : TG) : TG := fun v σ H Q => a v σ H Q ∨ b v σ H Q
theorem pe_or2 {e : Expr} {t1 t2 : TE} (h1 : PE X e t1) (h2 : PE X e t2) : PE X e (oE t1 t2) := ⟨fun pins s σ H Q I h => h.elim (h1.run pins s σ H Q I) (h2.run pins s σ H Q I)⟩
theorem pi_or2 {tg e : Expr} {t1 t2 : TI} (h1 : PI X tg e t1) (h2 : PI X tg e t2) : PI X tg e (oI t1 t2) := ⟨fun pins s σ H R I h => h.elim (h1.run pins s σ H R I) (h2.run pins s σ H R I)⟩
theorem pg_or2 {tg : Expr} {t1 t2 : TG} (h1 : PG X tg t1) (h2 : PG X tg t2) : PG X tg (oG t1 t2) := ⟨fun pins s σ H v u Q I r h => h.elim (h1.run pins s σ H v u Q I r) (h2.run pins s σ H v u Q I r)⟩
theorem pi_en {X : Cx} {e : Expr} {ta : TA} {p pos tpos : Pos} {elts : List Expr} {kk : Nat} (hg : Gl X "enumerate") (hm : X.mg "enumerate" = none) (ha : PA X [e] ta) (hs : starEach [e] X.env = [(false, eval e X.env)] := by rfl) : PI X (.Tuple elts kk tpos) (.Call (.Name "enumerate" p) [e] [] pos) (oI (iEnum X.K ta) (iEnT X.K ta)) := pi_or2 (pi_enum hg hm ha hs) (pi_enT hg hm ha hs)
theorem pi_sq {tg e : Expr} {t : TE} (h : PE X e t) : PI X tg e (oI (iList X.K t) (iTup X.K t)) := pi_or2 (pi_list h) (pi_tup h)
end
/-- what stands at a stays -/
def Kp (K : PySem.W.Frag) (a : Addr) (H H' : Hp) : Prop := (∀ xs, SqL K H a xs → SqL K H' a xs) ∧ (∀ xs, SqT K H a xs → SqT K H' a xs)
theorem Kp.of {K : PySem.W.Frag} {a : Addr} {H H' : Hp} (sm : Same H H') : Kp K a H H' := ⟨fun _ h => sm.seq h, fun _ h => sameT sm h⟩
theorem Kp.oth {K : PySem.W.Frag} {a p : Addr} {H H' : Hp} (o : Oth p H H') (n : a ≠ p) : Kp K a H H' := ⟨fun _ h => o.seq n h, fun _ h => o.sqT n h⟩
theorem for_seq {K : PySem.W.Frag} {k : Nat} {a : Addr} {xs : List V} {g : TG} {tb : TS} {D : Ends} {σ : L2.St} {H H0 : Hp} (hv : σ[k]? = some (some (.ref a))) (hq : Sq K H0 a xs) (Pv : Nat → L2.St → Hp → Prop) (h0 : Pv 0 σ H) (hl : ∀ i σ H', i ≤ xs.length → Pv i σ H' → Kp K a H0 H')
    (hs : ∀ i x σ H, xs[i]? = some x → Pv i σ H → g x σ H fun σ2 H2 => tb { D with nx := Pv (i + 1), ct := Pv (i + 1), bk := D.nx } σ2 H2) (hd : ∀ σ H, Pv xs.length σ H → D.nx σ H) :
    tFor (oI (iList K (tVar k)) (iTup K (tVar k))) g tb D σ H := by
  have kp := hl 0 σ H (Nat.zero_le _) h0
  rcases hq with hq | hq
  · exact .inl ⟨.ref a, hv, a, rfl, ⟨_, kp.1 _ hq⟩, for_list (xs := xs) Pv h0 (fun i σ H' hi p => (hl i σ H' hi p).1 _ hq) hs hd⟩
  · exact .inr ⟨.ref a, hv, a, rfl, ⟨_, kp.2 _ hq⟩, for_tup (xs := xs) Pv h0 (fun i σ H' hi p => (hl i σ H' hi p).2 _ hq) hs hd⟩
theorem for_enum {K : PySem.W.Frag} {k : Nat} {a : Addr} {xs : List V} {g : TG} {tb : TS} {D : Ends} {σ : L2.St} {H H0 : Hp} (hv : σ[k]? = some (some (.ref a))) (hq : Sq K H0 a xs) (Pv : Nat → L2.St → Hp → Prop) (h0 : Pv 0 σ H) (hl : ∀ i σ H', i ≤ xs.length → Pv i σ H' → Kp K a H0 H')
    (hs : ∀ (i : Nat) (x : V) (σ : L2.St) (H : Hp) (T : Addr), xs[i]? = some x → Pv i σ H → H T = none → g (.ref T) σ (upd H T (.tup [.int (i : Nat), x])) fun σ2 H2 => tb { D with nx := Pv (i + 1), ct := Pv (i + 1), bk := D.nx } σ2 H2) (hd : ∀ σ H, Pv xs.length σ H → D.nx σ H) :
    tFor (oI (iEnum K (tCons (tVar k) tNil)) (iEnT K (tCons (tVar k) tNil))) g tb D σ H := by
  have kp := hl 0 σ H (Nat.zero_le _) h0
  have st : ∀ i x σ H H', i < xs.length → Pv i σ H → YPair (fun i => some (.int (i : Nat))) (fun i => xs[i]?) i H x H' → g x σ H' fun σ2 H2 => tb { D with nx := Pv (i + 1), ct := Pv (i + 1), bk := D.nx } σ2 H2 := by
    rintro i x σ H H' hi p ⟨T, u, v, rfl, nT, rfl, hu, hv2⟩
    cases (show some (V.int (i : Nat)) = some u from hu)
    exact hs i v σ H T hv2 p nT
  rcases hq with hq | hq
  · exact .inl ⟨.ref a, hv, a, _, rfl, kp.1 _ hq, for_it (walk_enum (xs := xs)) Pv h0 (fun i σ H' hi p => (hl i σ H' hi p).1 _ hq) st hd⟩
  · exact .inr ⟨.ref a, hv, a, _, rfl, kp.2 _ hq, for_it (walk_enT (xs := xs)) Pv h0 (fun i σ H' hi p => (hl i σ H' hi p).2 _ hq) st hd⟩
theorem same_put {H H1 : Hp} {D : Addr} {o : HO} (s : Same H H1) (nD : H D = none) : Same H (upd H1 D o) := fun z u ez => by
  rw [upd_ne (ne_of_none ez nD)]
  exact s _ _ ez
theorem fm_snoc {out : Nat → Option V} (i : Nat) : (List.range (i + 1)).filterMap out = (List.range i).filterMap out ++ (out i).toList := by
  have e : [i].filterMap out = (out i).toList := by
    cases h : out i with
    | none => simp [h]
    | some y => simp [h]
  rw [List.range_succ, List.filterMap_append, e]
theorem fm_len {out : Nat → Option V} (i : Nat) : ((List.range i).filterMap out).length ≤ i := by
  have := List.length_filterMap_le out (List.range i)
  rwa [List.length_range] at this
/-- a comprehension whose parts change nothing, whatever is walked -/
theorem lc_w {J : It} {n : Nat} {G : Hp → Prop} {Y : Nat → Hp → V → Hp → Prop} (wk : Walk J n G Y) {g : TG} {tt : TT} {te : TE} {vs : List Nat} {σ : L2.St} {H : Hp} {D : Addr} {Qd : Hp → Prop} (nD : H D = none) (few : n ≤ 100000)
    (hG : ∀ H', Same H H' → G H') (hY : ∀ i x H1 H2, i < n → Same H H1 → Y i H1 x H2 → Same H1 H2) (out : Nat → Option V)
    (hs : ∀ i x H1 H2, i < n → Same H H1 → Y i H1 x H2 → ∀ (T : V → Hp → Prop) (F : Hp → Prop), (∀ y H4, Same H2 H4 → out i = some y → T y H4) → (∀ H3, Same H2 H3 → out i = none → F H3) →
      g x (wipe σ vs) H2 fun σ2 H5 => wipe σ2 vs = wipe σ vs ∧ tt σ2 H5 fun b H3 => if b = true then te σ2 H3 T else F H3)
    (hd : ∀ H', Same H H' → H' D = some (.lst ((List.range n).filterMap out)) → Qd H') :
    ∃ W : Nat → Nat → Hp → Prop, (∃ m, W 0 m (upd H D (.lst []))) ∧ ∀ i m H, W i m H →
      (J.stop i H ∧ Qd H) ∨ (J.go i H ∧ ∃ Nx : Hp → Prop, (∀ H', Nx H' → ∃ m', m' < m ∧ W (i + 1) m' H') ∧ ∀ x H', J.yld i H x H' → g x (wipe σ vs) H' fun σ2 H2 => wipe σ2 vs = wipe σ vs ∧ tt σ2 H2 fun b H3 =>
        if b = true then te σ2 H3 fun y H4 => ∃ acc, H4 D = some (.lst acc) ∧ acc.length < sizeLine ∧ Nx (upd H4 D (.lst (acc ++ [y]))) else Nx H3) := by
  refine lc_it wk (fun i H4 => H4 D = some (.lst ((List.range i).filterMap out)) ∧ Same H H4) ⟨upd_same, same_upd nD⟩ (fun i H4 _ h => hG _ h.2) ?_ (fun H4 h => hd _ h.2 h.1)
  rintro i x H4 H5 hi ⟨hD, s4⟩ hy
  have s5 := hY i x H4 H5 hi s4 hy
  refine hs i x H4 H5 hi s4 hy _ _ (fun y H6 s6 ho => ?_) (fun H6 s6 ho => ?_)
  · refine ⟨_, s6 _ _ (s5 _ _ hD), ?_, ?_, same_put ((s4.trans s5).trans s6) nD⟩
    · have := fm_len (out := out) i
      rw [sizeLine_eq]
      omega
    · rw [upd_same, fm_snoc, ho]
      rfl
  · refine ⟨?_, (s4.trans s5).trans s6⟩
    rw [s6 _ _ (s5 _ _ hD), fm_snoc, ho]
    simp
theorem fm_map {α : Type} {f : α → Option V} {out : Nat → Option V} : ∀ {zs : List α}, (∀ i z, zs[i]? = some z → out i = f z) → (List.range zs.length).filterMap out = zs.filterMap f := by
  intro zs h
  have e : (List.range zs.length).filterMap out = (List.range zs.length).filterMap fun i => (zs[i]?).bind f := by
    refine fm_congr fun i hi => ?_
    have hl := List.mem_range.mp hi
    rw [List.getElem?_eq_getElem hl, h i _ (List.getElem?_eq_getElem hl)]
    rfl
  rw [e]
  clear e h
  induction zs with
  | nil => rfl
  | cons z r ih =>
    rw [List.length_cons, List.range_succ_eq_map, List.filterMap_cons]
    have e2 : (List.map Nat.succ (List.range r.length)).filterMap (fun i => ((z :: r)[i]?).bind f) = (List.range r.length).filterMap fun i => (r[i]?).bind f := by
      rw [List.filterMap_map]
      rfl
    rw [e2, ih, List.filterMap_cons]
    rfl
/-- over a list or a tuple of what xs says, parts that change nothing -/
theorem lc_seq {K : PySem.W.Frag} {k : Nat} {a : Addr} {α : Type} {zs : List α} {emb : α → V} {g : TG} {tt : TT} {te : TE} {vs : List Nat} {σ : L2.St} {H : Hp} {Q : VK} (f : α → Option V) (hv : σ[k]? = some (some (.ref a))) (hq : Sq K H a (zs.map emb)) (few : zs.length ≤ 100000)
    (hs : ∀ (i : Nat) (z : α) (H2 : Hp), zs[i]? = some z → Same H H2 → ∀ (T : V → Hp → Prop) (F : Hp → Prop), (∀ y H4, Same H2 H4 → f z = some y → T y H4) → (∀ H3, Same H2 H3 → f z = none → F H3) →
      g (emb z) (wipe σ vs) H2 fun σ2 H5 => wipe σ2 vs = wipe σ vs ∧ tt σ2 H5 fun b H3 => if b = true then te σ2 H3 T else F H3)
    (hd : ∀ D H', H D = none → Same H H' → H' D = some (.lst (zs.filterMap f)) → Q (.ref D) H') :
    tLc (oI (iList K (tVar k)) (iTup K (tVar k))) g tt te vs σ H Q := by
  have fl : (zs.map emb).length ≤ 100000 := by rw [List.length_map]; exact few
  have ho : ∀ (i : Nat) (z : α), zs[i]? = some z → (fun i : Nat => (zs[i]?).bind f) i = f z := fun i z h => by
    show (zs[i]?).bind f = f z
    rw [h]
    rfl
  have tl : (List.range (zs.map emb).length).filterMap (fun i : Nat => (zs[i]?).bind f) = zs.filterMap f := by
    rw [List.length_map]
    exact fm_map ho
  have st : ∀ i x H1 H2, i < (zs.map emb).length → Same H H1 → (H2 = H1 ∧ (zs.map emb)[i]? = some x) → ∀ (T : V → Hp → Prop) (F : Hp → Prop), (∀ y H4, Same H2 H4 → (fun i : Nat => (zs[i]?).bind f) i = some y → T y H4) → (∀ H3, Same H2 H3 → (fun i : Nat => (zs[i]?).bind f) i = none → F H3) →
      g x (wipe σ vs) H2 fun σ2 H5 => wipe σ2 vs = wipe σ vs ∧ tt σ2 H5 fun b H3 => if b = true then te σ2 H3 T else F H3 := by
    rintro i x H1 H2 hi s1 ⟨rfl, hx⟩ T F hT hF
    rw [List.getElem?_map] at hx
    obtain ⟨z, hz, rfl⟩ := Option.map_eq_some_iff.mp hx
    exact hs i z _ hz s1 T F (fun y H4 s4 e => hT y H4 s4 ((ho i z hz).trans e)) (fun H3 s3 e => hF H3 s3 ((ho i z hz).trans e))
  rcases hq with hq | hq
  · refine .inl ⟨.ref a, hv, a, rfl, ⟨_, hq⟩, fun D nD => lc_w (walk_list (xs := zs.map emb)) nD fl (fun H' s => s.seq hq) (fun i x H1 H2 _ _ y => by rw [y.1]; exact Same.refl _) _ st (fun H' s hD => hd D H' nD s (by rw [← tl]; exact hD))⟩
  · refine .inr ⟨.ref a, hv, a, rfl, ⟨_, hq⟩, fun D nD => lc_w (walk_tup (xs := zs.map emb)) nD fl (fun H' s => sameT s hq) (fun i x H1 H2 _ _ y => by rw [y.1]; exact Same.refl _) _ st (fun H' s hD => hd D H' nD s (by rw [← tl]; exact hD))⟩
theorem asg_lc {wi : TI} {g : TG} {tt : TT} {te : TE} {vs : List Nat} {i : Nat} {b : TS} {D : Ends} {σ : L2.St} {H : Hp} (h : tLc wi g tt te vs σ H (fun v H1 => b D (σ.set i (some v)) H1)) : tSeq (tAsg (tLc wi g tt te vs) (gName i)) b D σ H := h
theorem fm_filter {α : Type} (p : α → Bool) (emb : α → V) (zs : List α) : zs.filterMap (fun z => if p z = true then some (emb z) else none) = (zs.filter p).map emb := by
  induction zs with
  | nil => rfl
  | cons z r ih =>
    by_cases e : p z = true
    · rw [List.filterMap_cons, if_pos e, List.filter_cons_of_pos e, List.map_cons, ih]
    · rw [List.filterMap_cons, if_neg e, List.filter_cons_of_neg e, ih]
theorem fm_all {α : Type} (f : α → V) (zs : List α) : zs.filterMap (fun z => some (f z)) = zs.map f := by
  induction zs with
  | nil => rfl
  | cons z r ih => rw [List.filterMap_cons, List.map_cons, ih]
section
variable {X : Cx}
/-- tuple(x), x a heap told as a list or as a tuple -/
def rTupQ (K : PySem.W.Frag) : List V → Hp → VK → Prop := fun us H Q => ∃ (h : Addr) (zs : List Str), us = [.ref h] ∧ Hq K H h zs ∧ ∀ (H' : Hp) (t : Addr), Same H H' → Tp H' t (zs.map V.str) → Q (.ref t) H'
theorem call_tupQ : CallR X (.type "tuple") (rTupQ X.K) := by
  intro pins s σ H xs us Q I rel hyp
  obtain ⟨h, zs, rfl, hq, q⟩ := hyp
  rcases hq with hq | hq
  · exact call_tupleF pins s σ H _ us Q I rel ⟨h, _, rfl, hq, fun l ob nl e1 e2 => q _ l (same_upd nl) ⟨ob, upd_same, e1, e2⟩⟩
  · exact call_tupleT pins s σ H _ us Q I rel ⟨h, _, rfl, hq.sq, q _ h (Same.refl _) hq⟩
end
theorem Hq.sq {K : PySem.W.Frag} {H : Hp} {a : Addr} {zs : List Str} (h : Hq K H a zs) : Sq K H a (zs.map V.str) := h.imp id fun z => z.sq
theorem drop_at {α : Type} {x : α} : ∀ {l : List α} {i : Nat}, l[i]? = some x → l.drop i = x :: l.drop (i + 1)
  | y :: r, 0, h => by
    cases (show some y = some x from h)
    rfl
  | y :: r, i + 1, h => drop_at (l := r) (i := i) h
/-! ### rows of anything -/
def outD (qs : List (Str × Str)) : List Str → List PyData → PyData
  | zs, [] => .tuple (zs.map PyData.str)
  | zs, d :: r => match d with
    | .str b => if b ∈ zs then (if lets qs zs b = true then outD qs (onTop b zs) r else .list [.str "may not", .str b]) else .list [.str "none", .str b]
    | _ => .list [.str "none", d]
theorem outD_go {qs : List (Str × Str)} {zs : List Str} {b : Str} {r : List PyData} (h : b ∈ zs) (hl : lets qs zs b = true) : outD qs zs (.str b :: r) = outD qs (onTop b zs) r := by
  show (if b ∈ zs then (if lets qs zs b = true then outD qs (onTop b zs) r else .list [.str "may not", .str b]) else .list [.str "none", .str b]) = _
  rw [if_pos h, if_pos hl]
theorem outD_not {qs : List (Str × Str)} {zs : List Str} {b : Str} {r : List PyData} (h : b ∈ zs) (hl : ¬ lets qs zs b = true) : outD qs zs (.str b :: r) = .list [.str "may not", .str b] := by
  show (if b ∈ zs then (if lets qs zs b = true then outD qs (onTop b zs) r else .list [.str "may not", .str b]) else .list [.str "none", .str b]) = _
  rw [if_pos h, if_neg hl]
theorem outD_none {qs : List (Str × Str)} {zs : List Str} {d : PyData} {r : List PyData} (h : ∀ b, d = .str b → b ∉ zs) : outD qs zs (d :: r) = .list [.str "none", d] := by
  cases d with
  | str b =>
    show (if b ∈ zs then (if lets qs zs b = true then outD qs (onTop b zs) r else .list [.str "may not", .str b]) else .list [.str "none", .str b]) = _
    rw [if_neg (h b rfl)]
  | _ => rfl
theorem outD_lay {qs : List (Str × Str)} : ∀ {ds : List PyData} {zs : List Str}, (∀ z ∈ zs, Nm z) → zs.Nodup → (∀ d ∈ ds, d.canLay0 = true ∧ d.depth ≤ 1 ∧ wide d ≤ 100) → zs.length ≤ 100 → (outD qs zs ds).canLay0 = true ∧ (outD qs zs ds).depth ≤ 2 ∧ wide (outD qs zs ds) ≤ 100
  | [], zs, hn, _, _, hl => by
    refine ⟨canLay_strs hn, ?_, ?_⟩
    · show PyData.depthAll (zs.map PyData.str) + 1 ≤ 2
      rw [depth_strs]
      decide
    · show max (zs.map PyData.str).length (wideAll (zs.map PyData.str)) ≤ 100
      rw [wide_strs, List.length_map]
      omega
  | d :: r, zs, hn, hnd, hd, hl => by
    have two : ∀ {s : Str} {e : PyData}, (PyData.str s).canLay0 = true → e.canLay0 = true → e.depth ≤ 1 → wide e ≤ 100 → (PyData.list [.str s, e]).canLay0 = true ∧ (PyData.list [.str s, e]).depth ≤ 2 ∧ wide (PyData.list [.str s, e]) ≤ 100 := fun {s e} h0 h1 h2 h3 => by
      refine ⟨?_, ?_, ?_⟩
      · show ((PyData.str s).canLay0 && (e.canLay0 && true)) = true
        rw [h0, h1]
        rfl
      · show max 0 (max e.depth 0) + 1 ≤ 2
        omega
      · show max 2 (max 0 (max (wide e) 0)) ≤ 100
        omega
    obtain ⟨g1, g2, g3⟩ := hd d List.mem_cons_self
    by_cases hs : ∃ b, d = .str b ∧ b ∈ zs
    · obtain ⟨b, rfl, hb⟩ := hs
      by_cases e : lets qs zs b = true
      · rw [outD_go hb e]
        have pm := onTop_perm hnd hb
        exact outD_lay (fun z hz => hn z (pm.mem_iff.mp hz)) (pm.nodup_iff.mpr hnd) (fun x hx => hd x (List.mem_cons_of_mem _ hx)) (by rw [pm.length_eq]; exact hl)
      · rw [outD_not hb e]
        exact two (by decide +kernel) g1 g2 g3
    · rw [outD_none fun b hb hm => hs ⟨b, hb, hm⟩]
      exact two (by decide +kernel) g1 g2 g3
theorem outD_strs {qs : List (Str × Str)} : ∀ {row zs : List Str}, zs.Nodup → (∀ b ∈ row, b ∈ zs) → refAt qs zs row = none → outD qs zs (row.map PyData.str) = .tuple ((lefts zs row).map PyData.str)
  | [], zs, _, _, _ => rfl
  | b :: r, zs, hnd, hin, href => by
    obtain ⟨h1, h2⟩ := refAt_none href
    have hb := hin b List.mem_cons_self
    have pm := onTop_perm hnd hb
    rw [List.map_cons, outD_go hb h1]
    exact outD_strs (pm.nodup_iff.mpr hnd) (fun x hx => pm.mem_iff.mpr (hin x (List.mem_cons_of_mem _ hx))) h2
structure RowAt (K : PySem.W.Frag) (H : Hp) (a : Addr) (us : List V) (ds : List PyData) : Prop where
  sq : Sq K H a us
  dp : DpAll K H us ds
  shp : ∀ d ∈ ds, SeqAt.shaped d = true
theorem RowAt.same {K : PySem.W.Frag} {H H' : Hp} {a : Addr} {us : List V} {ds : List PyData} (h : RowAt K H a us ds) (sm : Same H H') : RowAt K H' a us ds := ⟨sameQ sm h.sq, DpAll.up sm h.dp, h.shp⟩
theorem shp_str {b : Str} (h : Nm b) : SeqAt.shaped (.str b) = true := by
  unfold SeqAt.shaped
  rw [show (PyData.str b).canLay0 = true from h.ok]
  rfl
theorem dp_str {K : PySem.W.Frag} {H : Hp} {v : V} {b : Str} (h : Dp K H v (.str b)) : v = .str b := by
  cases h
  rfl
variable (K : PySem.W.Frag)
def spDoneX (CN CM : Addr) : Sp := fun vs H Q E => ∃ (h r a : Addr) (zs : List Str) (us : List V) (ds : List PyData) (qs : List (Str × Str)), vs = [.ref h, .ref r, .ref a] ∧ Hq K H h zs ∧ PqA K H r qs ∧ RowAt K H a us ds ∧ zs.Nodup ∧ (∀ z ∈ zs, Nm z) ∧ zs.length ≤ 1000 ∧ qs.length ≤ 400 ∧
  (∀ ys : List Str, outD qs zs ds = .tuple (ys.map PyData.str) → ∀ (H' : Hp) (t : Addr), Same H H' → Tp H' t (ys.map V.str) → Q (.ref t) H') ∧
  (∀ (v : V) (d : PyData), outD qs zs ds = .list [.str "none", d] → Dp K H v d → ∀ (H' : Hp) (dd : Addr), Same H H' → H' dd = some (.xd [(("book" : Str), v)]) → E (.ref CN) (some dd) H') ∧
  (∀ b : Str, outD qs zs ds = .list [.str "may not", .str b] → ∀ (H' : Hp) (dd : Addr), Same H H' → H' dd = some (.xd [(("book" : Str), .str b)]) → E (.ref CM) (some dd) H')
def spOut : Sp := fun vs H Q _ => ∃ (h r a : Addr) (zs : List Str) (us : List V) (ds : List PyData) (qs : List (Str × Str)), vs = [.ref h, .ref r, .ref a] ∧ Hq K H h zs ∧ PqA K H r qs ∧ RowAt K H a us ds ∧ zs.Nodup ∧ (∀ z ∈ zs, Nm z) ∧ zs.length ≤ 1000 ∧ qs.length ≤ 400 ∧
  ∀ (H' : Hp) (y : V), Same H H' → Dp K H' y (outD qs zs ds) → Q y H'
def spDue : Sp := fun vs H Q _ => ∃ (h r a : Addr) (zs : List Str) (us : List V) (ds : List PyData) (qs : List (Str × Str)), vs = [.ref h, .ref r, .ref a] ∧ Tp H h (zs.map V.str) ∧ PqT K H r qs ∧ (∀ q ∈ qs, q.2 ∈ zs) ∧ RowAt K H a us ds ∧ zs.Nodup ∧ (∀ z ∈ zs, Nm z) ∧ zs.length ≤ 1000 ∧ qs.length ≤ 400 ∧
  ∀ (H' : Hp) (y : V), Same H H' → Dp K H' y (outD qs zs ds) → Q y H'
def spFrQ : Sp := fun vs H Q _ => ∃ (h r a : Addr) (zs row : List Str) (qs : List (Str × Str)), vs = [.ref h, .ref r, .ref a] ∧ Hq K H h zs ∧ PqA K H r qs ∧ Sq K H a (row.map V.str) ∧ zs.Nodup ∧ (∀ b ∈ row, b ∈ zs) ∧ zs.length ≤ 1000 ∧ qs.length ≤ 400 ∧
  ∀ H' : Hp, Same H H' → Q (optV (refAt qs zs row)) H'
def spLeftT : Sp := fun vs H Q _ => ∃ (h a : Addr) (zs row : List Str), vs = [.ref h, .ref a] ∧ Tp H h (zs.map V.str) ∧ SqL K H a (row.map V.str) ∧ zs.Nodup ∧ (∀ b ∈ row, b ∈ zs) ∧ zs.length ≤ 1000 ∧
  ∀ (H' : Hp) (t : Addr), Same H H' → Tp H' t ((lefts zs row).map V.str) → Q (.ref t) H'
def spRefL : Sp := fun vs H Q _ => ∃ (h r a : Addr) (zs row : List Str) (qs : List (Str × Str)), vs = [.ref h, .ref r, .ref a] ∧ Tp H h (zs.map V.str) ∧ PqT K H r qs ∧ (∀ q ∈ qs, q.2 ∈ zs) ∧ SqL K H a (row.map V.str) ∧ zs.Nodup ∧ (∀ b ∈ row, b ∈ zs) ∧ zs.length ≤ 1000 ∧ qs.length ≤ 400 ∧
  ∀ H' : Hp, Same H H' → Q (optV (refAt qs zs row)) H'
end HF
/-! data that can be laid, shown, compared: how deep, how wide, how heavy -/
namespace HF
open PySem PySem.Spec PyProof.Rows L2
structure Fine (m w W : Nat) (d : PyData) : Prop where
  lay : d.canLay0 = true
  shw : d.showable = true
  nod : d.hasDict = false
  isx : d.intsShort 13 = true
  dep : d.depth ≤ m
  wid : wide d ≤ w
  wgt : d.weight ≤ W
structure FineL (m w W : Nat) (ds : List PyData) : Prop where
  lay : PyData.canLayAll0 ds = true
  shw : PyData.showableAll ds = true
  nod : PyData.hasDictAll ds = false
  isx : PyData.intsShortAll 13 ds = true
  dep : PyData.depthAll ds ≤ m
  wid : wideAll ds ≤ w
  wgt : PyData.weightAll ds ≤ W
theorem Fine.mono {m w W m' w' W' : Nat} {d : PyData} (h : Fine m w W d) (h1 : m ≤ m') (h2 : w ≤ w') (h3 : W ≤ W') : Fine m' w' W' d := ⟨h.lay, h.shw, h.nod, h.isx, Nat.le_trans h.dep h1, Nat.le_trans h.wid h2, Nat.le_trans h.wgt h3⟩
theorem FineL.mono {m w W m' w' W' : Nat} {d : List PyData} (h : FineL m w W d) (h1 : m ≤ m') (h2 : w ≤ w') (h3 : W ≤ W') : FineL m' w' W' d := ⟨h.lay, h.shw, h.nod, h.isx, Nat.le_trans h.dep h1, Nat.le_trans h.wid h2, Nat.le_trans h.wgt h3⟩
theorem FineL.nil {m w W : Nat} : FineL m w W [] := ⟨rfl, rfl, rfl, rfl, Nat.zero_le _, Nat.zero_le _, Nat.zero_le _⟩
theorem FineL.cons {m w W W' : Nat} {d : PyData} {ds : List PyData} (h : Fine m w W d) (t : FineL m w W' ds) : FineL m w (W + 1 + W') (d :: ds) := by
  refine ⟨?_, ?_, ?_, ?_, ?_, ?_, ?_⟩
  · show (d.canLay0 && PyData.canLayAll0 ds) = true
    rw [h.lay, t.lay]
    rfl
  · show (d.showable && PyData.showableAll ds) = true
    rw [h.shw, t.shw]
    rfl
  · show (d.hasDict || PyData.hasDictAll ds) = false
    rw [h.nod, t.nod]
    rfl
  · show (d.intsShort 13 && PyData.intsShortAll 13 ds) = true
    rw [h.isx, t.isx]
    rfl
  · show max d.depth (PyData.depthAll ds) ≤ m
    have := h.dep
    have := t.dep
    omega
  · show max (wide d) (wideAll ds) ≤ w
    have := h.wid
    have := t.wid
    omega
  · show d.weight + 1 + PyData.weightAll ds ≤ W + 1 + W'
    have := h.wgt
    have := t.wgt
    omega
theorem FineL.app {m w W W' : Nat} {es : List PyData} : ∀ {ds : List PyData}, FineL m w W ds → FineL m w W' es → FineL m w (W + W') (ds ++ es)
  | [], h, t => t.mono (Nat.le_refl _) (Nat.le_refl _) (by omega)
  | d :: r, h, t => by
    have h1 : (d.canLay0 && PyData.canLayAll0 r) = true := h.lay
    have h2 : (d.showable && PyData.showableAll r) = true := h.shw
    have h3 : (d.hasDict || PyData.hasDictAll r) = false := h.nod
    have h4 : (d.intsShort 13 && PyData.intsShortAll 13 r) = true := h.isx
    have h5 : max d.depth (PyData.depthAll r) ≤ m := h.dep
    have h6 : max (wide d) (wideAll r) ≤ w := h.wid
    have h7 : d.weight + 1 + PyData.weightAll r ≤ W := h.wgt
    rw [Bool.and_eq_true] at h1 h2 h4
    rw [Bool.or_eq_false_iff] at h3
    have hd : Fine m w d.weight d := ⟨h1.1, h2.1, h3.1, h4.1, by omega, by omega, Nat.le_refl _⟩
    have hr : FineL m w (PyData.weightAll r) r := ⟨h1.2, h2.2, h3.2, h4.2, by omega, by omega, Nat.le_refl _⟩
    exact (FineL.cons hd (FineL.app hr t)).mono (Nat.le_refl _) (Nat.le_refl _) (by omega)
theorem Fine.list {m w W : Nat} {ds : List PyData} (h : FineL m w W ds) (hl : ds.length ≤ w) : Fine (m + 1) w W (.list ds) := ⟨h.lay, h.shw, h.nod, h.isx, Nat.succ_le_succ h.dep, Nat.max_le.mpr ⟨hl, h.wid⟩, h.wgt⟩
theorem Fine.tuple {m w W : Nat} {ds : List PyData} (h : FineL m w W ds) (hl : ds.length ≤ w) : Fine (m + 1) w W (.tuple ds) := ⟨h.lay, h.shw, h.nod, h.isx, Nat.succ_le_succ h.dep, Nat.max_le.mpr ⟨hl, h.wid⟩, h.wgt⟩
theorem fine_str {m w : Nat} {z : Str} (h : Nm z) : Fine m w 6 (.str z) := by
  refine ⟨h.ok, rfl, rfl, rfl, Nat.zero_le _, Nat.zero_le _, ?_⟩
  show z.cps.size ≤ 6
  rw [← Array.length_toList]
  exact h.2.1
theorem fine_none {m w : Nat} : Fine m w 0 .none := ⟨rfl, rfl, rfl, rfl, Nat.zero_le _, Nat.zero_le _, Nat.le_refl _⟩
theorem fine_bool {m w : Nat} {b : Bool} : Fine m w 0 (.bool b) := ⟨rfl, rfl, rfl, rfl, Nat.zero_le _, Nat.zero_le _, Nat.le_refl _⟩
theorem fine_strs {m w : Nat} : ∀ {xs : List Str}, (∀ z ∈ xs, Nm z) → FineL m w (7 * xs.length) (xs.map PyData.str)
  | [], _ => .nil
  | x :: r, h => ((FineL.cons (fine_str (h x List.mem_cons_self)) (fine_strs fun z hz => h z (List.mem_cons_of_mem _ hz)))).mono (Nat.le_refl _) (Nat.le_refl _) (by rw [List.length_cons]; omega)
theorem FineL.of {m w W : Nat} : ∀ {ds : List PyData}, (∀ d ∈ ds, Fine m w W d) → FineL m w ((W + 1) * ds.length) ds
  | [], _ => .nil
  | x :: r, h => (FineL.cons (h x List.mem_cons_self) (FineL.of fun z hz => h z (List.mem_cons_of_mem _ hz))).mono (Nat.le_refl _) (Nat.le_refl _) (by rw [List.length_cons, Nat.mul_succ]; omega)
theorem Fine.fits {m w W : Nat} {d : PyData} (h : Fine m w W d) (hW : W ≤ 2 ^ 20) : d.shown.length ≤ sizeLine := PyData.shown_fits (B := 13) (by decide) (by decide) (PyData.leavesShort_of_canLay0 13 _ h.lay h.isx) (Nat.le_trans h.wgt hW)
theorem Fine.shp {m w W : Nat} {d : PyData} (h : Fine m w W d) (hm : m ≤ 64) : SeqAt.shaped d = true := by
  unfold SeqAt.shaped
  rw [h.lay]
  exact decide_eq_true (Nat.le_trans h.dep hm)
theorem fine_ties {zs : List Str} {L : SL} (hn : ∀ z ∈ zs, Nm z) (hL : ∀ p ∈ L, OkP zs p) (hl : L.length ≤ 1000) : Fine 2 1000 (15 * L.length) (dTies L) := by
  refine ⟨lay_rows hn hL, show_rows L, nodict_rows L, ints_rows 13 L, ?_, ?_, weight_rows hn hL⟩
  · exact ties_depth L
  · show max (L.map dRow).length (wideAll (L.map dRow)) ≤ 1000
    have := wide_rows hL
    rw [List.length_map]
    omega
end HF
/-! things of any kind, apart from the box; things bent -/
namespace HF
open PySem PySem.Spec PyProof.Rows L2
def Sg (z : Str) : Prop := ∀ c ∈ z.cps.toList, 9 ≤ c ∧ c ≤ 126
theorem Sg.ok {z : Str} (h : Sg z) : PyData.strOk z = true := by
  unfold PyData.strOk
  rw [← Array.all_toList, List.all_eq_true]
  intro c hc
  have := h c hc
  exact decide_eq_true (by omega)
theorem Nm.sg {z : Str} (h : Nm z) : Sg z := fun c hc => by
  have := h.2.2 c hc
  omega
theorem Sg.app {a b : Str} (h : Sg a) (g : Sg b) : Sg (a ++ b) := fun c hc => by
  rw [app_tl] at hc
  exact (List.mem_append.mp hc).elim (h c) (g c)
mutual
/-- all texts within are of plain signs -/
def As : PyData → Prop
  | .str z => Sg z
  | .list xs => AsAll xs
  | .tuple xs => AsAll xs
  | .dict _ => False
  | _ => True
def AsAll : List PyData → Prop
  | [] => True
  | x :: r => As x ∧ AsAll r
end
theorem asAll_iff : ∀ {ds : List PyData}, AsAll ds ↔ ∀ d ∈ ds, As d
  | [] => ⟨fun _ d hd => (nomatch hd), fun _ => trivial⟩
  | x :: r => by
    show As x ∧ AsAll r ↔ _
    rw [asAll_iff]
    constructor
    · rintro ⟨h1, h2⟩ d hd
      rcases List.mem_cons.mp hd with rfl | hd
      · exact h1
      · exact h2 d hd
    · exact fun h => ⟨h x List.mem_cons_self, fun d hd => h d (List.mem_cons_of_mem _ hd)⟩
/-- what can be said of a thing: how deep, how wide -/
structure Gd (m w : Nat) (d : PyData) : Prop where
  lay : d.canLay0 = true
  shw : d.showable = true
  nod : d.hasDict = false
  isx : d.intsShort 13 = true
  dep : d.depth ≤ m
  wid : wide d ≤ w
  as : As d
theorem Gd.mono {m w m' w' : Nat} {d : PyData} (h : Gd m w d) (h1 : m ≤ m') (h2 : w ≤ w') : Gd m' w' d := ⟨h.lay, h.shw, h.nod, h.isx, Nat.le_trans h.dep h1, Nat.le_trans h.wid h2, h.as⟩
theorem Gd.fine {m w W : Nat} {d : PyData} (h : Gd m w d) (hW : d.weight ≤ W) : Fine m w W d := ⟨h.lay, h.shw, h.nod, h.isx, h.dep, h.wid, hW⟩
theorem gd_all {m w : Nat} : ∀ {ds : List PyData}, (∀ d ∈ ds, Gd m w d) → PyData.canLayAll0 ds = true ∧ PyData.showableAll ds = true ∧ PyData.hasDictAll ds = false ∧ PyData.intsShortAll 13 ds = true ∧ PyData.depthAll ds ≤ m ∧ wideAll ds ≤ w
  | [], _ => ⟨rfl, rfl, rfl, rfl, Nat.zero_le _, Nat.zero_le _⟩
  | x :: r, h => by
    obtain ⟨g1, g2, g3, g4, g5, g6⟩ := gd_all fun d hd => h d (List.mem_cons_of_mem _ hd)
    have hx := h x List.mem_cons_self
    refine ⟨?_, ?_, ?_, ?_, Nat.max_le.mpr ⟨hx.dep, g5⟩, Nat.max_le.mpr ⟨hx.wid, g6⟩⟩
    · show (x.canLay0 && PyData.canLayAll0 r) = true
      rw [hx.lay, g1]
      rfl
    · show (x.showable && PyData.showableAll r) = true
      rw [hx.shw, g2]
      rfl
    · show (x.hasDict || PyData.hasDictAll r) = false
      rw [hx.nod, g3]
      rfl
    · show (x.intsShort 13 && PyData.intsShortAll 13 r) = true
      rw [hx.isx, g4]
      rfl
theorem Gd.list {m w : Nat} {ds : List PyData} (h : ∀ d ∈ ds, Gd m w d) (hl : ds.length ≤ w) : Gd (m + 1) w (.list ds) := by
  obtain ⟨g1, g2, g3, g4, g5, g6⟩ := gd_all h
  exact ⟨g1, g2, g3, g4, Nat.succ_le_succ g5, Nat.max_le.mpr ⟨hl, g6⟩, asAll_iff.mpr fun d hd => (h d hd).as⟩
theorem Gd.tuple {m w : Nat} {ds : List PyData} (h : ∀ d ∈ ds, Gd m w d) (hl : ds.length ≤ w) : Gd (m + 1) w (.tuple ds) := by
  obtain ⟨g1, g2, g3, g4, g5, g6⟩ := gd_all h
  exact ⟨g1, g2, g3, g4, Nat.succ_le_succ g5, Nat.max_le.mpr ⟨hl, g6⟩, asAll_iff.mpr fun d hd => (h d hd).as⟩
theorem gd_of {m w : Nat} : ∀ {ds : List PyData}, PyData.canLayAll0 ds = true → PyData.showableAll ds = true → PyData.hasDictAll ds = false → PyData.intsShortAll 13 ds = true → PyData.depthAll ds ≤ m → wideAll ds ≤ w → AsAll ds → ∀ d ∈ ds, Gd m w d
  | x :: r, h1, h2, h3, h4, h5, h6, h7, d, hd => by
    have e1 : (x.canLay0 && PyData.canLayAll0 r) = true := h1
    have e2 : (x.showable && PyData.showableAll r) = true := h2
    have e3 : (x.hasDict || PyData.hasDictAll r) = false := h3
    have e4 : (x.intsShort 13 && PyData.intsShortAll 13 r) = true := h4
    have e5 := Nat.max_le.mp (show max x.depth (PyData.depthAll r) ≤ m from h5)
    have e6 := Nat.max_le.mp (show max (wide x) (wideAll r) ≤ w from h6)
    rw [Bool.and_eq_true] at e1 e2 e4
    rw [Bool.or_eq_false_iff] at e3
    rcases List.mem_cons.mp hd with rfl | hd
    · exact ⟨e1.1, e2.1, e3.1, e4.1, e5.1, e6.1, h7.1⟩
    · exact gd_of e1.2 e2.2 e3.2 e4.2 e5.2 e6.2 h7.2 d hd
theorem Gd.list_in {m w : Nat} {ds : List PyData} (h : Gd (m + 1) w (.list ds)) : (∀ d ∈ ds, Gd m w d) ∧ ds.length ≤ w :=
  ⟨gd_of h.lay h.shw h.nod h.isx (Nat.le_of_succ_le_succ h.dep) (Nat.max_le.mp h.wid).2 h.as, (Nat.max_le.mp h.wid).1⟩
theorem Gd.tuple_in {m w : Nat} {ds : List PyData} (h : Gd (m + 1) w (.tuple ds)) : (∀ d ∈ ds, Gd m w d) ∧ ds.length ≤ w :=
  ⟨gd_of h.lay h.shw h.nod h.isx (Nat.le_of_succ_le_succ h.dep) (Nat.max_le.mp h.wid).2 h.as, (Nat.max_le.mp h.wid).1⟩
theorem gd_str {m w : Nat} {z : Str} (h : Sg z) : Gd m w (.str z) := ⟨h.ok, rfl, rfl, rfl, Nat.zero_le _, Nat.zero_le _, h⟩
theorem gd_none {m w : Nat} : Gd m w .none := ⟨rfl, rfl, rfl, rfl, Nat.zero_le _, Nat.zero_le _, trivial⟩
theorem gd_bool {m w : Nat} {b : Bool} : Gd m w (.bool b) := ⟨rfl, rfl, rfl, rfl, Nat.zero_le _, Nat.zero_le _, trivial⟩
theorem gd_int {m w : Nat} {i : Int} (h1 : (PyData.int i).showable = true) (h2 : (PyData.int i).intsShort 13 = true) : Gd m w (.int i) := ⟨rfl, h1, rfl, h2, Nat.zero_le _, Nat.zero_le _, trivial⟩
/-- weights -/
theorem weightAll_sum : ∀ ds : List PyData, PyData.weightAll ds = (ds.map fun d => d.weight + 1).sum
  | [] => rfl
  | x :: r => by
    show x.weight + 1 + PyData.weightAll r = _
    rw [weightAll_sum r]
    rfl
theorem weight_perm {xs ys : List PyData} (h : xs.Perm ys) : PyData.weightAll xs = PyData.weightAll ys := by
  rw [weightAll_sum, weightAll_sum]
  exact (h.map _).sum_nat
theorem weight_app (xs ys : List PyData) : PyData.weightAll (xs ++ ys) = PyData.weightAll xs + PyData.weightAll ys := by
  rw [weightAll_sum, weightAll_sum, weightAll_sum, List.map_append, List.sum_append]
theorem weight_mem {ds : List PyData} {d : PyData} (h : d ∈ ds) : d.weight + 1 ≤ PyData.weightAll ds := by
  obtain ⟨a, b, rfl⟩ := List.append_of_mem h
  rw [weight_app]
  show _ ≤ _ + (d.weight + 1 + _)
  omega
theorem weight_strs2 {xs : List Str} {n : Nat} (h : ∀ z ∈ xs, z.cps.size ≤ n) : PyData.weightAll (xs.map PyData.str) ≤ (n + 1) * xs.length := by
  induction xs with
  | nil => exact Nat.le_refl _
  | cons x r ih =>
    show x.cps.size + 1 + _ ≤ _
    have h1 := h x List.mem_cons_self
    have h2 := ih fun z hz => h z (List.mem_cons_of_mem _ hz)
    rw [List.length_cons, Nat.mul_succ]
    omega
def TsA (H : Hp) (a : Addr) (xs : List V) : Prop := H a = some (.tup xs) ∨ Tp H a xs
theorem TsA.sq {K : PySem.W.Frag} {H : Hp} {a : Addr} {xs : List V} (h : TsA H a xs) : SqT K H a xs := h.elim (fun z => .inl (.inl z)) Tp.sq
/-- a thing at hand, none of whose lists is to be shunned -/
inductive Dq (A : Addr → Prop) (H : Hp) : V → PyData → Prop
  | non : Dq A H .non .none
  | bl (b : Bool) : Dq A H (.bl b) (.bool b)
  | int (i : Int) : Dq A H (.int i) (.int i)
  | str (x : Str) : Dq A H (.str x) (.str x)
  | lst {a : Addr} {zs : List (V × PyData)} : ¬ A a → H a = some (.lst (zs.map Prod.fst)) → (∀ z ∈ zs, Dq A H z.1 z.2) → Dq A H (.ref a) (.list (zs.map Prod.snd))
  | tup {a : Addr} {zs : List (V × PyData)} : ¬ A a → TsA H a (zs.map Prod.fst) → (∀ z ∈ zs, Dq A H z.1 z.2) → Dq A H (.ref a) (.tuple (zs.map Prod.snd))
theorem dpAll_of {K : PySem.W.Frag} {H : Hp} : ∀ {zs : List (V × PyData)}, (∀ z ∈ zs, Dp K H z.1 z.2) → DpAll K H (zs.map Prod.fst) (zs.map Prod.snd)
  | [], _ => .nil
  | x :: r, h => .cons (h x List.mem_cons_self) (dpAll_of fun z hz => h z (List.mem_cons_of_mem _ hz))
theorem Dq.dp {K : PySem.W.Frag} {A : Addr → Prop} {H : Hp} {v : V} {d : PyData} (h : Dq A H v d) : Dp K H v d := by
  induction h with
  | non => exact .non
  | bl b => exact .bl b
  | int i => exact .int i
  | str x => exact .str x
  | lst ne sq _ ih => exact .lst (.inl (.inl sq)) (dpAll_of ih)
  | tup ne sq _ ih => exact .tup sq.sq (dpAll_of ih)
/-- all but the shunned stays -/
def OthA (A : Addr → Prop) (H H' : Hp) : Prop := ∀ b u, H b = some u → ¬ A b → H' b = some u
theorem OthA.of {A : Addr → Prop} {H H' : Hp} (s : Same H H') : OthA A H H' := fun b u h _ => s b u h
theorem OthA.box {A : Addr → Prop} {p : Addr} {H H' : Hp} (o : Oth p H H') (hp : A p) : OthA A H H' := fun b u h n => o b u h fun e => n (e ▸ hp)
theorem OthA.trans {A : Addr → Prop} {H H1 H2 : Hp} (a : OthA A H H1) (b : OthA A H1 H2) : OthA A H H2 := fun c u h n => b c u (a c u h n) n
theorem TsA.oth {A : Addr → Prop} {H H' : Hp} {a : Addr} {xs : List V} (h : TsA H a xs) (o : OthA A H H') (n : ¬ A a) : TsA H' a xs := h.imp (fun z => o _ _ z n) fun ⟨ob, e, r⟩ => ⟨ob, o _ _ e n, r⟩
theorem Dq.oth {A : Addr → Prop} {H H' : Hp} {v : V} {d : PyData} (h : Dq A H v d) (o : OthA A H H') : Dq A H' v d := by
  induction h with
  | non => exact .non
  | bl b => exact .bl b
  | int i => exact .int i
  | str x => exact .str x
  | lst ne sq _ ih => exact .lst ne (o _ _ sq ne) ih
  | tup ne sq _ ih => exact .tup ne (sq.oth o ne) ih
theorem Dq.same {A : Addr → Prop} {H H' : Hp} {v : V} {d : PyData} (h : Dq A H v d) (s : Same H H') : Dq A H' v d := h.oth (OthA.of s)
theorem Dq.less {A B : Addr → Prop} {H : Hp} {v : V} {d : PyData} (h : Dq A H v d) (i : ∀ b, B b → A b) : Dq B H v d := by
  induction h with
  | non => exact .non
  | bl b => exact .bl b
  | int i => exact .int i
  | str x => exact .str x
  | lst ne sq _ ih => exact .lst (fun z => ne (i _ z)) sq ih
  | tup ne sq _ ih => exact .tup (fun z => ne (i _ z)) sq ih
theorem Dq.more {A : Addr → Prop} {S : Addr} {H : Hp} {v : V} {d : PyData} (h : Dq A H v d) (n : H S = none) : Dq (fun b => A b ∨ b = S) H v d := by
  induction h with
  | non => exact .non
  | bl b => exact .bl b
  | int i => exact .int i
  | str x => exact .str x
  | lst ne sq _ ih => exact .lst (fun z => z.elim ne fun e => by rw [e, n] at sq; exact nomatch sq) sq ih
  | tup ne sq _ ih =>
    refine .tup (fun z => z.elim ne fun e => ?_) sq ih
    rcases sq with sq | ⟨ob, sq, _⟩
    · rw [e, n] at sq
      exact nomatch sq
    · rw [e, n] at sq
      exact nomatch sq
theorem bx_ne {H : Hp} {p l : Addr} {c : Int} (h : Bx H p c) (n : H l = none) : l ≠ p := (h.new n).symm
/-- a tuple that is asked by methods -/
def Tq (H : Hp) (v : V) (d : PyData) : Prop := ∀ a ds, v = .ref a → d = .tuple ds → ∃ xs, Tp H a xs
theorem Tq.oth {A : Addr → Prop} {H H' : Hp} {v : V} {d : PyData} (h : Tq H v d) (q : Dq A H v d) (o : OthA A H H') : Tq H' v d := by
  intro a ds e1 e2
  obtain ⟨xs, ob, g1, g2⟩ := h a ds e1 e2
  cases q with
  | tup ne sq hz =>
    cases e1
    exact ⟨xs, ob, o _ _ g1 ne, g2⟩
  | non => cases e1
  | bl b => cases e1
  | int i => cases e1
  | str x => cases e1
  | lst ne sq hz => cases e2
theorem Tq.same {A : Addr → Prop} {H H' : Hp} {v : V} {d : PyData} (h : Tq H v d) (q : Dq A H v d) (s : Same H H') : Tq H' v d := h.oth q (OthA.of s)
theorem Dq.tp {A : Addr → Prop} {H : Hp} {v : V} {ds : List PyData} (q : Dq A H v (.tuple ds)) (h : Tq H v (.tuple ds)) : ∃ a us, v = .ref a ∧ Tp H a us ∧ ∃ zs : List (V × PyData), us = zs.map Prod.fst ∧ ds = zs.map Prod.snd ∧ ∀ z ∈ zs, Dq A H z.1 z.2 := by
  generalize hd : PyData.tuple ds = d at q
  cases q with
  | tup ne sq hz =>
    rename_i a zs
    obtain ⟨xs, ob, g1, g2⟩ := h a ds rfl rfl
    injection hd with hd
    rcases sq with sq | sq
    · rw [sq] at g1
      exact nomatch g1
    · exact ⟨a, _, rfl, sq, zs, rfl, hd, hz⟩
  | non => cases hd
  | bl b => cases hd
  | int i => cases hd
  | str x => cases hd
  | lst ne sq hz => cases hd
def zS (xs : List Str) : List (V × PyData) := xs.map fun x => (.str x, .str x)
theorem zS_fst (xs : List Str) : (zS xs).map Prod.fst = xs.map V.str := by
  unfold zS
  rw [List.map_map]
  rfl
theorem zS_snd (xs : List Str) : (zS xs).map Prod.snd = xs.map PyData.str := by
  unfold zS
  rw [List.map_map]
  rfl
theorem zS_dq {A : Addr → Prop} {H : Hp} {xs : List Str} : ∀ z ∈ zS xs, Dq A H z.1 z.2 := fun z hz => by
  obtain ⟨x, _, rfl⟩ := List.mem_map.mp hz
  exact .str x
theorem Dq.tupS {A : Addr → Prop} {a : Addr} {H : Hp} {xs : List Str} (ne : ¬ A a) (h : TsA H a (xs.map V.str)) : Dq A H (.ref a) (.tuple (xs.map PyData.str)) := by
  rw [← zS_snd]
  exact .tup ne (by rw [zS_fst]; exact h) zS_dq
theorem Dq.lstS {A : Addr → Prop} {a : Addr} {H : Hp} {xs : List Str} (ne : ¬ A a) (h : H a = some (.lst (xs.map V.str))) : Dq A H (.ref a) (.list (xs.map PyData.str)) := by
  rw [← zS_snd]
  exact .lst ne (by rw [zS_fst]; exact h) zS_dq
def spOdd : Sp := fun vs H Q _ => ∃ (A : Addr → Prop) (p : Addr) (x : V) (d : PyData) (c : Int) (W : Nat), vs = [.ref p, x] ∧ Bx H p c ∧ c < 2 ^ 38 ∧ A p ∧ (∀ b, A b → H b ≠ none) ∧ Dq A H x d ∧ (∀ z, d = .str z → Sg z ∧ z.cps.size ≤ W ∧ W ≤ 100000) ∧
  ∀ (H' : Hp) (v : V) (d' : PyData) (c' : Int), Oth p H H' → Dq A H' v d' → Tq H' v d' → Gd 1 2 d' → d'.weight ≤ W + 60 → Bx H' p c' → c ≤ c' → c' ≤ c + 1 → Q v H'
def spBent (n : Nat) : Sp := fun vs H Q _ => ∃ (A : Addr → Prop) (p : Addr) (x : V) (d : PyData) (c : Int) (w W : Nat), vs = [.ref p, x] ∧ Bx H p c ∧ c + 4 * (n + 1) < 2 ^ 38 ∧ A p ∧ (∀ b, A b → H b ≠ none) ∧ Dq A H x d ∧ Gd n w d ∧ d.weight ≤ W ∧ 2 ≤ w ∧ w ≤ 900 ∧ W ≤ 100000 ∧
  ∀ (H' : Hp) (v : V) (d' : PyData) (c' : Int), Oth p H H' → Dq A H' v d' → Tq H' v d' → Gd (n + 1) (w + 1) d' → d'.weight ≤ 2 * W + 60 → Bx H' p c' → c ≤ c' → c' ≤ c + 4 * (n + 1) → Q v H'
end HF
namespace HF
open PySem PySem.Spec PyProof.Rows L2
def upA (c : Nat) : Nat := if 97 ≤ c ∧ c ≤ 122 then c - 32 else c
theorem up_tab : (List.range 127).all (fun c => Unicode.upperOf c == [upA c]) = true := by decide +kernel
theorem up_one {c : Nat} (h : c ≤ 126) : Unicode.upperOf c = [upA c] := by
  have := List.all_eq_true.mp up_tab c (List.mem_range.mpr (by omega))
  exact beq_iff_eq.mp this
theorem up_flat {l : List Nat} (h : ∀ c ∈ l, c ≤ 126) : l.flatMap Unicode.upperOf = l.map upA := by
  induction l with
  | nil => rfl
  | cons c r ih =>
    rw [List.flatMap_cons, up_one (h c List.mem_cons_self), ih fun x hx => h x (List.mem_cons_of_mem _ hx)]
    rfl
theorem mapIdx_flat (l : List Nat) (f : Nat → List Nat) : ∀ n : Nat, ((l.mapIdx fun i c => (f c).toArray).map Array.toList).flatten = l.flatMap f := by
  intro n
  have e : (l.mapIdx fun i c => (f c).toArray) = l.map fun c => (f c).toArray := by
    refine List.ext_getElem? fun i => ?_
    rw [List.getElem?_mapIdx, List.getElem?_map]
  rw [e, List.map_map, List.flatMap_def]
  congr 1
theorem upper_tl {z : Str} (h : Sg z) : (Txt.upper z).cps.toList = z.cps.toList.map upA := by
  unfold Txt.upper placed
  rw [Array.toList_flatten, Array.toList_mapIdx, mapIdx_flat _ _ 0]
  exact up_flat fun c hc => (h c hc).2
theorem upper_sg {z : Str} (h : Sg z) : Sg (Txt.upper z) ∧ (Txt.upper z).cps.size = z.cps.size := by
  have e := upper_tl h
  constructor
  · intro c hc
    rw [e] at hc
    obtain ⟨b, hb, rfl⟩ := List.mem_map.mp hc
    have := h b hb
    unfold upA
    split <;> omega
  · rw [← Array.length_toList, e, List.length_map, Array.length_toList]
end HF
namespace HF
open PySem PySem.Spec PyProof.Rows L2
def kd : PyData → String
  | .none => "NoneType"
  | .bool _ => "bool"
  | .int _ => "int"
  | .str _ => "str"
  | .list _ => "list"
  | .tuple _ => "tuple"
  | .dict _ => "dict"
def isStr : PyData → Bool
  | .str _ => true
  | _ => false
def isLst : PyData → Bool
  | .list _ => true
  | _ => false
def isTup : PyData → Bool
  | .tuple _ => true
  | _ => false
theorem dp_ty {K : PySem.W.Frag} {H : Hp} {x : V} {d : PyData} (h : Dp K H x d) : TyX K H x (.type (kd d)) := by
  cases h with
  | non => exact .base .non
  | bl b => exact .base (.bl _)
  | int i => exact .base (.int _)
  | str z => exact .base (.str _)
  | lst hq _ => exact ty_list hq
  | tup hq _ => exact ty_tup hq
theorem kb_str : ∀ d : PyData, kitB (kd d) "str" = some (isStr d)
  | .none => (by decide +kernel : kitB "NoneType" "str" = some false)
  | .bool _ => (by decide +kernel : kitB "bool" "str" = some false)
  | .int _ => (by decide +kernel : kitB "int" "str" = some false)
  | .str _ => (by decide +kernel : kitB "str" "str" = some true)
  | .list _ => (by decide +kernel : kitB "list" "str" = some false)
  | .tuple _ => (by decide +kernel : kitB "tuple" "str" = some false)
  | .dict _ => (by decide +kernel : kitB "dict" "str" = some false)
theorem kb_lst : ∀ d : PyData, kitB (kd d) "list" = some (isLst d)
  | .none => (by decide +kernel : kitB "NoneType" "list" = some false)
  | .bool _ => (by decide +kernel : kitB "bool" "list" = some false)
  | .int _ => (by decide +kernel : kitB "int" "list" = some false)
  | .str _ => (by decide +kernel : kitB "str" "list" = some false)
  | .list _ => (by decide +kernel : kitB "list" "list" = some true)
  | .tuple _ => (by decide +kernel : kitB "tuple" "list" = some false)
  | .dict _ => (by decide +kernel : kitB "dict" "list" = some false)
theorem kb_tup : ∀ d : PyData, kitB (kd d) "tuple" = some (isTup d)
  | .none => (by decide +kernel : kitB "NoneType" "tuple" = some false)
  | .bool _ => (by decide +kernel : kitB "bool" "tuple" = some false)
  | .int _ => (by decide +kernel : kitB "int" "tuple" = some false)
  | .str _ => (by decide +kernel : kitB "str" "tuple" = some false)
  | .list _ => (by decide +kernel : kitB "list" "tuple" = some false)
  | .tuple _ => (by decide +kernel : kitB "tuple" "tuple" = some true)
  | .dict _ => (by decide +kernel : kitB "dict" "tuple" = some false)
theorem kb_seq {K : PySem.W.Frag} (d : PyData) : PySem.W.kitAny K (.type (kd d)) [.type "list", .type "tuple"] = some (isLst d || isTup d) := any2 (kb_lst d) (kb_tup d)
theorem sgB {z : Str} (h : (z.cps.toList.all fun c => decide (9 ≤ c ∧ c ≤ 126)) = true) : Sg z := fun c hc => of_decide_eq_true (List.all_eq_true.mp h c hc)
theorem Dq.seq {A : Addr → Prop} {H : Hp} {x : V} {d : PyData} (h : Dq A H x d) (hd : (isLst d || isTup d) = true) : ∃ (a : Addr) (zs : List (V × PyData)), x = .ref a ∧ ¬ A a ∧ (H a = some (.lst (zs.map Prod.fst)) ∨ TsA H a (zs.map Prod.fst)) ∧ (∀ z ∈ zs, Dq A H z.1 z.2) ∧ ((d = .list (zs.map Prod.snd) ∧ isLst d = true) ∨ (d = .tuple (zs.map Prod.snd) ∧ isLst d = false)) := by
  cases h with
  | non => exact nomatch hd
  | bl b => exact nomatch hd
  | int i => exact nomatch hd
  | str z => exact nomatch hd
  | lst ne sq hz => exact ⟨_, _, rfl, ne, .inl sq, hz, .inl ⟨rfl, rfl⟩⟩
  | tup ne sq hz => exact ⟨_, _, rfl, ne, .inr sq, hz, .inr ⟨rfl, rfl⟩⟩
theorem sq_any {K : PySem.W.Frag} {H : Hp} {a : Addr} {xs : List V} (h : H a = some (.lst xs) ∨ TsA H a xs) : Sq K H a xs := h.imp (fun z => .inl (.inl z)) TsA.sq
theorem any_oth {A : Addr → Prop} {H H' : Hp} {a : Addr} {xs : List V} (h : H a = some (.lst xs) ∨ TsA H a xs) (o : OthA A H H') (n : ¬ A a) : H' a = some (.lst xs) ∨ TsA H' a xs := h.imp (fun z => o _ _ z n) fun z => z.oth o n
theorem Gd.parts {m w : Nat} {d : PyData} {ds : List PyData} {b : Bool} (h : Gd (m + 1) w d) (e : (d = .list ds ∧ b = true) ∨ (d = .tuple ds ∧ b = false)) : (∀ x ∈ ds, Gd m w x) ∧ ds.length ≤ w := by
  rcases e with ⟨rfl, _⟩ | ⟨rfl, _⟩
  · exact h.list_in
  · exact h.tuple_in
theorem weight_seq {d : PyData} {ds : List PyData} {b : Bool} (e : (d = .list ds ∧ b = true) ∨ (d = .tuple ds ∧ b = false)) : d.weight = PyData.weightAll ds := by
  rcases e with ⟨rfl, _⟩ | ⟨rfl, _⟩ <;> rfl
theorem ixN_nat {n j : Nat} (h : j < n) : ixN n (j : Int) = some j := by
  unfold ixN
  rw [if_pos (by omega), if_pos (by omega)]
  simp
def wS (zs : List (V × PyData)) : Nat := PyData.weightAll (zs.map Prod.snd)
theorem wS_app (a b : List (V × PyData)) : wS (a ++ b) = wS a + wS b := by
  unfold wS
  rw [List.map_append, weight_app]
theorem wS_cons (z : V × PyData) (r : List (V × PyData)) : wS (z :: r) = z.2.weight + 1 + wS r := rfl
theorem wS_perm {a b : List (V × PyData)} (h : a.Perm b) : wS a = wS b := weight_perm (h.map _)
theorem wS_split {zs : List (V × PyData)} {j : Nat} {z : V × PyData} (h : zs[j]? = some z) : zs = zs.take j ++ z :: zs.drop (j + 1) ∧ wS zs = wS (zs.take j) + (z.2.weight + 1) + wS (zs.drop (j + 1)) := by
  have e : zs = zs.take j ++ z :: zs.drop (j + 1) := by
    rw [← drop_at h, List.take_append_drop]
  refine ⟨e, ?_⟩
  have e2 : wS zs = wS (zs.take j ++ z :: zs.drop (j + 1)) := by rw [← e]
  rw [e2, wS_app, wS_cons]
  omega
theorem set_split {zs : List (V × PyData)} {j : Nat} {z y : V × PyData} (h : zs[j]? = some z) : zs.set j y = zs.take j ++ y :: zs.drop (j + 1) := by
  have hj := (List.getElem?_eq_some_iff.mp h).1
  rw [List.set_eq_take_append_cons_drop, if_pos hj]
theorem alloc_oth {A : Addr → Prop} {p : Addr} {H H' : Hp} {c : Int} (hA : ∀ b, A b → H b ≠ none) (o : Oth p H H') (hb : Bx H' p c) : ∀ b, A b → H' b ≠ none := fun b hb2 e => by
  by_cases hp : b = p
  · obtain ⟨x, y, e2, _⟩ := hb
    rw [hp, e2] at e
    exact nomatch e
  · cases h : H b with
    | none => exact hA b hb2 h
    | some u =>
      rw [o b u h hp] at e
      exact nomatch e
theorem map_erase {α β : Type} (f : α → β) (l : List α) (k : Nat) : (l.map f).eraseIdx k = (l.eraseIdx k).map f := by
  rw [List.eraseIdx_eq_take_drop_succ, List.eraseIdx_eq_take_drop_succ, List.map_append, List.map_take, List.map_drop]
theorem cut_two {xs : List V} {j : Nat} (h : j < xs.length) : cutV xs (some (j : Int)) (some ((j : Int) + 2)) = (xs.drop j).take 2 := by
  unfold cutV
  have e1 : HT.sIx xs.length 0 (some (j : Int)) = j := by
    rw [HT.sIx_nat]
    omega
  have e2 : HT.sIx xs.length xs.length (some ((j : Int) + 2)) = min (j + 2) xs.length := by
    rw [show ((j : Int) + 2) = ((j + 2 : Nat) : Int) by omega, HT.sIx_nat]
  rw [e1, e2]
  by_cases h2 : j + 2 ≤ xs.length
  · rw [Nat.min_eq_left h2]
    congr 1
    omega
  · rw [Nat.min_eq_right (by omega), List.take_of_length_le (by rw [List.length_drop]; omega), List.take_of_length_le (by rw [List.length_drop]; omega)]
/-- a thing made of these -/
structure Mk (A : Addr → Prop) (H : Hp) (n w W : Nat) (zs : List (V × PyData)) : Prop where
  dq : ∀ z ∈ zs, Dq A H z.1 z.2
  gd : ∀ z ∈ zs, Gd n w z.2
  len : zs.length ≤ w
  wgt : wS zs ≤ W
theorem Mk.gdl {A : Addr → Prop} {H : Hp} {n w W : Nat} {zs : List (V × PyData)} (h : Mk A H n w W zs) : Gd (n + 1) w (.list (zs.map Prod.snd)) := Gd.list (fun d hd => by obtain ⟨z, hz, rfl⟩ := List.mem_map.mp hd; exact h.gd z hz) (by rw [List.length_map]; exact h.len)
theorem Mk.gdt {A : Addr → Prop} {H : Hp} {n w W : Nat} {zs : List (V × PyData)} (h : Mk A H n w W zs) : Gd (n + 1) w (.tuple (zs.map Prod.snd)) := Gd.tuple (fun d hd => by obtain ⟨z, hz, rfl⟩ := List.mem_map.mp hd; exact h.gd z hz) (by rw [List.length_map]; exact h.len)
theorem Mk.perm {A : Addr → Prop} {H : Hp} {n w W : Nat} {zs ys : List (V × PyData)} (h : Mk A H n w W zs) (pm : ys.Perm zs) : Mk A H n w W ys := ⟨fun z hz => h.dq z (pm.mem_iff.mp hz), fun z hz => h.gd z (pm.mem_iff.mp hz), by rw [pm.length_eq]; exact h.len, by rw [wS_perm pm]; exact h.wgt⟩
theorem Mk.oth {A : Addr → Prop} {H H' : Hp} {n w W : Nat} {zs : List (V × PyData)} (h : Mk A H n w W zs) (o : OthA A H H') : Mk A H' n w W zs := ⟨fun z hz => (h.dq z hz).oth o, h.gd, h.len, h.wgt⟩
theorem Mk.mono {A : Addr → Prop} {H : Hp} {n w W n' w' W' : Nat} {zs : List (V × PyData)} (h : Mk A H n w W zs) (h1 : n ≤ n') (h2 : w ≤ w') (h3 : W ≤ W') : Mk A H n' w' W' zs := ⟨h.dq, fun z hz => (h.gd z hz).mono h1 h2, Nat.le_trans h.len h2, Nat.le_trans h.wgt h3⟩
theorem Mk.less {A B : Addr → Prop} {H : Hp} {n w W : Nat} {zs : List (V × PyData)} (h : Mk A H n w W zs) (i : ∀ b, B b → A b) : Mk B H n w W zs := ⟨fun z hz => (h.dq z hz).less i, h.gd, h.len, h.wgt⟩
theorem Mk.set {A : Addr → Prop} {H : Hp} {n w W : Nat} {zs : List (V × PyData)} (h : Mk A H n w W zs) {j : Nat} {z y : V × PyData} (hj : zs[j]? = some z) (hq : Dq A H y.1 y.2) (hg : Gd (n + 1) (w + 1) y.2) (hy : y.2.weight ≤ 2 * z.2.weight + 60) : Mk A H (n + 1) (w + 1) (2 * W + 60) (zs.set j y) := by
  obtain ⟨e, ew⟩ := wS_split hj
  have e2 := set_split (y := y) hj
  have hw := h.wgt
  refine ⟨fun x hx => ?_, fun x hx => ?_, by rw [List.length_set]; have := h.len; omega, ?_⟩
  · rcases List.mem_or_eq_of_mem_set hx with hx | rfl
    · exact h.dq x hx
    · exact hq
  · rcases List.mem_or_eq_of_mem_set hx with hx | rfl
    · exact (h.gd x hx).mono (by omega) (by omega)
    · exact hg
  · rw [e2, wS_app, wS_cons]
    omega
theorem Mk.erase {A : Addr → Prop} {H : Hp} {n w W : Nat} {zs : List (V × PyData)} (h : Mk A H n w W zs) {j : Nat} {z : V × PyData} (hj : zs[j]? = some z) : Mk A H n w W (zs.eraseIdx j) := by
  obtain ⟨e, ew⟩ := wS_split hj
  have hw := h.wgt
  have sub : ∀ x ∈ zs.eraseIdx j, x ∈ zs := fun x hx => List.mem_of_mem_eraseIdx hx
  refine ⟨fun x hx => h.dq x (sub x hx), fun x hx => h.gd x (sub x hx), Nat.le_trans (List.length_eraseIdx_le ..) h.len, ?_⟩
  rw [List.eraseIdx_eq_take_drop_succ, wS_app]
  omega
theorem Mk.insert {A : Addr → Prop} {H : Hp} {n w W : Nat} {zs : List (V × PyData)} (h : Mk A H n w W zs) {j : Nat} {z : V × PyData} (hj : zs[j]? = some z) : Mk A H n (w + 1) (2 * W + 60) (zs.take j ++ [z] ++ zs.drop j) := by
  have pm : (zs.take j ++ [z] ++ zs.drop j).Perm (z :: zs) := (ins_perm zs z j).trans (List.perm_append_singleton z zs)
  have hm := List.mem_of_getElem? hj
  obtain ⟨e, ew⟩ := wS_split hj
  have hw := h.wgt
  refine ⟨fun x hx => ?_, fun x hx => ?_, by rw [pm.length_eq, List.length_cons]; have := h.len; omega, ?_⟩
  · rcases List.mem_cons.mp (pm.mem_iff.mp hx) with rfl | hx
    · exact h.dq _ hm
    · exact h.dq x hx
  · rcases List.mem_cons.mp (pm.mem_iff.mp hx) with rfl | hx
    · exact (h.gd _ hm).mono (Nat.le_refl _) (by omega)
    · exact (h.gd x hx).mono (Nat.le_refl _) (by omega)
  · rw [wS_perm pm, wS_cons]
    omega
theorem swap_perm (zs : List (V × PyData)) (j : Nat) : (zs.take j ++ ((zs.drop j).take 2).reverse ++ zs.drop (j + 2)).Perm zs := by
  have e : zs = zs.take j ++ (zs.drop j).take 2 ++ zs.drop (j + 2) := by
    rw [List.append_assoc, show zs.drop (j + 2) = (zs.drop j).drop 2 from by rw [List.drop_drop], List.take_append_drop, List.take_append_drop]
  refine List.Perm.trans ?_ (List.Perm.of_eq e.symm)
  exact ((List.reverse_perm _).append_left _).append_right _
end HF
/-! len(set(a tuple of texts)) -/
namespace HF
open PySem PySem.Spec PyProof.Rows L2
section
variable {P : Program} {w : World} {A : Around} {E : Value → Shared → Prop} {s : Shared}
theorem call_set_tt {l : Addr} {items : Array Value} (xs : List Str) {Q : Value → Shared → Prop} (hh : A.handled = none) (hl : s.heap.IsTuple l items) (hit : Vals (xs.map V.str) items.toList) (few : xs.length ≤ 1000)
    (hQ : ∀ (h' : Heap) (tk : Nat), StT P w h' s.heap.objs.size xs xs.length → (∀ b o, s.heap.get? b = some o → h'.get? b = some o) → Q (.ref s.heap.objs.size) { s with heap := h', toks := tk }) :
    wpAny (model P w) A (call (.type "set") [.ref l]) Q E s := by
  have many : items.size = xs.length := by
    have q : (xs.map V.str).length = items.toList.length := Paired.length hit
    rw [List.length_map] at q
    simpa using q.symm
  obtain ⟨c, tl, hmro⟩ := F.called_set.mro
  have hmade := F.called_set.made
  have hsub := F.called_set.sub
  refine wpAny_call (codeAny_of_tree ?_)
  show wpAny _ _ (callAny (.type "set") _) _ _ _
  refine wpAny_pure ⟨Code.quiet_builtin _ (by decide +kernel), codeAny_builtin F.entry_type_call ?_⟩
  rw [Around.under_plain (weight_type_call_type "set" [.ref l] []) rfl]
  have h1 := F.called_set.notType
  have h2 := F.called_set.canCreate
  have hct := F.typeCall_set_1 (.ref l)
  repeat (any_goals (first | assumption | wp_step))
  refine codeAny_mono (code_set_led1 (.ref l) (E := E) (Q₁ := fun obj s₁ => obj = .ref s.heap.objs.size ∧ s₁ = { s with heap := s.heap.push (bareSet w) }) ⟨rfl, rfl⟩) fun r s₁ hr => ?_
  cases r with
  | error e => exact hr
  | ok fl =>
    cases fl with
    | ret obj =>
      obtain ⟨rfl, rfl⟩ := hr
      have atS : (s.heap.push (bareSet w)).get? s.heap.objs.size = some (bareSet w) := Heap.get?_push_size _ rfl
      have hT : Shared.TypeIs { s with heap := s.heap.push (bareSet w) } (.ref s.heap.objs.size) "set" := ⟨_, atS, rfl⟩
      have hli := F.called_set.init.lookup
      have hbi := F.called_set.init.bind (.ref s.heap.objs.size)
      repeat (any_goals (first | assumption | wp_step))
      refine codeAny_mono (codeAny_call_builtin (R := wants (fun r s₂ => r = .none ∧ ∃ h' tk, s₂ = { s with heap := h', toks := tk } ∧ StT P w h' s.heap.objs.size xs xs.length ∧ (∀ b o, s.heap.get? b = some o → h'.get? b = some o)) E) F.called_set.init.plain F.entry_set_init (check_set_init_1 hT ?_)) fun r₂ s₂ hr₂ => ?_
      · obtain ⟨⟨ocls, odict, odata, oslots⟩, hol, hcl, nl, hdl⟩ := hl
        simp only at hcl hdl
        subst hcl hdl
        have hol1 : (s.heap.push (bareSet w)).get? l = some { cls := .type "tuple", dict := odict, data := .seq items nl, slots := oslots } := Heap.get?_push_of_some _ hol
        have hsls := F.sub_tuple_set
        have hslf := F.sub_tuple_frozenset
        have hne : (Value.type "tuple" == Value.type "dict") = false := by decide
        have hl1 : (s.heap.push (bareSet w)).IsTuple l items := ⟨_, hol1, rfl, nl, rfl⟩
        unfold Builtin.«set.__init__» noKeywords Builtin.Frozenset.updateFrom
        generalize hPI : pyIter = PI
        wp_walk
        subst hPI
        refine wpAny_pyIter_tuple hl1 (wpAny_bind (wpAny_runValue ?_))
        have ltl : l < s.heap.objs.size := Heap.lt_size hol
        have sz1 : (s.heap.push (bareSet w)).objs.size = s.heap.objs.size + 1 := Heap.size_push ..
        have hval : ∀ (i : Nat) (v : Value), items[i]? = some v → ∃ x t, xs[i]? = some x ∧ v = .str x t := fun i v hv => by
          have q : items.toList[i]? = some v := by
            rw [Array.getElem?_toList]
            exact hv
          have lt : i < items.size := (Array.getElem?_eq_some_iff.mp hv).1
          have hx : xs[i]? = some (xs[i]'(by omega)) := List.getElem?_eq_getElem _
          obtain ⟨u, e1, e2⟩ := Vals.get hit (show (xs.map V.str)[i]? = some (.str (xs[i]'(by omega))) by rw [List.getElem?_map, hx]; rfl)
          rw [q] at e1
          cases e1
          obtain ⟨t, rfl⟩ := e2
          exact ⟨_, t, hx, rfl⟩
        refine update_t ((Walks.tuple (by simp [hh]) _ l (by rw [sz1]; exact Nat.ne_of_lt (Nat.lt_succ_of_lt ltl)) items).toS) s.heap.objs.size
          (by rw [sz1]; simp only [List.mem_cons, List.not_mem_nil, or_false, not_or]; exact ⟨Nat.ne_of_lt (Nat.lt_succ_self _), Nat.ne_of_gt ltl⟩) xs many few hval (items.size - 0) 0 _ (by omega) (Nat.zero_le _)
          ⟨⟨_, Heap.get?_push_size _ rfl, rfl, rfl⟩, (hl1.push _)⟩ ?hS0 ?hR
        case hS0 =>
          exact ⟨_, #[], 0, _, Heap.get?_push_of_some _ atS, ⟨rfl, rfl, rfl⟩, rfl, (fun e he => by simp at he), (fun k => by simp), (by decide), (by rfl), rfl⟩
        case hR =>
          rintro ⟨h', g2, d', tk', os'⟩ mv hS'
          have eg : g2 = s.gens := mv.gens
          have ed : d' = s.drawn := mv.drawn
          have eo : os' = s.os := mv.os
          subst eg ed eo
          show wpAny _ _ _ _ _ _
          refine wpAny_pure ?_
          show wpAny _ _ (ret Value.none) _ _ _
          rw [many] at hS'
          refine wpAny_pure ⟨rfl, h', tk', rfl, hS', fun b o e => mv.heap b o (fun hb => ?_) (Heap.get?_push_of_some _ (Heap.get?_push_of_some _ e))⟩
          have hlt := Heap.lt_size e
          rcases List.mem_cons.mp hb with z | z
          · rw [z] at hlt
            exact Nat.lt_irrefl _ hlt
          · rw [List.mem_singleton.mp z, sz1] at hlt
            exact absurd hlt (Nat.not_lt_of_le (Nat.le_succ _))
      · cases r₂ with
        | error e => exact hr₂
        | ok fl₂ =>
          cases fl₂ with
          | ret r =>
            obtain ⟨rfl, h', tk, rfl, hS', kp⟩ := hr₂
            repeat (any_goals (first | assumption | wp_step))
            exact hQ _ _ hS' kp
          | _ => exact hr₂.elim
    | _ => exact hr.elim
end
section
variable {X : Cx}
/-- .. of a tuple -/
def tLenU (K : PySem.W.Frag) (ta : TE) : TE := fun σ H Q => ta σ H fun x H1 => ∃ (l : Addr) (xs : List Str), x = .ref l ∧ SqT K H1 l (xs.map V.str) ∧ xs.length ≤ 1000 ∧ Q (.int ((dedG [] xs).length : Nat)) H1
theorem pe_lenU {e : Expr} {te : TE} {p1 p2 p3 pos : Pos} (calm : X.calm = true) (gl : Gl X "len") (ml : X.mg "len" = none) (gs : Gl X "set") (ms : X.mg "set" = none) (he : PE X e te)
    (st1 : starEach [e] X.env = (false, eval e X.env) :: starEach [] X.env := by rfl) : PE X (.Call (.Name "len" p1) [.Call (.Name "set" p2) [e] [] p3] [] pos) (tLenU X.K te) := by
  refine ⟨fun pins st σ H Q I want => Call_ (ld_blt I gl ml PySem.boot_len (PyProof.Rows.callWith_builtin1 (PyProof.Rows.args_cons ?_ rfl) rfl rfl))⟩
  refine Call_ (ld_blt I gs ms PyProof.Rows.boot_set (PyProof.Rows.callWith_type1 (PyProof.Rows.args_cons (thn (he.run pins st σ H _ I want) ?_) st1) st1 rfl))
  rintro v s1 ⟨x, H1, J, r1, l, xs, rfl, hq, few, q⟩
  refine PyProof.Rows.args_nil ?_
  cases r1
  obtain ⟨its, rel, pl, _⟩ := J.tuple hq
  refine call_set_tt (P := X.prog) (w := X.w) xs (J.ok.hd calm) pl (by simpa using rel) few fun h' tk hS kp => PyProof.Rows.args_nil ?_
  obtain ⟨o, es, ep, t, ho, hex, hd, _, _, _, hf, hn⟩ := hS
  have J2 : Inv X pins σ H1 { s1 with heap := h', toks := tk } := J.kept kp
  have small := dedG_few (xs.take xs.length)
  rw [List.take_length] at small hn
  exact call_len_set ho hex hd hf (by rw [hn]; omega) ⟨.int ((dedG [] xs).length : Nat), H1, J2.tok _, ⟨_, by rw [hn]⟩, q⟩
end
end HF
namespace HF
open PySem PySem.Spec PyProof.Rows L2
section
variable {X : Cx}
/-- repr of anything -/
def rRepX (K : PySem.W.Frag) : List V → Hp → VK → Prop := fun us H Q => ∃ (x : V) (d : PyData), us = [x] ∧ Dp K H x d ∧ d.showable = true ∧ d.hasDict = false ∧ d.depth < 60 ∧ d.shown.length ≤ sizeLine ∧ Q (.str d.shown) H
theorem call_reprX (hg : X.A.guards = some []) (hu : X.A.units + 64 < cLine) : CallR X (.builtin "repr") (rRepX X.K) := by
  intro pins st σ H xs ws Q I rel hyp
  obtain ⟨x, d, rfl, hd, hs, hn, hdep, hz, q⟩ := hyp
  obtain ⟨wv, rfl, rw1⟩ := vals1 rel
  cases hd with
  | non =>
    cases rw1
    exact PySem.P.repr_of_none ⟨.str _, H, I.tok _, ⟨_, rfl⟩, q⟩
  | bl b =>
    cases rw1
    refine PySem.P.repr_of_bool ⟨.str _, H, I.tok _, ⟨_, rfl⟩, ?_⟩
    cases b <;> exact q
  | int i =>
    obtain ⟨t, rfl⟩ := rw1
    exact PySem.P.repr_of_int (of_decide_eq_true hs) ⟨.str _, H, I.tok _, ⟨_, rfl⟩, q⟩
  | str z =>
    obtain ⟨t, rfl⟩ := rw1
    exact PySem.P.repr_of_str ⟨.str _, H, I.tok _, ⟨_, rfl⟩, q⟩ hz
  | lst hq hds =>
    cases rw1
    obtain ⟨as, rd⟩ := Dp.reads I _ _ _ (.lst hq hds) rfl
    exact repr_of_reads' rd hs (fun z => by rw [hn] at z; cases z) hg (by omega) (fun _ _ e => e) (fun h1 u tk kp => ⟨.str _, H, I.kept (t' := tk) kp, ⟨u, rfl⟩, q⟩) hz
  | tup hq hds =>
    cases rw1
    obtain ⟨as, rd⟩ := Dp.reads I _ _ _ (.tup hq hds) rfl
    exact repr_of_reads' rd hs (fun z => by rw [hn] at z; cases z) hg (by omega) (fun _ _ e => e) (fun h1 u tk kp => ⟨.str _, H, I.kept (t' := tk) kp, ⟨u, rfl⟩, q⟩) hz
/-- x < y of alike things -/
def rLtD (K : PySem.W.Frag) : R2 := fun x y H Q => ∃ d e, Dp K H x d ∧ Dp K H y e ∧ PySem.W.alike d e = true ∧ d ≠ .none ∧ d.depth ≤ 60 ∧ Q (.bl (PySem.W.dataLt d e)) H
theorem op_ltD (hu : X.A.units + 64 < cLine) : OpR X (compareOp .Lt) (rLtD X.K) := by
  intro pins s σ H x y v u Q I rx ry hyp
  obtain ⟨d, e, hd, he, hal, hn, hdep, q⟩ := hyp
  obtain ⟨as, r1⟩ := Dp.reads I d x v hd rx
  obtain ⟨bs, r2⟩ := Dp.reads I e y u he ry
  exact PySem.W.lt_data r1 r2 hal hn (by have := Nat.min_le_left d.depth e.depth; omega) ⟨.bl _, H, I, rfl, q⟩
/-- x in a list or a tuple -/
def rInQ (K : PySem.W.Frag) (neg : Bool) : R2 := fun x y H Q => ∃ d ds, Dp K H x d ∧ (Dp K H y (.list ds) ∨ Dp K H y (.tuple ds)) ∧ SeqAt.shaped d = true ∧ PyData.canLayAll0 ds = true ∧ Q (.bl (if neg = true then !(ds.any fun z => PyData.eqv z d) else ds.any fun z => PyData.eqv z d)) H
theorem op_inQ (hu : X.A.units + 65 < cLine) : OpR X (compareOp .In) (rInQ X.K false) := by
  intro pins s σ H x y v u Q I rx ry hyp
  obtain ⟨d, ds, hd, he, sd, se, q⟩ := hyp
  obtain ⟨as, r1⟩ := Dp.reads I d x v hd rx
  have deep : d.depth ≤ 64 := of_decide_eq_true (Bool.and_eq_true_iff.mp sd).2
  have hm := Nat.min_le_right (PyData.depthAll ds) d.depth
  rcases he with he | he
  · obtain ⟨bs, r2⟩ := Dp.reads I (.list ds) y u he ry
    exact SeqAt.in_list_reads r2 r1 se (SeqAt.canLay_of_shaped sd) (by omega) ⟨.bl _, H, I, rfl, q⟩
  · obtain ⟨bs, r2⟩ := Dp.reads I (.tuple ds) y u he ry
    exact SeqAt.in_tuple_reads r2 r1 se (SeqAt.canLay_of_shaped sd) (by omega) ⟨.bl _, H, I, rfl, q⟩
theorem op_notInQ (hu : X.A.units + 65 < cLine) : OpR X (compareOp .NotIn) (rInQ X.K true) := by
  intro pins s σ H x y v u Q I rx ry hyp
  obtain ⟨d, ds, hd, he, sd, se, q⟩ := hyp
  obtain ⟨as, r1⟩ := Dp.reads I d x v hd rx
  have deep : d.depth ≤ 64 := of_decide_eq_true (Bool.and_eq_true_iff.mp sd).2
  have hm := Nat.min_le_right (PyData.depthAll ds) d.depth
  rcases he with he | he
  · obtain ⟨bs, r2⟩ := Dp.reads I (.list ds) y u he ry
    exact SeqAt.notIn_list_reads r2 r1 se (SeqAt.canLay_of_shaped sd) (by omega) ⟨.bl _, H, I, rfl, q⟩
  · obtain ⟨bs, r2⟩ := Dp.reads I (.tuple ds) y u he ry
    exact SeqAt.notIn_tuple_reads r2 r1 se (SeqAt.canLay_of_shaped sd) (by omega) ⟨.bl _, H, I, rfl, q⟩
/-- t.count(x), of texts -/
def rCntT (K : PySem.W.Frag) : V → List V → Hp → VK → Prop := fun x vs H Q => ∃ (a : Addr) (ls : List Str) (z : Str), x = .ref a ∧ vs = [.str z] ∧ SqT K H a (ls.map V.str) ∧ (∀ y ∈ ls, Nm y) ∧ Q (.int ((ls.count z : Nat) : Int)) H
theorem plain_strs : ∀ ls : List Str, PyData.plainAll (ls.map PyData.str) = true
  | [] => rfl
  | _ :: r => plain_strs r
theorem countP_strs (z : Str) (ls : List Str) : ((ls.map PyData.str).countP fun y => PyData.eqv y (.str z)) = ls.count z := by
  rw [List.countP_map]
  rfl
theorem mt_tcount (hu : X.A.units + 64 < cLine) : MtR X "tuple.count" (rCntT X.K) := by
  intro pins s σ H x vs v us Q I rx rvs hyp
  obtain ⟨a, ls, z, rfl, rfl, hq, hn, q⟩ := hyp
  cases rx
  obtain ⟨u, rfl, ru⟩ := vals1 rvs
  have hdp : Dp X.K H (.ref a) (.tuple (ls.map PyData.str)) := .tup hq (dp_strs ls)
  obtain ⟨as, r1⟩ := Dp.reads I _ _ _ hdp rfl
  obtain ⟨bs, r2⟩ := Dp.reads I (.str z) (.str z) u (.str z) ru
  cases r1 with
  | tuple h1 h2 h3 h4 =>
    refine SeqAt.count_tuple_data (xs := ls.map PyData.str) ⟨_, h1, h2, _, h3⟩ h4 r2 (plain_strs ls) rfl (by rw [depth_strs]; simp; omega) ⟨.int _, H, I.tok _, ⟨_, rfl⟩, ?_⟩
    rw [countP_strs]
    exact q
end
/-- a comprehension over the signs of a text, whose parts change nothing -/
theorem lc_text {k : Nat} {z : Str} {g : TG} {tt : TT} {te : TE} {vs : List Nat} {σ : L2.St} {H : Hp} {Q : VK} (f : Nat → Option V) (hv : σ[k]? = some (some (.str z))) (few : z.cps.size ≤ 100000)
    (hs : ∀ (c : Nat) (H2 : Hp), c ∈ z.cps.toList → Same H H2 → ∀ (T : V → Hp → Prop) (F : Hp → Prop), (∀ y H4, Same H2 H4 → f c = some y → T y H4) → (∀ H3, Same H2 H3 → f c = none → F H3) →
      g (.str ⟨#[c]⟩) (wipe σ vs) H2 fun σ2 H5 => wipe σ2 vs = wipe σ vs ∧ tt σ2 H5 fun b H3 => if b = true then te σ2 H3 T else F H3)
    (hd : ∀ D H', H D = none → Same H H' → H' D = some (.lst (z.cps.toList.filterMap f)) → Q (.ref D) H') :
    tLc (iStr (tVar k)) g tt te vs σ H Q := by
  have hlen : z.cps.size = z.cps.toList.length := (Array.length_toList ..).symm
  have ho : ∀ (i c : Nat), z.cps.toList[i]? = some c → (fun i : Nat => (z.cps.toList[i]?).bind f) i = f c := fun i c h => by
    show (z.cps.toList[i]?).bind f = f c
    rw [h]
    rfl
  refine ⟨.str z, hv, z, rfl, fun D nD => lc_w (walk_str (z := z)) nD few (fun _ _ => trivial) (fun i x H1 H2 _ _ y => by rw [y.1]; exact Same.refl _) (fun i => (z.cps.toList[i]?).bind f) ?_ (fun H' s hD => hd D H' nD s ?_)⟩
  · rintro i x H1 H2 hi s1 ⟨rfl, c, hc, rfl⟩ T F hT hF
    have hc2 : z.cps.toList[i]? = some c := by
      rw [Array.getElem?_toList]
      exact hc
    exact hs c _ (List.mem_of_getElem? hc2) s1 T F (fun y H4 s4 e => hT y H4 s4 ((ho i c hc2).trans e)) (fun H3 s3 e => hF H3 s3 ((ho i c hc2).trans e))
  · rw [← fm_map ho, ← hlen]
    exact hD
/-! ### names, heaps and ties, or not -/
def isNm (z : Str) : Bool := decide (1 ≤ z.length) && (decide (z.length ≤ 6) && z.cps.toList.all fun c => decide (97 ≤ c) && decide (c ≤ 122))
def isName : PyData → Bool
  | .str z => isNm z
  | _ => false
theorem isNm_iff {z : Str} : isNm z = true ↔ Nm z := by
  unfold isNm Nm Lt
  rw [Bool.and_eq_true, Bool.and_eq_true, decide_eq_true_iff, decide_eq_true_iff, List.all_eq_true, str_len]
  constructor
  · rintro ⟨h1, h2, h3⟩
    refine ⟨h1, h2, fun c hc => ?_⟩
    have := h3 c hc
    rw [Bool.and_eq_true, decide_eq_true_iff, decide_eq_true_iff] at this
    exact this
  · rintro ⟨h1, h2, h3⟩
    refine ⟨h1, h2, fun c hc => ?_⟩
    rw [Bool.and_eq_true, decide_eq_true_iff, decide_eq_true_iff]
    exact h3 c hc
theorem lt_one (a b : Nat) : (decide (([a] : List Nat) < [b])) = decide (a < b) := by
  rw [Bool.eq_iff_iff, decide_eq_true_iff, decide_eq_true_iff, List.cons_lt_cons_iff]
  simp
def strD : PyData → Str
  | .str z => z
  | _ => ""
theorem names_strs : ∀ {ds : List PyData}, ds.all isName = true → ds = (ds.map strD).map PyData.str ∧ ∀ z ∈ ds.map strD, Nm z
  | [], _ => ⟨rfl, fun z hz => nomatch hz⟩
  | d :: r, h => by
    rw [List.all_cons, Bool.and_eq_true] at h
    obtain ⟨e, hn⟩ := names_strs h.2
    cases d with
    | str z =>
      refine ⟨?_, fun y hy => ?_⟩
      · rw [List.map_cons, List.map_cons, ← e]
        rfl
      · rcases List.mem_cons.mp hy with rfl | hy
        · exact isNm_iff.mp h.1
        · exact hn y hy
    | _ => exact nomatch h.1
def isHeapB : PyData → Bool
  | .tuple ds => !ds.isEmpty && (ds.all isName && decide ((ds.map strD).Nodup))
  | _ => false
def isTieB (zs : List Str) : PyData → Bool
  | .tuple [a, b] => (inBk zs a && (inBk zs b && !PyData.eqv a b))
  | _ => false
where inBk (zs : List Str) (d : PyData) : Bool := (zs.map PyData.str).any fun z => PyData.eqv z d
def riseB (ds : List PyData) : Bool := (List.range (ds.length - 1)).all fun i => PySem.W.dataLt (ds.getD i .none) (ds.getD (i + 1) .none)
def isTiesB (zs : List Str) : PyData → Bool
  | .tuple ds => ds.all (isTieB zs) && riseB ds
  | _ => false
theorem inBk_str {zs : List Str} {d : PyData} (h : isTieB.inBk zs d = true) : ∃ b, d = .str b ∧ b ∈ zs := by
  unfold isTieB.inBk at h
  by_cases hs : ∃ b, d = .str b
  · obtain ⟨b, rfl⟩ := hs
    rw [eqv_strs] at h
    exact ⟨b, rfl, of_decide_eq_true h⟩
  · rw [eqv_other fun b e => hs ⟨b, e⟩] at h
    exact nomatch h
theorem tie_pair {zs : List Str} {d : PyData} (h : isTieB zs d = true) : ∃ a b, d = .tuple [.str a, .str b] ∧ a ∈ zs ∧ b ∈ zs := by
  unfold isTieB at h
  split at h
  · rename_i x y
    rw [Bool.and_eq_true, Bool.and_eq_true] at h
    obtain ⟨a, rfl, ha⟩ := inBk_str h.1
    obtain ⟨b, rfl, hb⟩ := inBk_str h.2.1
    exact ⟨a, b, rfl, ha, hb⟩
  · exact nomatch h
theorem ded_len {ls : List Str} : (dedG [] ls).length = ls.length ↔ ls.Nodup := by
  rw [dedG_nil]
  constructor
  · intro h
    induction ls with
    | nil => exact List.nodup_nil
    | cons x r ih =>
      have e : (ded (x :: r)).length = ((ded r).filter fun y => decide (y ≠ x)).length + 1 := rfl
      have h1 : (ded r).length ≤ r.length := by
        have := dedG_few r
        rwa [dedG_nil] at this
      have h2 := List.length_filter_le (fun y => decide (y ≠ x)) (ded r)
      rw [e, List.length_cons] at h
      have h3 : ((ded r).filter fun y => decide (y ≠ x)).length = (ded r).length := by omega
      have h4 := List.length_filter_eq_length_iff.mp h3
      refine List.nodup_cons.mpr ⟨fun hx => ?_, ih (by omega)⟩
      have := of_decide_eq_true (h4 x (ded_mem.mpr hx))
      exact this rfl
  · intro h
    rw [ded_nodup h]
theorem count_all {ls : List Str} : (ls.all fun x => decide (V.int ((ls.count x : Nat) : Int) = V.int 1)) = decide ls.Nodup := by
  rw [Bool.eq_iff_iff, List.all_eq_true, decide_eq_true_iff]
  constructor
  · intro h
    refine List.nodup_iff_count.mpr fun x => ?_
    by_cases hx : x ∈ ls
    · have h1 := of_decide_eq_true (h x hx)
      injection h1 with h1
      omega
    · rw [List.count_eq_zero_of_not_mem hx]
      omega
  · intro h x hx
    have h1 := List.nodup_iff_count.mp h x
    have h2 := List.count_pos_iff.mpr hx
    refine decide_eq_true ?_
    rw [show ls.count x = 1 by omega]
    rfl
variable (K : PySem.W.Frag)
def spName : Sp := fun vs H Q _ => ∃ (x : V) (d : PyData), vs = [x] ∧ Dp K H x d ∧ d.weight ≤ 100000 ∧ ∀ H' : Hp, Same H H' → Q (.bl (isName d)) H'
def spHeapB : Sp := fun vs H Q _ => ∃ (A : Addr → Prop) (x : V) (d : PyData), vs = [x] ∧ Dq A H x d ∧ Tq H x d ∧ Gd 6 1000 d ∧ d.weight ≤ 100000 ∧ ∀ H' : Hp, Same H H' → Q (.bl (isHeapB d)) H'
def spTieB : Sp := fun vs H Q _ => ∃ (h : Addr) (zs : List Str) (A : Addr → Prop) (x : V) (d : PyData), vs = [.ref h, x] ∧ Hq K H h zs ∧ (∀ z ∈ zs, Nm z) ∧ Dq A H x d ∧ Gd 6 1000 d ∧ ∀ H' : Hp, Same H H' → Q (.bl (isTieB zs d)) H'
def spTiesB : Sp := fun vs H Q _ => ∃ (h : Addr) (zs : List Str) (A : Addr → Prop) (x : V) (d : PyData), vs = [.ref h, x] ∧ Hq K H h zs ∧ (∀ z ∈ zs, Nm z) ∧ Dq A H x d ∧ Gd 6 1000 d ∧ ∀ H' : Hp, Same H H' → Q (.bl (isTiesB zs d)) H'
def spTiesL : Sp := fun vs H Q _ => ∃ (h : Addr) (zs : List Str) (A : Addr → Prop) (x : V) (d : PyData), vs = [.ref h, x] ∧ Tp H h (zs.map V.str) ∧ (∀ z ∈ zs, Nm z) ∧ Dq A H x d ∧ Gd 6 1000 d ∧ d.weight ≤ 100000 ∧ ∀ H' : Hp, Same H H' → Q (.bl (isTiesB zs d)) H'
end HF
namespace HF
open PySem PySem.Spec PyProof.Rows L2
theorem u65 {k : Nat} {A : Around} (r : Room k A) : A.units + 65 < cLine := by
  have := r.un
  omega
abbrev bmLE : List Value := [.type "LookupError", .type "Exception", .type "BaseException", .type "object"]
abbrev bmRE : List Value := [.type "RuntimeError", .type "Exception", .type "BaseException", .type "object"]
abbrev bmVE : List Value := [.type "ValueError", .type "Exception", .type "BaseException", .type "object"]
abbrev bmOE : List Value := [.type "OverflowError", .type "ArithmeticError", .type "Exception", .type "BaseException", .type "object"]
/-- what the top has written of a refusal with one field -/
structure XT (K : PySem.W.Frag) (mg : Str → Option Value) (x qn : Str) (st : Stmt) (f : Str) (B newId initId : String) (bmB : List Value) (C : Addr) where
  fI : Addr
  dI : FuncData
  T : XoC K C B newId initId bmB
  I : XIs K C
  gC : mg x = some (.ref C)
  no : PySem.W.findIn K (.ref C) f = some none
  iC : PySem.W.findIn K (.ref C) "__init__" = some (some (.ref fI))
  tI : PySem.W.typeIn K (.ref fI) = some (.type "function")
  F : Fun K "__init__" qn st fI dI
  b : Binds K dI ["self", f] []
  vV : PySem.W.findCls K (.type B) (.type "type") "__init__" = some (.val (.builtin initId))
/-- such a class, as it stands in the top's part of the heap -/
structure AtX (K : PySem.W.Frag) (x qn : Str) (st : Stmt) (f : Str) (B newId initId : String) (bmB : List Value) (C fI : Addr) : Prop where
  ns : PySem.W.nsIn K mainGlobals x = some (some (.ref C))
  iC : PySem.W.findIn K (.ref C) "__init__" = some (some (.ref fI))
  tI : PySem.W.typeIn K (.ref fI) = some (.type "function")
  fn : ∃ (oc : Value) (od an : Option Addr) (osl : Array (Option Value)) (kV doc pm cdv ct : Value), K.lookup fI = some ⟨oc, od, .func (PySem.W.fnOf "__init__" qn (defArgs st) (defBody st) (defScope st) .none kV doc pm an cdv ct), osl⟩ ∧ PySem.W.codeIn K cdv qn = true
  kp : PySem.W.keepIn K (.ref fI) = true
  ini : PySem.W.excInitIn K C bmB newId = true
  over : PySem.W.excOver K C bmB = true
  hdi : PySem.W.hasDictIn K C = true
  sa : PySem.W.findIn K (.ref C) "__setattr__" = some (some (.builtin "object.__setattr__"))
  exC : PySem.W.subIn K (.ref C) (.type "BaseException") = some true
  tyC : PySem.W.typeIn K (.ref C) = some (.type "type")
  kC : PySem.W.keepIn K (.ref C) = true
  cl : PySem.W.isClsIn K C = true
  ga : PySem.W.findIn K (.ref C) "__getattribute__" = some (some (.builtin "BaseException.__getattribute__"))
  gg : PySem.W.findIn K (.ref C) "__getattr__" = some none
  ca : PySem.W.findIn K (.ref C) "__class__" = some (some (.builtin "object.__class__"))
  sg : PySem.W.specialIn K (.builtin "object.__class__") "__get__" = some (some (.builtin "getset_descriptor.__get__"))
  tk : PySem.W.takesIn K (.builtin "object.__class__") = some true
  ob : PySem.W.mroIn K C (.type "object") = some true
  no : PySem.W.findIn K (.ref C) f = some none
  vV : PySem.W.findCls K (.type B) (.type "type") "__init__" = some (.val (.builtin initId))
theorem atx_mk {K : PySem.W.Frag} {x qn : Str} {st : Stmt} {f : Str} {B newId initId : String} {bmB : List Value} {C fI : Addr} {oc : Value} {od an : Option Addr} {osl : Array (Option Value)} {kV doc pm cdv ct : Value}
    (ns : PySem.W.nsIn K mainGlobals x = some (some (.ref C)))
    (iC : PySem.W.findIn K (.ref C) "__init__" = some (some (.ref fI)))
    (tI : PySem.W.typeIn K (.ref fI) = some (.type "function"))
    (l : K.lookup fI = some ⟨oc, od, .func (PySem.W.fnOf "__init__" qn (defArgs st) (defBody st) (defScope st) .none kV doc pm an cdv ct), osl⟩) (c : PySem.W.codeIn K cdv qn = true)
    (kp : PySem.W.keepIn K (.ref fI) = true)
    (ini : PySem.W.excInitIn K C bmB newId = true)
    (over : PySem.W.excOver K C bmB = true)
    (hdi : PySem.W.hasDictIn K C = true)
    (sa : PySem.W.findIn K (.ref C) "__setattr__" = some (some (.builtin "object.__setattr__")))
    (exC : PySem.W.subIn K (.ref C) (.type "BaseException") = some true)
    (tyC : PySem.W.typeIn K (.ref C) = some (.type "type"))
    (kC : PySem.W.keepIn K (.ref C) = true)
    (cl : PySem.W.isClsIn K C = true)
    (ga : PySem.W.findIn K (.ref C) "__getattribute__" = some (some (.builtin "BaseException.__getattribute__")))
    (gg : PySem.W.findIn K (.ref C) "__getattr__" = some none)
    (ca : PySem.W.findIn K (.ref C) "__class__" = some (some (.builtin "object.__class__")))
    (sg : PySem.W.specialIn K (.builtin "object.__class__") "__get__" = some (some (.builtin "getset_descriptor.__get__")))
    (tk : PySem.W.takesIn K (.builtin "object.__class__") = some true)
    (ob : PySem.W.mroIn K C (.type "object") = some true)
    (no : PySem.W.findIn K (.ref C) f = some none)
    (vV : PySem.W.findCls K (.type B) (.type "type") "__init__" = some (.val (.builtin initId))) : AtX K x qn st f B newId initId bmB C fI :=
  ⟨ns, iC, tI, ⟨oc, od, an, osl, kV, doc, pm, cdv, ct, l, c⟩, kp, ini, over, hdi, sa, exC, tyC, kC, cl, ga, gg, ca, sg, tk, ob, no, vV⟩
theorem AtX.xt {K : PySem.W.Frag} {x qn : Str} {st : Stmt} {f : Str} {B newId initId : String} {bmB : List Value} {C fI : Addr} {h : Heap} {mg : Str → Option Value} (a : AtX K x qn st f B newId initId bmB C fI) (X : K.In h) (G : h.Ns mainGlobals mg)
    (hB : ExcBaseFacts B newId initId bmB) (hS : StoreFacts B bmB "object.__setattr__" "object") (hb : ∀ fd, Fun K "__init__" qn st fI fd → Binds K fd ["self", f] []) : Nonempty (XT K mg x qn st f B newId initId bmB C) := by
  obtain ⟨oc, od, an, osl, kV, doc, pm, cdv, ct, l, c⟩ := a.fn
  have F := fun_mk (st := st) l c a.kp
  exact ⟨{ fI := fI, dI := _, T := ⟨hB, hS, a.ini, a.over, a.hdi, a.sa, a.exC, a.tyC, a.kC⟩, I := ⟨a.cl, a.ga, a.gg, a.exC, a.hdi, a.ca, a.sg, a.tk, a.ob⟩, gC := PySem.W.mg_of X G a.ns, no := a.no, iC := a.iC, tI := a.tI, F := F, b := hb _ F, vV := a.vV }⟩
end HF
namespace HF
open PySem PySem.Spec PyProof.Rows L2
theorem ret_all {K : PySem.W.Frag} {wi : TI} {g : TG} {tt : TT} {te : TE} {vs : List Nat} {D : Ends} {σ : L2.St} {H : Hp} (h : tLc wi g tt te vs σ H (fun v H1 => rAll K [v] H1 (fun u H2 => D.rt u H2))) : tRet (tCB (rAll K) (tCons (tLc wi g tt te vs) tNil)) D σ H := h
theorem if_all {K : PySem.W.Frag} {wi : TI} {g : TG} {tt : TT} {te : TE} {vs : List Nat} {D : Ends} {σ : L2.St} {H : Hp} {t u : TS} (h : tLc wi g tt te vs σ H (fun v H1 => rAll K [v] H1 (fun y H2 => ∃ c, y = .bl c ∧ (if (!c) = true then t D σ H2 else u D σ H2)))) : tIfS (tNot (tB (tCB (rAll K) (tCons (tLc wi g tt te vs) tNil)))) t u D σ H := h
/-- a comprehension of truths: all of them, or not -/
theorem all_of {K : PySem.W.Frag} {bs : List Bool} {D : Addr} {H : Hp} {Q : VK} (h : H D = some (.lst (bs.map V.bl))) (q : Q (.bl (bs.all id)) H) : rAll K [.ref D] H Q := ⟨D, bs, rfl, .inl (.inl h), q⟩
end HF
namespace HF
open PySem PySem.Spec PyProof.Rows L2
theorem walk_zipN {K : PySem.W.Frag} {a b : Addr} {xs ys : List V} {n : Nat} (hx : n ≤ xs.length) (hy : ys.length = n) : Walk (RZ.ItzT K a b) n (fun H => SqT K H a xs ∧ SqT K H b ys) (YPair (fun i => xs[i]?) (fun i => ys[i]?)) := by
  refine ⟨fun i H hi q => ⟨xs, ys, xs[i]'(by omega), ys[i]'(by omega), q.1, q.2, List.getElem?_eq_getElem _, List.getElem?_eq_getElem _⟩, fun H q => ⟨xs, ys, q.1, q.2, .inr (by omega)⟩, ?_⟩
  rintro i H x H' hi q ⟨T, u, v, e1, e2, e3, h1, h2⟩
  exact ⟨T, u, v, e1, e2, e3, h1 xs q.1, h2 ys q.2⟩
theorem tie_len {zs : List Str} {ds : List PyData} (h : ds.length ≠ 2) : isTieB zs (.tuple ds) = false := by
  match ds, h with
  | [], _ => rfl
  | [_], _ => rfl
  | [_, _], h => exact absurd rfl h
  | _ :: _ :: _ :: _, _ => rfl
theorem tie_not {zs : List Str} {d : PyData} (h : isTup d = false) : isTieB zs d = false := by
  cases d with
  | tuple ds => exact nomatch h
  | _ => rfl
theorem Hq.dq {K : PySem.W.Frag} {H : Hp} {h : Addr} {zs : List Str} (hq : Hq K H h zs) : Dp K H (.ref h) (.list (zs.map PyData.str)) ∨ Dp K H (.ref h) (.tuple (zs.map PyData.str)) := hq.imp (fun z => .lst z (dp_strs zs)) fun z => .tup z.sq (dp_strs zs)
theorem seq_tup {A : Addr → Prop} {H : Hp} {x : V} {ds : List PyData} (h : Dq A H x (.tuple ds)) : ∃ (a : Addr) (zs : List (V × PyData)), x = .ref a ∧ ¬ A a ∧ TsA H a (zs.map Prod.fst) ∧ (∀ z ∈ zs, Dq A H z.1 z.2) ∧ ds = zs.map Prod.snd := by
  generalize hd : PyData.tuple ds = d at h
  cases h with
  | non => cases hd
  | bl b => cases hd
  | int i => cases hd
  | str z => cases hd
  | lst _ _ _ => cases hd
  | tup ne sq hz =>
    injection hd with hd
    exact ⟨_, _, rfl, ne, sq, hz, hd⟩
theorem tup_of {d : PyData} (h : isTup d = true) : ∃ ds, d = .tuple ds := by
  cases d with
  | tuple ds => exact ⟨ds, rfl⟩
  | _ => exact nomatch h
theorem alike_ties {zs : List Str} {d e : PyData} (hd : isTieB zs d = true) (he : isTieB zs e = true) : PySem.W.alike d e = true ∧ d ≠ .none ∧ d.depth ≤ 60 := by
  obtain ⟨a, b, rfl, _⟩ := tie_pair hd
  obtain ⟨a', b', rfl, _⟩ := tie_pair he
  exact ⟨rfl, nofun, by show 0 + 1 ≤ 60; decide⟩
end HF
/-! things handed to the deciders: what holds of each -/
namespace HF
open PySem PySem.Spec PyProof.Rows L2
def gk1 {α : Type} : List α → List α → List α
  | [], [x] => [x]
  | _, _ => []
theorem gk1_rel {vs : List V} {us : List Value} {zs : List V} {ws : List Value} (h1 : Vals vs us) (h2 : Vals zs ws) : Vals (gk1 vs zs) (gk1 us ws) := by
  cases h1 with
  | cons _ _ => cases h2 <;> exact .nil
  | nil =>
    cases h2 with
    | nil => exact .nil
    | cons a t =>
      cases t with
      | nil => exact .cons a .nil
      | cons b t2 => exact .nil
def gk11 {α : Type} : List α → List α → List α
  | [h], [x] => [h, x]
  | _, _ => []
theorem gk11_rel {vs : List V} {us : List Value} {zs : List V} {ws : List Value} (h1 : Vals vs us) (h2 : Vals zs ws) : Vals (gk11 vs zs) (gk11 us ws) := by
  cases h1 with
  | nil => exact .nil
  | cons c r =>
    cases r with
    | cons _ _ => exact .nil
    | nil =>
      cases h2 with
      | nil => exact .nil
      | cons a t =>
        cases t with
        | nil => exact .cons c (.cons a .nil)
        | cons b t2 => exact .nil
section
variable {X : Cx}
/-- a slice of a tuple, new or the tuple itself -/
def rSlW (K : PySem.W.Frag) : V → Option Int → Option Int → Hp → VK → Prop := fun x lo hi H Q => ∃ a xs, x = .ref a ∧ SqT K H a xs ∧ ∀ b H', Same H H' → SqT K H' b (cutV xs lo hi) → Q (.ref b) H'
theorem sl_tupW : SlR X (rSlW X.K) := by
  intro pins s σ H x v vl vu lo hi sl Q I rx hs pl pu h
  obtain ⟨a, xs, rfl, hx, q⟩ := h
  refine sl_tupA pins s σ H _ v vl vu lo hi sl Q I rx hs pl pu ⟨a, xs, rfl, hx, fun hw => q a H (Same.refl _) ?_, fun _ p np => q p _ (same_upd np) (.inl (.inl upd_same))⟩
  have e : cutV xs lo hi = xs := by
    unfold cutV
    rw [hw.1, hw.2]
    simp
  rw [e]
  exact hx
end
/-- a thing at hand -/
structure Th (A : Addr → Prop) (H : Hp) (z : V × PyData) : Prop where
  dq : Dq A H z.1 z.2
  tq : Tq H z.1 z.2
  gd : Gd 6 1000 z.2
  wt : z.2.weight ≤ 100000
theorem Th.oth {A : Addr → Prop} {H H' : Hp} {z : V × PyData} (h : Th A H z) (o : OthA A H H') : Th A H' z := ⟨h.dq.oth o, h.tq.oth h.dq o, h.gd, h.wt⟩
theorem Th.same {A : Addr → Prop} {H H' : Hp} {z : V × PyData} (h : Th A H z) (s : Same H H') : Th A H' z := h.oth (OthA.of s)
theorem Th.more {A : Addr → Prop} {S : Addr} {H : Hp} {z : V × PyData} (h : Th A H z) (n : H S = none) : Th (fun b => A b ∨ b = S) H z := ⟨h.dq.more n, h.tq, h.gd, h.wt⟩
theorem Th.fine {A : Addr → Prop} {H : Hp} {z : V × PyData} (h : Th A H z) : Fine 6 1000 100000 z.2 := h.gd.fine h.wt
def PS2 (p S : Addr) : Addr → Prop := fun b => b = p ∨ b = S
/-- the list of things -/
structure Ths (p S : Addr) (H : Hp) (ws : List (V × PyData)) : Prop where
  lst : H S = some (.lst (ws.map Prod.fst))
  all : ∀ z ∈ ws, Th (PS2 p S) H z
theorem Ths.oth {p S : Addr} {H H' : Hp} {ws : List (V × PyData)} (h : Ths p S H ws) (o : Oth p H H') (ne : S ≠ p) : Ths p S H' ws := ⟨o _ _ h.lst ne, fun z hz => (h.all z hz).oth (OthA.box o (.inl rfl))⟩
theorem Ths.same {p S : Addr} {H H' : Hp} {ws : List (V × PyData)} (h : Ths p S H ws) (o : Same H H') : Ths p S H' ws := ⟨o _ _ h.lst, fun z hz => (h.all z hz).same o⟩
theorem othS {p S : Addr} {H : Hp} {o : HO} : OthA (PS2 p S) H (upd H S o) := fun b u h n => by
  rw [upd_ne (fun e => n (.inr e))]
  exact h
theorem Ths.app {p S : Addr} {H : Hp} {ws : List (V × PyData)} {z : V × PyData} (h : Ths p S H ws) (hz : Th (PS2 p S) H z) : Ths p S (upd H S (.lst (ws.map Prod.fst ++ [z.1]))) (ws ++ [z]) := by
  refine ⟨by rw [upd_same, List.map_append]; rfl, fun y hy => ?_⟩
  rcases List.mem_append.mp hy with hy | hy
  · exact (h.all y hy).oth othS
  · rw [List.mem_singleton.mp hy]
    exact hz.oth othS
theorem Tp.othA {A : Addr → Prop} {H H' : Hp} {a : Addr} {xs : List V} (h : Tp H a xs) (o : OthA A H H') (n : ¬ A a) : Tp H' a xs := by
  obtain ⟨ob, e, r⟩ := h
  exact ⟨ob, o _ _ e n, r⟩
theorem nm_size {z : Str} (h : Nm z) : z.cps.size ≤ 6 := by
  rw [← Array.length_toList]
  exact h.2.1
theorem gd_names {w : Nat} {zs : List Str} (hn : ∀ z ∈ zs, Nm z) : ∀ d ∈ zs.map PyData.str, Gd 0 w d := fun d hd => by
  obtain ⟨z, hz, rfl⟩ := List.mem_map.mp hd
  exact gd_str (hn z hz).sg
theorem gd_heap {w : Nat} {zs : List Str} (hn : ∀ z ∈ zs, Nm z) (hl : zs.length ≤ w) : Gd 1 w (.tuple (zs.map PyData.str)) ∧ (PyData.tuple (zs.map PyData.str)).weight ≤ 7 * zs.length := by
  refine ⟨Gd.tuple (gd_names hn) (by rw [List.length_map]; exact hl), ?_⟩
  exact weight_strs2 (n := 6) fun z hz => nm_size (hn z hz)
theorem gd_heapL {w : Nat} {zs : List Str} (hn : ∀ z ∈ zs, Nm z) (hl : zs.length ≤ w) : Gd 1 w (.list (zs.map PyData.str)) ∧ (PyData.list (zs.map PyData.str)).weight ≤ 7 * zs.length := by
  refine ⟨Gd.list (gd_names hn) (by rw [List.length_map]; exact hl), ?_⟩
  exact weight_strs2 (n := 6) fun z hz => nm_size (hn z hz)
theorem gd_ties {zs : List Str} {L : SL} (hn : ∀ z ∈ zs, Nm z) (hok : ∀ p ∈ L, OkP zs p) (hl : L.length ≤ 200) : Gd 2 200 (dTies L) ∧ (dTies L).weight ≤ 15 * L.length := by
  refine ⟨Gd.tuple (fun d hd => ?_) (by rw [List.length_map]; exact hl), weight_rows hn hok⟩
  obtain ⟨p, hp, rfl⟩ := List.mem_map.mp hd
  obtain ⟨x, y, e, hx, hy, _⟩ := hok p hp
  refine Gd.tuple (m := 0) (gd_names fun z hz => ?_) (by rw [List.length_map, e]; show 2 ≤ 200; decide)
  rw [e] at hz
  rcases List.mem_cons.mp hz with rfl | hz
  · exact hn _ hx
  · rw [List.mem_singleton.mp hz]
    exact hn _ hy
theorem dq_ties {A : Addr → Prop} {zs : List Str} {H : Hp} {r : Addr} {L : SL} (hT : Ties zs H r L) (nr : ¬ A r) (np : ∀ p ∈ L, ¬ A p.1) : Dq A H (.ref r) (dTies L) := by
  have e1 : (L.map fun p => (V.ref p.1, dRow p)).map Prod.fst = rf L := by rw [List.map_map]; rfl
  have e2 : (L.map fun p => (V.ref p.1, dRow p)).map Prod.snd = L.map dRow := by rw [List.map_map]; rfl
  show Dq A H (.ref r) (.tuple (L.map dRow))
  rw [← e2]
  refine .tup nr (.inr (by rw [e1]; exact hT.1)) fun z hz => ?_
  obtain ⟨p, hp, rfl⟩ := List.mem_map.mp hz
  exact Dq.tupS (np p hp) (.inl (hT.2.1 p hp).1)
theorem tq_tp {H : Hp} {a : Addr} {xs : List V} {d : PyData} (h : Tp H a xs) : Tq H (.ref a) d := fun b ds e _ => by
  cases e
  exact ⟨_, h⟩
theorem tq_no {H : Hp} {v : V} {d : PyData} (h : ∀ ds, d ≠ .tuple ds) : Tq H v d := fun _ ds _ e => absurd e (h ds)
theorem th_heap {A : Addr → Prop} {H : Hp} {a : Addr} {zs : List Str} (h : Tp H a (zs.map V.str)) (n : ¬ A a) (hn : ∀ z ∈ zs, Nm z) (hl : zs.length ≤ 100) : Th A H (.ref a, .tuple (zs.map PyData.str)) :=
  ⟨Dq.tupS n (.inr h), tq_tp h, (gd_heap (w := 100) hn hl).1.mono (by decide) (by decide), Nat.le_trans (gd_heap (w := 100) hn hl).2 (by omega)⟩
theorem th_ties {A : Addr → Prop} {zs : List Str} {H : Hp} {r : Addr} {L : SL} (hT : Ties zs H r L) (nr : ¬ A r) (np : ∀ p ∈ L, ¬ A p.1) (hn : ∀ z ∈ zs, Nm z) (hok : ∀ p ∈ L, OkP zs p) (hl : L.length ≤ 200) : Th A H (.ref r, dTies L) :=
  ⟨dq_ties hT nr np, tq_tp hT.1, (gd_ties hn hok hl).1.mono (by decide) (by decide), Nat.le_trans (gd_ties hn hok hl).2 (by omega)⟩
def z12 (zs : List Str) (L : SL) (t r T0 L0 L1 C T2 T3 T5 : Addr) : List (V × PyData) := [(.ref t, .tuple (zs.map PyData.str)), (.ref r, dTies L), (.ref T0, .tuple []), (.ref L0, .list []), (.non, .none), (.int 0, .int 0), (.str "a", .str "a"), (.ref L1, .list (zs.map PyData.str)), (.ref C, .tuple ((zs ++ zs.take 1).map PyData.str)), (.ref T2, .tuple [.tuple [.str "a", .str "a"]]), (.ref T3, .tuple [.int 1]), (.ref T5, .tuple [.tuple []])]
theorem z12_ok {A : Addr → Prop} {zs : List Str} {L : SL} {t r T0 L0 L1 C T1 T2 T3 T4 T5 : Addr} {H : Hp} (hn : ∀ z ∈ zs, Nm z) (hz : zs.length ≤ 12)
    (ht : Th A H (.ref t, .tuple (zs.map PyData.str))) (hr : Th A H (.ref r, dTies L))
    (n0 : ¬ A T0) (h0 : Tp H T0 []) (n1 : ¬ A L0) (h1 : H L0 = some (.lst [])) (n2 : ¬ A L1) (h2 : H L1 = some (.lst (zs.map V.str))) (n3 : ¬ A C) (h3 : Tp H C ((zs ++ zs.take 1).map V.str))
    (n4 : ¬ A T1) (h4 : Tp H T1 [.str "a", .str "a"]) (n5 : ¬ A T2) (h5 : Tp H T2 [.ref T1]) (n6 : ¬ A T3) (h6 : Tp H T3 [.int 1]) (n7 : ¬ A T4) (h7 : Tp H T4 []) (n8 : ¬ A T5) (h8 : Tp H T5 [.ref T4]) :
    ∀ z ∈ z12 zs L t r T0 L0 L1 C T2 T3 T5, Th A H z := by
  have ga : ∀ {m w : Nat}, Gd m w (PyData.str "a") := gd_str (sgB (by decide +kernel))
  have d1 : Dq A H (.ref T1) (.tuple [.str "a", .str "a"]) := Dq.tupS (xs := ["a", "a"]) n4 (.inr h4)
  have d4 : Dq A H (.ref T4) (.tuple []) := Dq.tupS (xs := []) n7 (.inr h7)
  have hn2 : ∀ z ∈ zs ++ zs.take 1, Nm z := fun z hz => (List.mem_append.mp hz).elim (hn z) fun h => hn z (List.mem_of_mem_take h)
  have hl2 : (zs ++ zs.take 1).length ≤ 100 := by
    rw [List.length_append, List.length_take]
    omega
  intro z hz
  unfold z12 at hz
  simp only [List.mem_cons, List.not_mem_nil, or_false] at hz
  rcases hz with rfl | rfl | rfl | rfl | rfl | rfl | rfl | rfl | rfl | rfl | rfl | rfl
  · exact ht
  · exact hr
  · exact ⟨Dq.tupS (xs := []) n0 (.inr h0), tq_tp h0, (Gd.tuple (m := 0) (w := 0) (ds := []) (fun d hd => nomatch hd) (by decide)).mono (by decide) (by decide : 0 ≤ 1000), (by decide : (PyData.tuple []).weight ≤ 100000)⟩
  · exact ⟨Dq.lstS (xs := []) n1 h1, tq_no (fun _ e => by cases e), (Gd.list (m := 0) (w := 0) (ds := []) (fun d hd => nomatch hd) (by decide)).mono (by decide) (by decide : 0 ≤ 1000), (by decide : (PyData.list []).weight ≤ 100000)⟩
  · exact ⟨.non, tq_no (fun _ e => nomatch e), gd_none, by decide⟩
  · exact ⟨.int _, tq_no (fun _ e => nomatch e), gd_int (by decide +kernel) (by decide +kernel), by decide +kernel⟩
  · exact ⟨.str _, tq_no (fun _ e => nomatch e), ga, by decide +kernel⟩
  · exact ⟨Dq.lstS n2 h2, tq_no (fun _ e => nomatch e), (gd_heapL (w := 100) hn (by omega)).1.mono (by decide) (by decide), Nat.le_trans (gd_heapL (w := 100) hn (by omega)).2 (by omega)⟩
  · exact th_heap h3 n3 hn2 hl2
  · refine ⟨.tup (zs := [(.ref T1, .tuple [.str "a", .str "a"])]) n5 (.inr h5) (fun z hz => ?_), tq_tp h5, (Gd.tuple (m := 1) (w := 10) (fun d hd => ?_) (by decide)).mono (by decide) (by decide), (by decide +kernel : (PyData.tuple [.tuple [.str "a", .str "a"]]).weight ≤ 100000)⟩
    · rw [List.mem_singleton.mp hz]
      exact d1
    · rw [List.mem_singleton.mp hd]
      refine Gd.tuple (m := 0) (fun x hx => ?_) (by decide)
      rcases List.mem_cons.mp hx with rfl | hx
      · exact ga
      · rw [List.mem_singleton.mp hx]
        exact ga
  · refine ⟨.tup (zs := [(.int 1, .int 1)]) n6 (.inr h6) (fun z hz => ?_), tq_tp h6, (Gd.tuple (m := 1) (w := 10) (fun d hd => ?_) (by decide)).mono (by decide) (by decide), (by decide +kernel : (PyData.tuple [.int 1]).weight ≤ 100000)⟩
    · rw [List.mem_singleton.mp hz]
      exact .int _
    · rw [List.mem_singleton.mp hd]
      exact gd_int (by decide +kernel) (by decide +kernel)
  · refine ⟨.tup (zs := [(.ref T4, .tuple [])]) n8 (.inr h8) (fun z hz => ?_), tq_tp h8, (Gd.tuple (m := 1) (w := 10) (fun d hd => ?_) (by decide)).mono (by decide) (by decide), (by decide +kernel : (PyData.tuple [.tuple []]).weight ≤ 100000)⟩
    · rw [List.mem_singleton.mp hz]
      exact d4
    · rw [List.mem_singleton.mp hd]
      exact Gd.tuple (m := 0) (fun x hx => nomatch hx) (by decide)
end HF
/-! zip over two lists, whose pair is kept by a name -/
namespace HF
open PySem PySem.Spec PyProof.Rows L2
section
variable {prog : Program} {w : World} {A : Around} {E : Value → Shared → Prop} {s : Shared}
/-- a zip, with or without a pair that it remembers -/
abbrev ZAt (h : Heap) (z TI TO : Addr) (f0 f1 : Value) : Prop := h.get? z = some { cls := .type "zip", dict := none, data := .fields #[f0, f1, .bool false, .ref TI, .ref TO], slots := #[] }
def ZSt (h : Heap) (z TI TO : Addr) : Prop := ∃ f0 f1, ZAt h z TI TO f0 f1 ∧ (f0 = .none ∨ ∃ T : Int, f0 = rawInt T)
theorem wp_alive {M : Model} {a : Addr} {Q : Option Obj → Shared → Prop} (h : Q (s.heap.get? a) s) : wpAny M A (loadIfAlive a) Q E s := fun Γ p _ => by
  unfold loadIfAlive
  rw [Sem.wp_loadIfAlive]
  simpa using h
theorem wp_free {z TI TO : Addr} {Q : Bool → Shared → Prop} (hz : ZSt s.heap z TI TO) (hQ : ∀ b h', ZSt h' z TI TO → Heap.SameBut z s.heap h' → Q b { s with heap := h' }) :
    wpAny (model prog w) A (Builtin.SmallTypes.ownedTupleIsFree (.ref z)) Q E s := by
  obtain ⟨f0, f1, hz, e⟩ := hz
  have hq : ∀ b, Q b s := fun b => hQ b s.heap ⟨f0, f1, hz, e⟩ ⟨rfl, fun _ _ => rfl⟩
  unfold Builtin.SmallTypes.ownedTupleIsFree
  rcases e with rfl | ⟨T, rfl⟩
  · exact wpAny_bind (wpAny_field hz rfl (x := .none) rfl (wpAny_pure (hq _)))
  · refine wpAny_bind (wpAny_field hz rfl (x := rawInt T) rfl ?_)
    refine wpAny_bind (wp_alive ?_)
    cases s.heap.get? T.toNat with
    | none => exact wpAny_pure (hq _)
    | some o =>
      show wpAny _ _ (field (.ref z) 1 >>= _) _ _ _
      refine wpAny_bind (wpAny_field hz rfl (x := f1) rfl ?_)
      split
      · refine wpAny_bind (wpAny_setField_rec hz (by simp) fun h1 hz1 hs1 => wpAny_pure (hQ _ h1 ⟨rawInt T, .bool true, hz1, .inr ⟨T, rfl⟩⟩ hs1))
      · exact wpAny_pure (hq _)
/-- the next pair -/
theorem zipN_item {z TI TO i1 i2 l1 l2 : Addr} {k1 k2 : Nat} {xs ys : Array Value} {x y a b : Value} {Q : Value → Shared → Prop} (D : ZipApart z TI TO i1 i2 l1 l2)
    (hz : ZSt s.heap z TI TO) (hTI : IsPair s.heap TI (.ref i1) (.ref i2)) (hTO : IsPair s.heap TO a b)
    (h1 : s.heap.IsListIter i1 l1 k1) (h2 : s.heap.IsListIter i2 l2 k2) (hl1 : s.heap.IsList l1 xs) (hl2 : s.heap.IsList l2 ys) (hx : xs[k1]? = some x) (hy : ys[k2]? = some y)
    (hQ : ∀ h', ZSt h' z TI TO → (∃ u v, IsPair h' TO u v) → h'.IsListIter i1 l1 (k1 + 1) → h'.IsListIter i2 l2 (k2 + 1) → IsPair h' s.heap.objs.size x y → h'.objs.size = s.heap.objs.size + 1 →
      (∀ c o, c ≠ z → c ≠ TO → c ≠ i1 → c ≠ i2 → s.heap.get? c = some o → h'.get? c = some o) → Q (.ref s.heap.objs.size) { s with heap := h' }) :
    wpAny (model prog w) A (Builtin.«zip.__next__» ⟨[.ref z], []⟩) (fun fin s' => ∃ v, fin = .done (.ret v) ∧ Q v s') E s := by
  obtain ⟨g0, g1, hzz, ez⟩ := hz
  show wpAny _ _ (field (.ref z) 2 >>= _) _ _ _
  refine wpAny_bind (wpAny_field hzz rfl (x := .bool false) rfl ?_)
  show wpAny _ _ (field (.ref z) 3 >>= _) _ _ _
  refine wpAny_bind (wpAny_field hzz rfl (x := .ref TI) rfl ?_)
  refine wpAny_bind (wpAny_seqItems hTI rfl ?_)
  show wpAny _ _ (Builtin.SmallTypes.ownedTupleIsFree (.ref z) >>= _) _ _ _
  refine wpAny_bind (wp_free ⟨g0, g1, hzz, ez⟩ fun fr h₀ hz₀ hs₀ => ?_)
  obtain ⟨f0, f1, hz, ez⟩ := hz₀
  cases fr with
  | true =>
    simp only [if_true]
    refine wpAny_bind (wpAny_rule ?_)
    refine wpAny_bind (wpAny_field hz rfl (x := .ref TO) rfl ?_)
    refine wpAny_bind (wpAny_setField_rec hz (by simp) fun h₁ hz₁ hs₁ => ?_)
    replace hz₁ : ZAt h₁ z TI TO .ellipsis f1 := hz₁
    have up₁ : ∀ c o, c ≠ z → s.heap.get? c = some o → h₁.get? c = some o := fun c o n e => hs₁.extBut _ _ n (hs₀.extBut _ _ n e)
    refine wpAny_bind ?_
    simp only [List.zipIdx_cons, List.zipIdx_nil, List.forIn_cons, List.forIn_nil]
    refine wpAny_bind (wpAny_bind (wpAny_onRaise ?_))
    show wpAny _ _ (Builtin.SmallTypes.nextOf (.ref i1) >>= _) _ _ _
    refine wpAny_bind (wpAny_nextOf_list_item ((h1.extBut hs₀.extBut D.i1z).extBut hs₁.extBut D.i1z) ((hl1.extBut hs₀.extBut D.l1z).extBut hs₁.extBut D.l1z) hx fun h₂ h1₂ hs₂ => wpAny_pure ?_)
    have hTO₂ : IsPair h₂ TO a b := hs₂.extBut _ _ D.TOi1 (up₁ _ _ D.TOz hTO)
    refine wpAny_bind (wpAny_seqItems hTO₂ rfl ?_)
    refine wpAny_bind (wpAny_updateSeq_pair hTO₂ fun h₃ hTO₃ hs₃ => ?_)
    replace hTO₃ : IsPair h₃ TO x b := hTO₃
    refine wpAny_bind (wpAny_letGo (wpAny_pure ?_))
    refine wpAny_bind (wpAny_bind (wpAny_onRaise ?_))
    show wpAny _ _ (Builtin.SmallTypes.nextOf (.ref i2) >>= _) _ _ _
    refine wpAny_bind (wpAny_nextOf_list_item ((((h2.extBut hs₀.extBut D.i2z).extBut hs₁.extBut D.i2z).extBut hs₂.extBut D.i12.symm).extBut hs₃.extBut D.TOi2.symm)
      ((((hl2.extBut hs₀.extBut D.l2z).extBut hs₁.extBut D.l2z).extBut hs₂.extBut D.l2i1).extBut hs₃.extBut D.l2TO) hy fun h₄ h2₄ hs₄ => wpAny_pure ?_)
    have hTO₄ : IsPair h₄ TO x b := hs₄.extBut _ _ D.TOi2 hTO₃
    refine wpAny_bind (wpAny_seqItems hTO₄ rfl ?_)
    refine wpAny_bind (wpAny_updateSeq_pair hTO₄ fun h₅ hTO₅ hs₅ => ?_)
    replace hTO₅ : IsPair h₅ TO x y := hTO₅
    refine wpAny_bind (wpAny_letGo (wpAny_pure (wpAny_pure ?_)))
    refine wpAny_bind (wpAny_seqItems hTO₅ rfl ?_)
    refine wpAny_bind (wpAny_newTuple ?_)
    have hsz : h₅.objs.size = s.heap.objs.size := by rw [hs₅.1, hs₄.1, hs₃.1, hs₂.1, hs₁.1, hs₀.1]
    have hz₅ : ZAt h₅ z TI TO .ellipsis f1 := hs₅.extBut _ _ D.TOz.symm (hs₄.extBut _ _ D.i2z.symm (hs₃.extBut _ _ D.TOz.symm (hs₂.extBut _ _ D.i1z.symm hz₁)))
    have hk₅ : ∀ c o, c ≠ z → c ≠ TO → c ≠ i1 → c ≠ i2 → s.heap.get? c = some o → h₅.get? c = some o := fun c o c1 c2 c3 c4 e =>
      hs₅.extBut _ _ c2 (hs₄.extBut _ _ c4 (hs₃.extBut _ _ c2 (hs₂.extBut _ _ c3 (up₁ _ _ c1 e))))
    have h1₅ : h₅.IsListIter i1 l1 (k1 + 1) := ((h1₂.extBut hs₃.extBut D.TOi1.symm).extBut hs₄.extBut D.i12).extBut hs₅.extBut D.TOi1.symm
    have h2₅ : h₅.IsListIter i2 l2 (k2 + 1) := h2₄.extBut hs₅.extBut D.TOi2.symm
    have hzlt : z < h₅.objs.size := Heap.lt_size hz₅
    show wpAny _ _ (Builtin.SmallTypes.ownedTupleHandOut (.ref z) (.ref h₅.objs.size) >>= _) _ _ _
    refine wpAny_bind ?_
    unfold Builtin.SmallTypes.ownedTupleHandOut
    have hz₆ : ZAt (h₅.push { cls := .type "tuple", data := .seq #[x, y] }) z TI TO .ellipsis f1 := Heap.get?_push_of_some _ hz₅
    refine wpAny_bind (wpAny_setField_rec hz₆ (by simp) fun h₇ hz₇ hs₇ => ?_)
    replace hz₇ : ZAt h₇ z TI TO (rawInt h₅.objs.size) f1 := hz₇
    refine wpAny_setField_rec hz₇ (by simp) fun h₈ hz₈ hs₈ => ?_
    replace hz₈ : ZAt h₈ z TI TO (rawInt h₅.objs.size) (.bool false) := hz₈
    have up : ∀ c o, c ≠ z → h₅.get? c = some o → h₈.get? c = some o := fun c o c1 e => hs₈.extBut _ _ c1 (hs₇.extBut _ _ c1 (Heap.get?_push_of_some _ e))
    have hT₈ : IsPair h₈ h₅.objs.size x y := hs₈.extBut _ _ (Nat.ne_of_gt hzlt) (hs₇.extBut _ _ (Nat.ne_of_gt hzlt) (Heap.get?_push_size _ rfl))
    have hz8 : h₈.objs.size = h₅.objs.size + 1 := by rw [hs₈.1, hs₇.1, Heap.size_push]
    refine wpAny_pure ⟨_, rfl, ?_⟩
    show Q (.ref h₅.objs.size) _
    rw [hsz] at hz8 hT₈ ⊢
    exact hQ h₈ ⟨_, _, hz₈, .inr ⟨_, rfl⟩⟩ ⟨x, y, up _ _ D.TOz hTO₅⟩ (h1₅.at fun o e => up _ o D.i1z e) (h2₅.at fun o e => up _ o D.i2z e) hT₈ hz8 fun c o c1 c2 c3 c4 e => up c o c1 (hk₅ c o c1 c2 c3 c4 e)
  | false =>
    simp only [Bool.false_eq_true, if_false]
    refine wpAny_bind ?_
    rw [show (#[Value.ref i1, Value.ref i2] : Array Value) = [Value.ref i1, Value.ref i2].toArray from rfl, List.forIn_toArray]
    simp only [List.forIn_cons, List.forIn_nil]
    refine wpAny_bind (wpAny_bind (wpAny_holding ?_))
    show wpAny _ _ (Builtin.SmallTypes.nextOf (.ref i1) >>= _) _ _ _
    refine wpAny_bind (wpAny_nextOf_list_item (h1.extBut hs₀.extBut D.i1z) (hl1.extBut hs₀.extBut D.l1z) hx fun h₂ h1₂ hs₂ => wpAny_pure (wpAny_pure ?_))
    refine wpAny_bind (wpAny_bind (wpAny_holding ?_))
    show wpAny _ _ (Builtin.SmallTypes.nextOf (.ref i2) >>= _) _ _ _
    refine wpAny_bind (wpAny_nextOf_list_item ((h2.extBut hs₀.extBut D.i2z).extBut hs₂.extBut D.i12.symm) ((hl2.extBut hs₀.extBut D.l2z).extBut hs₂.extBut D.l2i1) hy fun h₄ h2₄ hs₄ => wpAny_pure (wpAny_pure (wpAny_pure ?_)))
    refine wpAny_bind (wpAny_newTuple (hsz := (by decide : (2 : Nat) ≤ sizeLine)) ?_)
    have hsz : h₄.objs.size = s.heap.objs.size := by rw [hs₄.1, hs₂.1, hs₀.1]
    have up : ∀ c o, c ≠ z → c ≠ i1 → c ≠ i2 → s.heap.get? c = some o → (h₄.push { cls := .type "tuple", data := .seq #[x, y] }).get? c = some o := fun c o n1 n2 n3 e => Heap.get?_push_of_some _ (hs₄.extBut _ _ n3 (hs₂.extBut _ _ n2 (hs₀.extBut _ _ n1 e)))
    have hz₄ : ZAt (h₄.push { cls := .type "tuple", data := .seq #[x, y] }) z TI TO f0 f1 := Heap.get?_push_of_some _ (hs₄.extBut _ _ D.i2z.symm (hs₂.extBut _ _ D.i1z.symm hz))
    have hT₄ : IsPair (h₄.push { cls := .type "tuple", data := .seq #[x, y] }) h₄.objs.size x y := Heap.get?_push_size _ rfl
    have hz8 : (h₄.push { cls := .type "tuple", data := .seq #[x, y] }).objs.size = h₄.objs.size + 1 := by rw [Heap.size_push]
    have h1₄ : h₄.IsListIter i1 l1 (k1 + 1) := h1₂.extBut hs₄.extBut D.i12
    refine wpAny_pure ⟨_, rfl, ?_⟩
    show Q (.ref h₄.objs.size) _
    rw [hsz] at hz8 hT₄ ⊢
    exact hQ _ ⟨_, _, hz₄, ez⟩ ⟨a, b, up _ _ D.TOz D.TOi1 D.TOi2 hTO⟩ (h1₄.at fun o e => Heap.get?_push_of_some _ e) (h2₄.at fun o e => Heap.get?_push_of_some _ e) hT₄ hz8 fun c o c1 _ c3 c4 e => up c o c1 c3 c4 e
/-- no more -/
theorem zipN_end {z TI TO i1 i2 l1 l2 : Addr} {k1 k2 : Nat} {xs ys : Array Value} {a b : Value} {Q : Fin → Shared → Prop} (hh : A.handled = none) (D : ZipApart z TI TO i1 i2 l1 l2)
    (hz : ZSt s.heap z TI TO) (hTI : IsPair s.heap TI (.ref i1) (.ref i2)) (hTO : IsPair s.heap TO a b)
    (h1 : s.heap.IsListIter i1 l1 k1) (h2 : s.heap.IsListIter i2 l2 k2) (hl1 : s.heap.IsList l1 xs) (hl2 : s.heap.IsList l2 ys) (hend : xs[k1]? = none ∨ ys[k2]? = none)
    (hE : ∀ h' e, (∀ c o, c ≠ z → c ≠ TO → c ≠ i1 → c ≠ i2 → s.heap.get? c = some o → h'.get? c = some o) → (∃ o, h'.get? e = some o ∧ o.cls = .type "StopIteration") → E (.ref e) { s with heap := h' }) :
    wpAny (model prog w) A (Builtin.«zip.__next__» ⟨[.ref z], []⟩) Q E s := by
  obtain ⟨g0, g1, hzz, ez⟩ := hz
  show wpAny _ _ (field (.ref z) 2 >>= _) _ _ _
  refine wpAny_bind (wpAny_field hzz rfl (x := .bool false) rfl ?_)
  show wpAny _ _ (field (.ref z) 3 >>= _) _ _ _
  refine wpAny_bind (wpAny_field hzz rfl (x := .ref TI) rfl ?_)
  refine wpAny_bind (wpAny_seqItems hTI rfl ?_)
  show wpAny _ _ (Builtin.SmallTypes.ownedTupleIsFree (.ref z) >>= _) _ _ _
  refine wpAny_bind (wp_free ⟨g0, g1, hzz, ez⟩ fun fr h₀ hz₀ hs₀ => ?_)
  obtain ⟨f0, f1, hz, ez⟩ := hz₀
  cases fr with
  | true =>
    simp only [if_true]
    refine wpAny_bind (wpAny_rule ?_)
    refine wpAny_bind (wpAny_field hz rfl (x := .ref TO) rfl ?_)
    refine wpAny_bind (wpAny_setField_rec hz (by simp) fun h₁ hz₁ hs₁ => ?_)
    replace hz₁ : ZAt h₁ z TI TO .ellipsis f1 := hz₁
    have up₁ : ∀ c o, c ≠ z → s.heap.get? c = some o → h₁.get? c = some o := fun c o n e => hs₁.extBut _ _ n (hs₀.extBut _ _ n e)
    refine wpAny_bind ?_
    simp only [List.zipIdx_cons, List.zipIdx_nil, List.forIn_cons, List.forIn_nil]
    refine wpAny_bind (wpAny_bind (wpAny_onRaise ?_))
    show wpAny _ _ (Builtin.SmallTypes.nextOf (.ref i1) >>= _) _ _ _
    have j1 := (h1.extBut hs₀.extBut D.i1z).extBut hs₁.extBut D.i1z
    have j2 := (hl1.extBut hs₀.extBut D.l1z).extBut hs₁.extBut D.l1z
    cases hx : xs[k1]? with
    | none =>
      refine wpAny_bind (wpAny_nextOf_list_end hh j1 j2 hx fun h₂ e hs₂ he => ?_)
      obtain ⟨oe, hoe, hce⟩ := he
      have hz₂ : ZAt h₂ z TI TO .ellipsis f1 := hs₂ _ _ D.i1z.symm hz₁
      have hez : e ≠ z := fun x => by subst x; rw [hz₂] at hoe; cases hoe; simp at hce
      refine wpAny_setField_rec hz₂ (by simp) fun h₃ _ hs₃ => hE h₃ e (fun c o c1 _ c3 _ x => hs₃.extBut _ _ c1 (hs₂ _ _ c3 (up₁ _ _ c1 x))) ⟨oe, hs₃.extBut _ _ hez hoe, hce⟩
    | some x =>
      have hy : ys[k2]? = none := by rcases hend with h | h; rw [hx] at h; cases h; exact h
      refine wpAny_bind (wpAny_nextOf_list_item j1 j2 hx fun h₂ h1₂ hs₂ => wpAny_pure ?_)
      have hTO₂ : IsPair h₂ TO a b := hs₂.extBut _ _ D.TOi1 (up₁ _ _ D.TOz hTO)
      refine wpAny_bind (wpAny_seqItems hTO₂ rfl ?_)
      refine wpAny_bind (wpAny_updateSeq_pair hTO₂ fun h₃ hTO₃ hs₃ => ?_)
      refine wpAny_bind (wpAny_letGo (wpAny_pure ?_))
      refine wpAny_bind (wpAny_bind (wpAny_onRaise ?_))
      show wpAny _ _ (Builtin.SmallTypes.nextOf (.ref i2) >>= _) _ _ _
      refine wpAny_bind (wpAny_nextOf_list_end hh ((((h2.extBut hs₀.extBut D.i2z).extBut hs₁.extBut D.i2z).extBut hs₂.extBut D.i12.symm).extBut hs₃.extBut D.TOi2.symm)
        ((((hl2.extBut hs₀.extBut D.l2z).extBut hs₁.extBut D.l2z).extBut hs₂.extBut D.l2i1).extBut hs₃.extBut D.l2TO) hy fun h₄ e hs₄ he => ?_)
      obtain ⟨oe, hoe, hce⟩ := he
      have hz₄ : ZAt h₄ z TI TO .ellipsis f1 := hs₄ _ _ D.i2z.symm (hs₃.extBut _ _ D.TOz.symm (hs₂.extBut _ _ D.i1z.symm hz₁))
      have hez : e ≠ z := fun x => by subst x; rw [hz₄] at hoe; cases hoe; simp at hce
      refine wpAny_setField_rec hz₄ (by simp) fun h₅ _ hs₅ => hE h₅ e (fun c o c1 c2 c3 c4 x => hs₅.extBut _ _ c1 (hs₄ _ _ c4 (hs₃.extBut _ _ c2 (hs₂.extBut _ _ c3 (up₁ _ _ c1 x))))) ⟨oe, hs₅.extBut _ _ hez hoe, hce⟩
  | false =>
    simp only [Bool.false_eq_true, if_false]
    refine wpAny_bind ?_
    rw [show (#[Value.ref i1, Value.ref i2] : Array Value) = [Value.ref i1, Value.ref i2].toArray from rfl, List.forIn_toArray]
    simp only [List.forIn_cons, List.forIn_nil]
    refine wpAny_bind (wpAny_bind (wpAny_holding ?_))
    show wpAny _ _ (Builtin.SmallTypes.nextOf (.ref i1) >>= _) _ _ _
    have j1 := h1.extBut hs₀.extBut D.i1z
    have j2 := hl1.extBut hs₀.extBut D.l1z
    cases hx : xs[k1]? with
    | none =>
      exact wpAny_bind (wpAny_nextOf_list_end hh j1 j2 hx fun h₂ e hs₂ he => hE h₂ e (fun c o c1 _ c3 _ x => hs₂ _ _ c3 (hs₀.extBut _ _ c1 x)) he)
    | some x =>
      have hy : ys[k2]? = none := by rcases hend with h | h; rw [hx] at h; cases h; exact h
      refine wpAny_bind (wpAny_nextOf_list_item j1 j2 hx fun h₂ h1₂ hs₂ => wpAny_pure (wpAny_pure ?_))
      refine wpAny_bind (wpAny_bind (wpAny_holding ?_))
      show wpAny _ _ (Builtin.SmallTypes.nextOf (.ref i2) >>= _) _ _ _
      exact wpAny_bind (wpAny_nextOf_list_end hh ((h2.extBut hs₀.extBut D.i2z).extBut hs₂.extBut D.i12.symm) ((hl2.extBut hs₀.extBut D.l2z).extBut hs₂.extBut D.l2i1) hy fun h₄ e hs₄ he =>
        hE h₄ e (fun c o c1 c2 c3 c4 x => hs₄ _ _ c4 (hs₂.extBut _ _ c3 (hs₀.extBut _ _ c1 x))) he)
theorem ZSt.ty {z TI TO : Addr} (hz : ZSt s.heap z TI TO) : s.TypeIs (.ref z) "zip" := by
  obtain ⟨f0, f1, hz, _⟩ := hz
  exact ⟨_, hz, rfl⟩
theorem nextN_item {z TI TO i1 i2 l1 l2 : Addr} {k1 k2 : Nat} {xs ys : Array Value} {x y a b : Value} {Q : Option Value → Shared → Prop} (D : ZipApart z TI TO i1 i2 l1 l2)
    (hz : ZSt s.heap z TI TO) (hTI : IsPair s.heap TI (.ref i1) (.ref i2)) (hTO : IsPair s.heap TO a b)
    (h1 : s.heap.IsListIter i1 l1 k1) (h2 : s.heap.IsListIter i2 l2 k2) (hl1 : s.heap.IsList l1 xs) (hl2 : s.heap.IsList l2 ys) (hx : xs[k1]? = some x) (hy : ys[k2]? = some y)
    (hQ : ∀ h', ZSt h' z TI TO → (∃ u v, IsPair h' TO u v) → h'.IsListIter i1 l1 (k1 + 1) → h'.IsListIter i2 l2 (k2 + 1) → IsPair h' s.heap.objs.size x y → h'.objs.size = s.heap.objs.size + 1 →
      (∀ c o, c ≠ z → c ≠ TO → c ≠ i1 → c ≠ i2 → s.heap.get? c = some o → h'.get? c = some o) → Q (some (.ref s.heap.objs.size)) { s with heap := h' }) :
    wpAny (model prog w) A (pyNext (.ref z)) Q E s := by
  unfold pyNext
  exact wpAny_bind (wpAny_attempt (wpAny_callSpecial?_slot (name := Str.ofString "__next__") hz.ty F.slot_zip_next
    (wpAny_call_entry F.slot_zip_next hz.ty F.entry_zip_next
      (zipN_item D hz hTI hTO h1 h2 hl1 hl2 hx hy fun h' a1 a2 a3 a4 a5 a6 a7 => wpAny_pure (hQ h' a1 a2 a3 a4 a5 a6 a7)) (F.args_zip_next_1 _))))
theorem nextN_end {z TI TO i1 i2 l1 l2 : Addr} {k1 k2 : Nat} {xs ys : Array Value} {a b : Value} {Q : Option Value → Shared → Prop} (hh : A.handled = none) (D : ZipApart z TI TO i1 i2 l1 l2)
    (hz : ZSt s.heap z TI TO) (hTI : IsPair s.heap TI (.ref i1) (.ref i2)) (hTO : IsPair s.heap TO a b)
    (h1 : s.heap.IsListIter i1 l1 k1) (h2 : s.heap.IsListIter i2 l2 k2) (hl1 : s.heap.IsList l1 xs) (hl2 : s.heap.IsList l2 ys) (hend : xs[k1]? = none ∨ ys[k2]? = none)
    (hQ : ∀ h', (∀ c o, c ≠ z → c ≠ TO → c ≠ i1 → c ≠ i2 → s.heap.get? c = some o → h'.get? c = some o) → Q none { s with heap := h' }) : wpAny (model prog w) A (pyNext (.ref z)) Q E s := by
  unfold pyNext
  refine wpAny_bind (wpAny_attempt (wpAny_callSpecial?_slot (name := Str.ofString "__next__") hz.ty F.slot_zip_next
    (wpAny_call_entry F.slot_zip_next hz.ty F.entry_zip_next (zipN_end hh D hz hTI hTO h1 h2 hl1 hl2 hend fun h' e hk he => ?_) (F.args_zip_next_1 _))))
  obtain ⟨o, ho, hc⟩ := he
  refine wpAny_bind (wpAny_isInstance (T := "StopIteration") (b := true) ⟨o, ho, hc⟩ isSubtype_stop ?_)
  exact wpAny_pure (hQ _ hk)
end
theorem turn_zipN {P : Program} {w : World} {K : PySem.W.Frag} {tg : Expr} {a b z TI TO i1 i2 : Addr} (hgo : ∀ it v, letOwnedTupleGo tg it v = pure ()) (D : ZipApart z TI TO i1 i2 a b) :
    Turn P w K tg (Itz K a b) [z, TI, TO, i1, i2] z (fun i h => ZSt h z TI TO ∧ IsPair h TI (.ref i1) (.ref i2) ∧ (∃ x y, IsPair h TO x y) ∧ h.IsListIter i1 a i ∧ h.IsListIter i2 b i) where
  mem := by simp
  obj := fun i h st c hc => by
    obtain ⟨⟨f0, f1, hz, _⟩, hTI, ⟨x, y, hTO⟩, ⟨o1, e1, _, d1⟩, ⟨o2, e2, _, d2⟩⟩ := st
    have e' : c = z ∨ c = TI ∨ c = TO ∨ c = i1 ∨ c = i2 := by simpa using hc
    rcases e' with q | q | q | q | q
    · rw [q]; exact ⟨_, hz, fun v q => nomatch q⟩
    · rw [q]; exact ⟨_, hTI, fun v q => nomatch q⟩
    · rw [q]; exact ⟨_, hTO, fun v q => nomatch q⟩
    · rw [q]; exact ⟨o1, e1, fun v q => by rw [d1] at q; cases q⟩
    · rw [q]; exact ⟨o2, e2, fun v q => by rw [d2] at q; cases q⟩
  keep := fun i h h' st k => by
    obtain ⟨⟨f0, f1, hz, ez⟩, hTI, ⟨x, y, hTO⟩, h1, h2⟩ := st
    exact ⟨⟨f0, f1, k z (by simp) _ hz, ez⟩, k TI (by simp) _ hTI, ⟨x, y, k TO (by simp) _ hTO⟩, h1.at fun o q => k i1 (by simp) o q, h2.at fun o q => k i2 (by simp) o q⟩
  item := by
    intro X hP hw hK hc i pins s σ H E I hf st hg
    subst hP hw hK
    obtain ⟨hz, hTI, ⟨x0, y0, hTO⟩, h1, h2⟩ := st
    obtain ⟨xs, ys, x, y, hqx, hqy, hx, hy⟩ := hg
    obtain ⟨its, rv, p, _⟩ := I.list hqx
    obtain ⟨its2, rv2, p2, _⟩ := I.list hqy
    obtain ⟨u, hu, ru⟩ := rv.get hx
    obtain ⟨u2, hu2, ru2⟩ := rv2.get hy
    have hzl : z < s.heap.objs.size := by obtain ⟨f0, f1, e, _⟩ := hz; exact Heap.lt_size e
    refine nextN_item D hz hTI hTO h1 h2 p.isList p2.isList (x := u) (y := u2) (by simpa using hu) (by simpa using hu2) fun h' z' TO' h1' h2' hT hsz hk => ?_
    refine ⟨_, rfl, ?_⟩
    rw [hgo]
    refine wpAny_pure ?_
    have new : ObjOk X.prog X.w (upd H s.heap.objs.size (.tup [x, y])) h' s.heap.objs.size (.tup [x, y]) :=
      ⟨by show 2 ≤ sizeLine; decide, [u, u2], .cons ru (.cons ru2 .nil), ⟨_, hT, rfl, _, rfl⟩⟩
    have I1 : Inv X pins σ (upd H s.heap.objs.size (.tup [x, y])) { s with heap := h' } :=
      I.turnedNew (t' := s.toks) (ch := [z, TI, TO, i1, i2]) (fun c o hb q => hk c o (fun q' => hb (by simp [q'])) (fun q' => hb (by simp [q'])) (fun q' => hb (by simp [q'])) (fun q' => hb (by simp [q'])) q) hf (Nat.le_refl _) new
    refine ⟨.ref s.heap.objs.size, _, I1, rfl, ⟨_, x, y, rfl, I.hok.fresh (Nat.le_refl _), rfl, fun l hl => by rw [I.list_inj hl hqx]; exact hx, fun l hl => by rw [I.list_inj hl hqy]; exact hy⟩, ⟨z', ?_, TO', h1', h2'⟩, fun c hcm => ?_⟩
    · exact hk _ _ D.TIz D.TITO D.TIi1 D.TIi2 hTI
    · have hlt : c < s.heap.objs.size := by
        have e' : c = z ∨ c = TI ∨ c = TO ∨ c = i1 ∨ c = i2 := by simpa using hcm
        rcases e' with q | q | q | q | q
        · rw [q]; exact hzl
        · rw [q]; exact Heap.lt_size hTI
        · rw [q]; exact Heap.lt_size hTO
        · rw [q]; obtain ⟨_, e1, _⟩ := h1; exact Heap.lt_size e1
        · rw [q]; obtain ⟨_, e2, _⟩ := h2; exact Heap.lt_size e2
      rw [upd_ne (Nat.ne_of_lt hlt)]
      exact (hf c hcm).1
  done := by
    intro X hP hw hK hc i pins s σ H E I hf st hg
    subst hP hw hK
    obtain ⟨hz, hTI, ⟨x0, y0, hTO⟩, h1, h2⟩ := st
    obtain ⟨xs, ys, hqx, hqy, hend⟩ := hg
    obtain ⟨its, rv, p, _⟩ := I.list hqx
    obtain ⟨its2, rv2, p2, _⟩ := I.list hqy
    have l1 := rv.length
    have l2 := rv2.length
    have he : its.toArray[i]? = none ∨ its2.toArray[i]? = none := by
      rcases hend with q | q
      · exact .inl (by simp; omega)
      · exact .inr (by simp; omega)
    exact nextN_end (I.ok.hd hc) D hz hTI hTO h1 h2 p.isList p2.isList he fun h' hk => ⟨rfl, I.turnedL (t' := s.toks) (ch := [z, TI, TO, i1, i2]) (fun c o hb q =>
      hk c o (fun q' => hb (by simp [q'])) (fun q' => hb (by simp [q'])) (fun q' => hb (by simp [q'])) (fun q' => hb (by simp [q'])) q) hf⟩
  self := fun A i s Q E st h => by
    obtain ⟨⟨f0, f1, hz, _⟩, _⟩ := st
    have hT : s.TypeIs (.ref z) "zip" := ⟨_, hz, rfl⟩
    refine wpAny_pyIter_slot hT F.slot_zip_iter (wpAny_call_entry F.slot_zip_iter hT F.entry_zip_iter ?_ (F.args_zip_iter_1 _))
    show wpAny _ _ (ret (.ref z)) _ _ s
    exact wpAny_pure ⟨_, rfl, "zip", _, hT, F.slot_zip_next.lookup, h⟩
theorem pi_zipN {X : Cx} {e e2 : Expr} {ta : TA} {p pos tpos : Pos} {nm : Str} (hg : Gl X "zip") (hm : X.mg "zip" = none) (ha : PA X [e, e2] ta)
    (hs : starEach [e, e2] X.env = (false, eval e X.env) :: starEach [e2] X.env := by rfl) (hpl : (backTo pos (starEach [e2] X.env)).any (·.1) = false := by rfl) :
    PI X (.Name nm tpos) (.Call (.Name "zip" p) [e, e2] [] pos) (iZip X.K ta) := by
  refine ⟨fun pins s σ H R I h => ?_⟩
  refine Call_ (ld_blt I hg hm PyProof.Rows.boot_zip (PyProof.Rows.callWith_type1 (thn (ha.run pos pins s σ H _ I h) fun us s1 ⟨vs, H1, I1, r1, q1⟩ => ?_) hs hpl))
  obtain ⟨a, b, xs, ys, rfl, hqx, hqy, q⟩ := q1
  obtain ⟨u1, u2, rfl, r, r'⟩ := vals2 r1
  cases r
  cases r'
  obtain ⟨its, rv, p1, _⟩ := I1.list hqx
  obtain ⟨its2, rv2, p2, _⟩ := I1.list hqy
  have la : a < s1.heap.objs.size := p1.lt
  have lb : b < s1.heap.objs.size := p2.lt
  refine call_zip_2 p1.isList p2.isList fun h' hz hTI hTO h1 h2 hsz hk => wpAny_pyIter_zip hz ?_
  have I2 : Inv X pins σ H1 { s1 with heap := h' } := I1.kept (t' := s1.toks) hk
  refine ⟨s1.heap.objs.size + 4, [s1.heap.objs.size + 4, s1.heap.objs.size + 2, s1.heap.objs.size + 3, s1.heap.objs.size, s1.heap.objs.size + 1], _, _, H1, rfl, I2, turn_zipN (fun _ _ => rfl) (PySem.W.ktu_apart s1.heap.objs.size a b la lb), ⟨⟨_, _, hz, .inl rfl⟩, hTI, ⟨_, _, hTO⟩, h1, h2⟩, fun c hcm => ?_, q⟩
  have e' : c = s1.heap.objs.size + 4 ∨ c = s1.heap.objs.size + 2 ∨ c = s1.heap.objs.size + 3 ∨ c = s1.heap.objs.size ∨ c = s1.heap.objs.size + 1 := by simpa using hcm
  have hle : s1.heap.objs.size ≤ c := by
    rcases e' with z | z | z | z | z <;> rw [z] <;> first | exact Nat.le_refl _ | exact Nat.le_add_right _ _
  exact I1.fpOk hle (I1.hok.fresh hle)
end HF
/-! rings, or not -/
namespace HF
open PySem PySem.Spec PyProof.Rows L2
theorem strs_of : ∀ {ds : List PyData}, ds.all isStr = true → ds = (ds.map strD).map PyData.str
  | [], _ => rfl
  | d :: r, h => by
    rw [List.all_cons, Bool.and_eq_true] at h
    have e := strs_of h.2
    cases d with
    | str z =>
      rw [List.map_cons, List.map_cons, ← e]
      rfl
    | _ => exact nomatch h.1
theorem fst_strs {A : Addr → Prop} {H : Hp} : ∀ {zs : List (V × PyData)}, (∀ z ∈ zs, Dq A H z.1 z.2) → (zs.map Prod.snd).all isStr = true → zs.map Prod.fst = ((zs.map Prod.snd).map strD).map V.str
  | [], _, _ => rfl
  | z :: r, hz, h => by
    rw [List.map_cons, List.all_cons, Bool.and_eq_true] at h
    have e := fst_strs (fun y hy => hz y (List.mem_cons_of_mem _ hy)) h.2
    have hq := hz z List.mem_cons_self
    rw [List.map_cons, List.map_cons, List.map_cons, List.map_cons, ← e]
    congr 1
    obtain ⟨v, d⟩ := z
    cases d with
    | str s =>
      cases hq
      rfl
    | _ => exact nomatch h.1
def cyc (ls : List Str) : List (Str × Str) := ls.zip (ls.tail ++ ls.take 1)
theorem cyc_snoc {ms : List Str} {y : Str} {p : Str × Str} : p ∈ (y :: (ms ++ [y])).zip (ms ++ [y]) ↔ p ∈ cyc (ms ++ [y]) := by
  unfold cyc
  cases h : ms ++ [y] with
  | nil => simp at h
  | cons x r =>
    have hl : ms.length = r.length := by
      have := congrArg List.length h
      simp at this
      omega
    have e1 : (y :: x :: r).zip (x :: r) = (y, x) :: (x :: r).zip r := rfl
    have e2 : (x :: r).zip r = ms.zip r := by
      have : (ms ++ [y]).zip (r ++ []) = ms.zip r ++ [y].zip [] := List.zip_append hl
      rw [List.append_nil, h] at this
      rw [this]
      simp
    have e3 : (x :: r).zip ((x :: r).tail ++ (x :: r).take 1) = ms.zip r ++ [(y, x)] := by
      show (x :: r).zip (r ++ [x]) = _
      rw [← h]
      exact List.zip_append hl
    rw [e1, e2, e3, List.mem_cons, List.mem_append, List.mem_singleton]
    exact or_comm
def isRingB (qs : List (Str × Str)) : PyData → Bool
  | .list ds => decide (2 ≤ ds.length) && (ds.all isStr && (decide ((ds.map strD).Nodup) && (cyc (ds.map strD)).all fun p => decide (p ∈ qs)))
  | _ => false
theorem ring_not {qs : List (Str × Str)} {d : PyData} (h : isLst d = false) : isRingB qs d = false := by
  cases d with
  | list ds => exact nomatch h
  | _ => rfl
theorem count_any {ls : List Str} : (ls.any fun x => decide ((1 : Int) < ((ls.count x : Nat) : Int))) = !decide ls.Nodup := by
  rw [Bool.eq_iff_iff, List.any_eq_true, Bool.not_eq_true', decide_eq_false_iff_not]
  constructor
  · rintro ⟨x, hx, h⟩ hn
    have h1 := List.nodup_iff_count.mp hn x
    have h2 := of_decide_eq_true h
    omega
  · intro h
    refine Classical.byContradiction fun hc => h (List.nodup_iff_count.mpr fun x => ?_)
    by_cases hx : x ∈ ls
    · refine Classical.byContradiction fun hc2 => hc ⟨x, hx, decide_eq_true ?_⟩
      omega
    · rw [List.count_eq_zero_of_not_mem hx]
      omega
section
variable {X : Cx}
/-- l.count(x), of texts -/
def rCntL (K : PySem.W.Frag) : V → List V → Hp → VK → Prop := fun x vs H Q => ∃ (a : Addr) (ls : List Str) (z : Str), x = .ref a ∧ vs = [.str z] ∧ SqL K H a (ls.map V.str) ∧ Q (.int ((ls.count z : Nat) : Int)) H
theorem mt_lcount (hu : X.A.units + 64 < cLine) : MtR X "list.count" (rCntL X.K) := by
  intro pins s σ H x vs v us Q I rx rvs hyp
  obtain ⟨a, ls, z, rfl, rfl, hq, q⟩ := hyp
  cases rx
  obtain ⟨u, rfl, ru⟩ := vals1 rvs
  have hdp : Dp X.K H (.ref a) (.list (ls.map PyData.str)) := .lst hq (dp_strs ls)
  obtain ⟨as, r1⟩ := Dp.reads I _ _ _ hdp rfl
  obtain ⟨bs, r2⟩ := Dp.reads I (.str z) (.str z) u (.str z) ru
  cases r1 with
  | list h1 h2 h3 h4 =>
    refine SeqAt.count_list_data (xs := ls.map PyData.str) ⟨_, h1, h2, _, h3⟩ h4 r2 (plain_strs ls) rfl (by rw [depth_strs]; simp; omega) ⟨.int _, H, I.tok _, ⟨_, rfl⟩, ?_⟩
    rw [countP_strs]
    exact q
/-- l.count(x) in a comprehension -/
theorem pe_cntL {K : PySem.W.Frag} {o e : Expr} {es : List Expr} {to : TE} {t : TA} {apos cpos : Pos} (hK : X.K = K) (hu : X.A.units + 64 < cLine) (ho : PE X o to) (ha : PA X (e :: es) t)
    (hbase : attributeBase o "count" X.env (eval o X.env) = eval o X.env := by rfl)
    (hfew : ((backTo cpos (starEach (e :: es) X.env)).all (fun x => !x.1) && (backToKw cpos (keywordEach [] X.env)).all (fun x => x.1.isSome)
      && decide ((e :: es).length + ([] : List Keyword).length + (if ([] : List Keyword).isEmpty then 0 else 1) < 30)) = true := by rfl)
    (hline : (apos.endLine == cpos.line) = true := by rfl) (hs : starEach (e :: es) X.env = (false, eval e X.env) :: starEach es X.env := by rfl) (hplain : (backTo cpos (starEach es X.env)).any (·.1) = false := by rfl) :
    PE X (.Call (.Attribute o "count" apos) (e :: es) [] cpos) (tBM K "list" (rCntL K) to t) := by
  subst hK
  exact pe_bm PySem.F.plainAttrs_list PySem.F.slot_list_count PySem.F.type_list_count (mt_lcount hu) ho ha hbase hfew hline hs hplain
end
theorem row_any {L : SL} {zs : List Str} (hok : ∀ p ∈ L, OkP zs p) {a b : Str} : ((L.map dRow).any fun z => PyData.eqv z (.tuple [.str a, .str b])) = decide ((a, b) ∈ L.map prOf) := by
  rw [Bool.eq_iff_iff, List.any_eq_true, decide_eq_true_iff]
  have key : ∀ p ∈ L, (PyData.eqv (dRow p) (.tuple [.str a, .str b]) = true ↔ prOf p = (a, b)) := fun p hp => by
    obtain ⟨x, y, e, _⟩ := hok p hp
    have e1 : dRow p = .tuple [.str x, .str y] := by
      show PyData.tuple (p.2.map PyData.str) = _
      rw [e]
      rfl
    have e2 : prOf p = (x, y) := by
      unfold prOf
      rw [e]
    rw [e1, e2]
    show ((x == a) && ((y == b) && true)) = true ↔ _
    rw [Bool.and_true, Bool.and_eq_true, beq_iff_eq, beq_iff_eq, Prod.mk.injEq]
  constructor
  · rintro ⟨d, hd, h⟩
    obtain ⟨p, hp, rfl⟩ := List.mem_map.mp hd
    exact List.mem_map.mpr ⟨p, hp, (key p hp).mp h⟩
  · intro h
    obtain ⟨p, hp, e⟩ := List.mem_map.mp h
    exact ⟨_, List.mem_map_of_mem hp, (key p hp).mpr e⟩
theorem cut_tl {ls : List Str} (h : 1 ≤ ls.length) : cutV (ls.map V.str) (some 1) none = ls.tail.map V.str := by
  unfold cutV
  rw [HT.sIx_none, show (1 : Int) = ((1 : Nat) : Int) from rfl, HT.sIx_nat, Nat.min_eq_left (by rw [List.length_map]; omega), List.take_of_length_le (by rw [List.length_drop]; omega), ← List.map_drop, List.drop_one]
theorem cut_hd {ls : List Str} (h : 1 ≤ ls.length) : cutV (ls.map V.str) none (some 1) = (ls.take 1).map V.str := by
  unfold cutV
  rw [HT.sIx_none, show (1 : Int) = ((1 : Nat) : Int) from rfl, HT.sIx_nat, List.drop_zero, Nat.sub_zero, List.map_take]
  rw [Nat.min_eq_left (by rw [List.length_map]; omega)]
theorem cyc_len {ls : List Str} (h : 1 ≤ ls.length) : (cyc ls).length = ls.length ∧ (ls.tail ++ ls.take 1).length = ls.length := by
  have e : (ls.tail ++ ls.take 1).length = ls.length := by
    rw [List.length_append, List.length_tail, List.length_take]
    omega
  refine ⟨?_, e⟩
  unfold cyc
  rw [List.length_zip, e, Nat.min_self]
variable (K : PySem.W.Frag)
def spShowA : Sp := fun vs H Q _ => ∃ (r : Addr) (A : Addr → Prop) (x : V) (d : PyData) (qs : List (Str × Str)), vs = [.ref r, x] ∧ PqA K H r qs ∧ Dq A H x d ∧ Gd 6 1000 d ∧ qs.length ≤ 1000 ∧ ∀ H' : Hp, Same H H' → Q (.bl (isRingB qs d)) H'
def spRingL : Sp := fun vs H Q _ => ∃ (r : Addr) (zs : List Str) (L : SL) (A : Addr → Prop) (x : V) (d : PyData), vs = [.ref r, x] ∧ Ties zs H r L ∧ (∀ z ∈ zs, Nm z) ∧ L.length ≤ 200 ∧ Dq A H x d ∧ Gd 6 1000 d ∧ ∀ H' : Hp, Same H H' → Q (.bl (isRingB (L.map prOf) d)) H'
end HF
namespace HF
open PySem PySem.Spec PyProof.Rows L2
def gk2 {α : Type} : List α → List α → List α
  | [], [x, y] => [x, y]
  | _, _ => []
theorem gk2_rel {vs : List V} {us : List Value} {zs : List V} {ws : List Value} (h1 : Vals vs us) (h2 : Vals zs ws) : Vals (gk2 vs zs) (gk2 us ws) := by
  cases h1 with
  | cons _ _ => cases h2 <;> exact .nil
  | nil =>
    cases h2 with
    | nil => exact .nil
    | cons a t =>
      cases t with
      | nil => exact .nil
      | cons b t2 =>
        cases t2 with
        | nil => exact .cons a (.cons b .nil)
        | cons _ _ => exact .nil
/-- a thing at hand, asked by no method -/
structure Tg (A : Addr → Prop) (H : Hp) (z : V × PyData) : Prop where
  dq : Dq A H z.1 z.2
  gd : Gd 6 1000 z.2
  wt : z.2.weight ≤ 100000
theorem Tg.oth {A : Addr → Prop} {H H' : Hp} {z : V × PyData} (h : Tg A H z) (o : OthA A H H') : Tg A H' z := ⟨h.dq.oth o, h.gd, h.wt⟩
theorem Tg.same {A : Addr → Prop} {H H' : Hp} {z : V × PyData} (h : Tg A H z) (s : Same H H') : Tg A H' z := h.oth (OthA.of s)
theorem Tg.fine {A : Addr → Prop} {H : Hp} {z : V × PyData} (h : Tg A H z) : Fine 6 1000 100000 z.2 := h.gd.fine h.wt
theorem tg_lst {A : Addr → Prop} {H : Hp} {a : Addr} {zs : List Str} (h : H a = some (.lst (zs.map V.str))) (n : ¬ A a) (hn : ∀ z ∈ zs, Sg z ∧ z.cps.size ≤ 6) (hl : zs.length ≤ 100) : Tg A H (.ref a, .list (zs.map PyData.str)) := by
  refine ⟨Dq.lstS n h, (Gd.list (m := 0) (w := 100) (fun d hd => ?_) (by rw [List.length_map]; exact hl)).mono (by decide) (by decide), ?_⟩
  · obtain ⟨z, hz, rfl⟩ := List.mem_map.mp hd
    exact gd_str (hn z hz).1
  · have := weight_strs2 (n := 6) fun z hz => (hn z hz).2
    show PyData.weightAll (zs.map PyData.str) ≤ 100000
    omega
theorem tg_tup {A : Addr → Prop} {H : Hp} {a : Addr} {zs : List Str} (h : TsA H a (zs.map V.str)) (n : ¬ A a) (hn : ∀ z ∈ zs, Sg z ∧ z.cps.size ≤ 6) (hl : zs.length ≤ 100) : Tg A H (.ref a, .tuple (zs.map PyData.str)) := by
  refine ⟨Dq.tupS n h, (Gd.tuple (m := 0) (w := 100) (fun d hd => ?_) (by rw [List.length_map]; exact hl)).mono (by decide) (by decide), ?_⟩
  · obtain ⟨z, hz, rfl⟩ := List.mem_map.mp hd
    exact gd_str (hn z hz).1
  · have := weight_strs2 (n := 6) fun z hz => (hn z hz).2
    show PyData.weightAll (zs.map PyData.str) ≤ 100000
    omega
theorem nm6 {zs : List Str} (h : ∀ z ∈ zs, Nm z) : ∀ z ∈ zs, Sg z ∧ z.cps.size ≤ 6 := fun z hz => ⟨(h z hz).sg, nm_size (h z hz)⟩
def z11 (zs : List Str) (x : Str) (L0 T0 L1 T1 L3 L4 L5 L6 : Addr) : List (V × PyData) := [(.ref L0, .list []), (.ref T0, .tuple []), (.non, .none), (.int 0, .int 0), (.str "a", .str "a"), (.ref L1, .list (zs.map PyData.str)), (.ref T1, .tuple (zs.map PyData.str)), (.ref L3, .list [.list [.str "a", .str "b"]]), (.ref L4, .list [.str x]), (.ref L5, .list [.str x, .str x]), (.ref L6, .list [.str "A", .str "b"])]
theorem z11_ok {A : Addr → Prop} {zs : List Str} {x : Str} {L0 T0 L1 T1 L2 L3 L4 L5 L6 : Addr} {H : Hp} (hn : ∀ z ∈ zs, Nm z) (hz : zs.length ≤ 12) (hx : Nm x)
    (n0 : ¬ A L0) (h0 : H L0 = some (.lst [])) (n1 : ¬ A T0) (h1 : H T0 = some (.tup [])) (n2 : ¬ A L1) (h2 : H L1 = some (.lst (zs.map V.str))) (n3 : ¬ A T1) (h3 : Tp H T1 (zs.map V.str))
    (n4 : ¬ A L2) (h4 : H L2 = some (.lst [.str "a", .str "b"])) (n5 : ¬ A L3) (h5 : H L3 = some (.lst [.ref L2])) (n6 : ¬ A L4) (h6 : H L4 = some (.lst [.str x])) (n7 : ¬ A L5) (h7 : H L5 = some (.lst [.str x, .str x])) (n8 : ¬ A L6) (h8 : H L6 = some (.lst [.str "A", .str "b"])) :
    ∀ z ∈ z11 zs x L0 T0 L1 T1 L3 L4 L5 L6, Tg A H z := by
  have sg : ∀ z ∈ (["a", "b", "A"] : List Str), Sg z ∧ z.cps.size ≤ 6 := fun z hz => by
    simp only [List.mem_cons, List.not_mem_nil, or_false] at hz
    rcases hz with rfl | rfl | rfl
    · exact ⟨sgB (by decide +kernel), by decide +kernel⟩
    · exact ⟨sgB (by decide +kernel), by decide +kernel⟩
    · exact ⟨sgB (by decide +kernel), by decide +kernel⟩
  have sub : ∀ {l : List Str}, (∀ z ∈ l, z ∈ (["a", "b", "A"] : List Str)) → ∀ z ∈ l, Sg z ∧ z.cps.size ≤ 6 := fun h z hz => sg z (h z hz)
  have sx : ∀ {l : List Str}, (∀ z ∈ l, z = x) → ∀ z ∈ l, Sg z ∧ z.cps.size ≤ 6 := fun h z hz => by rw [h z hz]; exact ⟨hx.sg, nm_size hx⟩
  have t2 : Tg A H (.ref L2, .list ((["a", "b"] : List Str).map PyData.str)) := tg_lst h4 n4 (sub (by decide +kernel)) (by decide)
  intro z hz
  unfold z11 at hz
  simp only [List.mem_cons, List.not_mem_nil, or_false] at hz
  rcases hz with rfl | rfl | rfl | rfl | rfl | rfl | rfl | rfl | rfl | rfl | rfl
  · exact tg_lst (zs := []) h0 n0 (fun z hz => nomatch hz) (by decide)
  · exact tg_tup (zs := []) (.inl h1) n1 (fun z hz => nomatch hz) (by decide)
  · exact ⟨.non, gd_none, by decide⟩
  · exact ⟨.int _, gd_int (by decide +kernel) (by decide +kernel), by decide +kernel⟩
  · exact ⟨.str _, gd_str (sg "a" (by decide +kernel)).1, by decide +kernel⟩
  · exact tg_lst h2 n2 (nm6 hn) (by omega)
  · exact tg_tup (.inr h3) n3 (nm6 hn) (by omega)
  · refine ⟨.lst (zs := [(.ref L2, .list [.str "a", .str "b"])]) n5 h5 (fun z hz => ?_), (Gd.list (m := 5) (w := 1000) (fun d hd => ?_) (by decide)), (by decide +kernel : (PyData.list [.list [.str "a", .str "b"]]).weight ≤ 100000)⟩
    · rw [List.mem_singleton.mp hz]
      exact t2.dq
    · rw [List.mem_singleton.mp hd]
      refine (Gd.list (m := 0) (w := 10) (ds := [.str "a", .str "b"]) (fun x hx => ?_) (by decide)).mono (by decide) (by decide)
      rcases List.mem_cons.mp hx with rfl | hx
      · exact gd_str (sg "a" (by decide +kernel)).1
      · rw [List.mem_singleton.mp hx]
        exact gd_str (sg "b" (by decide +kernel)).1
  · exact tg_lst (zs := [x]) h6 n6 (sx fun z hz => List.mem_singleton.mp hz) (Nat.le_of_ble_eq_true rfl)
  · exact tg_lst (zs := [x, x]) h7 n7 (sx fun z hz => by simpa using hz) (Nat.le_of_ble_eq_true rfl)
  · exact tg_lst (zs := ["A", "b"]) h8 n8 (sub (by decide +kernel)) (by decide)
theorem cut_drop {ls : List Str} {n : Nat} (h : n ≤ ls.length) : cutV (ls.map V.str) (some (n : Int)) none = (ls.drop n).map V.str := by
  unfold cutV
  rw [HT.sIx_none, HT.sIx_nat, Nat.min_eq_left (by rw [List.length_map]; omega), List.take_of_length_le (by rw [List.length_drop]; omega), ← List.map_drop]
theorem cut_take {ls : List Str} {n : Nat} (h : n ≤ ls.length) : cutV (ls.map V.str) none (some (n : Int)) = (ls.take n).map V.str := by
  unfold cutV
  rw [HT.sIx_none, HT.sIx_nat, Nat.min_eq_left (by rw [List.length_map]; omega), List.drop_zero, Nat.sub_zero, List.map_take]
theorem rep_two (ls : List Str) : (List.replicate (2 : Int).toNat (ls.map V.str)).flatten = (ls ++ ls).map V.str := by
  show (ls.map V.str) ++ ((ls.map V.str) ++ []) = _
  rw [List.append_nil, List.map_append]
end HF
namespace HF
open PySem PySem.Spec PyProof.Rows L2
/-! ### walks over what is a list or a tuple -/
section
variable {X : Cx}
def SeqIt (K : PySem.W.Frag) (H : Hp) (a : Addr) (R : It → Hp → Prop) : Prop := ∃ xs, (SqL K H a xs ∧ R (Itl K a) H) ∨ (SqT K H a xs ∧ R (Itt K a) H)
def iSeq (K : PySem.W.Frag) (tl : TE) : TI := fun σ H R => tl σ H fun v H1 => ∃ c, v = .ref c ∧ SeqIt K H1 c R
theorem pi_seq {tg e : Expr} {tl : TE} (he : PE X e tl) : PI X tg e (iSeq X.K tl) := by
  refine ⟨fun pn st σ H R J hyp => thn (he.run pn st σ H _ J hyp) ?_⟩
  rintro val t1 ⟨y, G, J1, rel, c, rfl, xs, way⟩
  cases rel
  have fresh : FpOk X pn G t1.heap.objs.size := J1.fpOk (Nat.le_refl _) (J1.hok.fresh (Nat.le_refl _))
  have pins : ∀ d ∈ [t1.heap.objs.size], FpOk X pn G d := fun d hd => by
    rw [List.mem_singleton.mp hd]
    exact fresh
  rcases way with ⟨sq, got⟩ | ⟨sq, got⟩
  · obtain ⟨items, _, isl, _⟩ := J1.list sq
    exact wpAny_pyIter_list isl.isList ⟨_, _, _, _, G, rfl, J1.kept (t' := t1.toks) (fun d o h => Heap.get?_push_of_some _ h), turn_list c _, ⟨_, Heap.get?_push_size _ rfl, rfl, rfl⟩, pins, got⟩
  · obtain ⟨items, _, ist, _⟩ := J1.tuple sq
    exact wpAny_pyIter_tuple (show t1.heap.IsTuple c items.toArray from ist) ⟨_, _, _, _, G, rfl, J1.kept (t' := t1.toks) (fun d o h => Heap.get?_push_of_some _ h), turn_tuple c _, ⟨_, Heap.get?_push_size _ rfl, rfl, rfl⟩, pins, got⟩
theorem iseq {K : PySem.W.Frag} {a : Addr} {xs : List V} {H : Hp} {R : It → Hp → Prop} (hq : Sq K H a xs) (h : ∀ J, Walk J xs.length (Kp K a H) (YAt xs) → R J H) : SeqIt K H a R := by
  rcases hq with hq | hq
  · exact ⟨xs, .inl ⟨hq, h _ ((walk_list (xs := xs)).mono (fun G k => k.1 _ hq) fun _ _ _ _ _ _ y => y)⟩⟩
  · exact ⟨xs, .inr ⟨hq, h _ ((walk_tup (xs := xs)).mono (fun G k => k.2 _ hq) fun _ _ _ _ _ _ y => y)⟩⟩
def gSeq (K : PySem.W.Frag) (n : Nat) (t : TGs) : TG := fun v σ H Q => ∃ a xs, v = .ref a ∧ Sq K H a xs ∧ xs.length = n ∧ t xs σ H Q
theorem pg_seq {es : List Expr} {k : Nat} {t : TGs} {n : Nat} {pos : Pos} (hc : X.calm = true) (h : PGs X es t) (hn : (assignEach es X.env).length = n := by rfl) (hst : (assignEach es X.env).findIdx? (·.1) = none := by rfl) : PG X (.Tuple es k pos) (gSeq X.K n t) := by
  refine ⟨fun pins s σ H v u Q I r hw => ?_⟩
  obtain ⟨a, xs, e, sq, l, q⟩ := hw
  rcases sq with sq | sq
  · exact (pg_unl hc h hn hst).run pins s σ H v u Q I r ⟨a, xs, e, sq, l, q⟩
  · exact (pg_tup hc h hn hst).run pins s σ H v u Q I r ⟨a, xs, e, sq, l, q⟩
def rSlQ (K : PySem.W.Frag) : V → Option Int → Option Int → Hp → VK → Prop := fun x lo hi H Q => ∃ a xs, x = .ref a ∧ Sq K H a xs ∧ ∀ b H', Same H H' → Sq K H' b (cutV xs lo hi) → Q (.ref b) H'
theorem sl_seq : SlR X (rSlQ X.K) := by
  intro pins s σ H x v vl vu lo hi sl Q I rx hs pl pu h
  obtain ⟨a, xs, e, sq, q⟩ := h
  rcases sq with sq | sq
  · exact sl_list pins s σ H x v vl vu lo hi sl Q I rx hs pl pu ⟨a, xs, e, sq, fun p np => q p _ (same_upd np) (.inl (.inl (.inl upd_same)))⟩
  · exact sl_tupW pins s σ H x v vl vu lo hi sl Q I rx hs pl pu ⟨a, xs, e, sq, fun p H' sm hq => q p H' sm (.inr hq)⟩
def tRevQ (K : PySem.W.Frag) (te : TE) (k : Nat) : TE := oE (tRevL K te) (tRevT K te)
theorem rev_seq {K : PySem.W.Frag} {k : Nat} {a : Addr} {xs : List V} {σ : L2.St} {H : Hp} {Q : VK} (hv : σ[k]? = some (some (.ref a))) (hq : Sq K H a xs) (h : ∀ b H', H b = none → Same H H' → Sq K H' b xs.reverse → Q (.ref b) H') : oE (tRevL K (tVar k)) (tRevT K (tVar k)) σ H Q := by
  rcases hq with hq | hq
  · exact .inl ⟨.ref a, hv, a, xs, rfl, hq, fun p np => h p _ np (same_upd np) (.inl (.inl (.inl upd_same)))⟩
  · exact .inr ⟨.ref a, hv, a, xs, rfl, hq, fun p ob np _ _ => h p _ np (same_upd np) (.inr (.inl (.inr ⟨ob, upd_same⟩)))⟩
end
/-! ### pairs in lists or tuples -/
def Pz (K : PySem.W.Frag) (H : Hp) (r : Addr) (qs : List (Str × Str)) : Prop := ∃ as : List Addr, Sq K H r (as.map V.ref) ∧ as.length = qs.length ∧ ∀ (i : Nat) (a : Addr) (q : Str × Str), as[i]? = some a → qs[i]? = some q → Sq K H a [.str q.1, .str q.2]
theorem PqA.pz {K : PySem.W.Frag} {H : Hp} {r : Addr} {qs : List (Str × Str)} (h : PqA K H r qs) : Pz K H r qs := by
  rcases h with ⟨as, h1, h2, h3⟩ | ⟨as, h1, h2, h3⟩
  · exact ⟨as, .inr h1, h2, fun i a q e f => .inr (h3 i a q e f)⟩
  · exact ⟨as, .inl h1, h2, fun i a q e f => .inl (h3 i a q e f)⟩
theorem Pz.same {K : PySem.W.Frag} {H H' : Hp} {r : Addr} {qs : List (Str × Str)} (h : Pz K H r qs) (s : Same H H') : Pz K H' r qs := by
  obtain ⟨as, h1, h2, h3⟩ := h
  exact ⟨as, sameQ s h1, h2, fun i a q e f => sameQ s (h3 i a q e f)⟩
/-! ### dicts of numbers by books, of books by books -/
abbrev dkv (zs : List Str) (h : Str → Int) : List (Key × V) := zs.map fun x => ((Sum.inr x : Key), V.int (h x))
def DH (H : Hp) (D : Addr) (zs : List Str) (h : Str → Int) : Prop := H D = some (.dK (dkv zs h))
theorem dkv_put {zs : List Str} {h : Str → Int} {x : Str} {n : Int} (hx : x ∈ zs) : putK (dkv zs h) (Sum.inr x) (.int n) = dkv zs (setF h x n) := by
  unfold putK
  rw [if_pos (by
    rw [List.any_eq_true]
    exact ⟨(Sum.inr x, .int (h x)), List.mem_map.mpr ⟨x, hx, rfl⟩, decide_eq_true rfl⟩), List.map_map]
  refine List.map_congr_left fun y _ => ?_
  show (if (Sum.inr y : Key) = Sum.inr x then ((Sum.inr y : Key), V.int n) else (Sum.inr y, V.int (h y))) = (Sum.inr y, V.int (setF h x n y))
  unfold setF
  by_cases e : y = x
  · rw [e, if_pos rfl, if_pos rfl]
  · rw [if_neg e, if_neg (fun z => e (Sum.inr.inj z))]
theorem dkv_len (zs : List Str) (h : Str → Int) : (dkv zs h).length = zs.length := List.length_map ..
theorem DH.get {H : Hp} {D : Addr} {zs : List Str} {h : Str → Int} {x : Str} (d : DH H D zs h) (hx : x ∈ zs) : DGet H D (.str x) (some (.int (h x))) := by
  have := DGet.k (k := (Sum.inr x : Key)) d
  rw [keys_at (g := fun x => V.int (h x)) hx] at this
  exact this
theorem DH.put {H : Hp} {D : Addr} {zs : List Str} {h : Str → Int} {x : Str} {n : Int} (d : DH H D zs h) (hx : x ∈ zs) (few : zs.length ≤ 1000) : DPut H D (.str x) (.int n) (upd H D (.dK (dkv zs (setF h x n)))) := by
  have := DPut.k (k := (Sum.inr x : Key)) (v := .int n) d (by rw [dkv_len, sizeLine_eq]; omega)
  rw [dkv_put hx] at this
  exact this
def DC (H : Hp) (D : Addr) (c : Str → Option Str) (n : Nat) : Prop := ∃ kvs : List (Key × V), H D = some (.dK kvs) ∧ kvs.length ≤ n ∧ ∀ x : Str, valV kvs (Sum.inr x) = (c x).map V.str
theorem DC.get {H : Hp} {D : Addr} {c : Str → Option Str} {n : Nat} {x y : Str} (d : DC H D c n) (hx : c x = some y) : DGet H D (.str x) (some (.str y)) := by
  obtain ⟨kvs, e, l, v⟩ := d
  have := DGet.k (k := (Sum.inr x : Key)) e
  rw [v, hx] at this
  exact this
theorem DC.put {H : Hp} {D : Addr} {c : Str → Option Str} {n : Nat} {x y : Str} (d : DC H D c n) (few : n ≤ 1000000) : ∃ H', H' = upd H D (H' D |>.getD (.dK [])) ∧ DPut H D (.str x) (.str y) H' ∧ DC H' D (setF c x (some y)) (n + 1) ∧ ∀ b, b ≠ D → H' b = H b := by
  obtain ⟨kvs, e, l, v⟩ := d
  refine ⟨upd H D (.dK (putK kvs (Sum.inr x) (.str y))), by rw [upd_same]; rfl, DPut.k (k := (Sum.inr x : Key)) e (by rw [sizeLine_eq]; omega), ⟨_, upd_same, Nat.le_trans (length_putK _ _ _) (Nat.succ_le_succ l), fun z => ?_⟩, fun b hb => upd_ne hb⟩
  rw [valV_put]
  unfold setF
  by_cases ez : z = x
  · rw [if_pos ez, if_pos (by rw [ez])]
    rfl
  · rw [if_neg ez, if_neg (fun q => ez (Sum.inr.inj q)), v]
/-! ### {x: 0 for x in xs} -/
theorem dc_nil {K : PySem.W.Frag} {k j : Nat} {a : Addr} {zs : List Str} {σ : L2.St} {H : Hp} {Q : VK} (hv : σ[k]? = some (some (.ref a))) (hq : Sq K H a (zs.map V.str)) (nd : zs.Nodup) (few : zs.length ≤ 1000)
    (hw : ∀ x : V, wipe ((wipe σ [j]).set j (some x)) [j] = wipe σ [j]) (hx : ∀ x : V, ((wipe σ [j]).set j (some x))[j]? = some (some x))
    (hd : ∀ D H', H D = none → Same H H' → DH H' D zs (fun _ => 0) → Q (.ref D) H') : tDc (iSeq K (tVar k)) (gName j) tYes (tVar j) (tC (.int 0)) [j] σ H Q := by
  refine ⟨.ref a, hv, a, rfl, iseq hq fun J wkk D nD => dc_it wkk (fun i H4 => DH H4 D (zs.take i) (fun _ => 0) ∧ Same H H4) ⟨upd_same, same_upd nD⟩ (fun i H4 _ h => Kp.of h.2) ?_ ?_⟩
  · rintro i v H4 H5 hi ⟨hD, s4⟩ ⟨rfl, hv2⟩
    rw [List.getElem?_map] at hv2
    obtain ⟨x, hxi, rfl⟩ := Option.map_eq_some_iff.mp hv2
    have nx : x ∉ zs.take i := fun z => by
      have h1 := (mem_take_pos (Nat.le_of_lt (by rw [List.length_map] at hi; exact hi))).mp z
      rw [pos_at nd hxi] at h1
      omega
    refine ⟨hw _, .str x, hx _, _, Sum.inr x, rfl, hD, by rw [dkv_len, List.length_take, sizeLine_eq]; omega, ?_, same_put s4 nD⟩
    have e : putK (dkv (zs.take i) (fun _ => 0)) (Sum.inr x) (.int 0) = dkv (zs.take (i + 1)) (fun _ => 0) := by
      rw [putK_new _ (keys_out (g := fun _ => V.int 0) nx), List.take_add_one, hxi]
      show _ = dkv (zs.take i ++ [x]) _
      rw [show dkv (zs.take i ++ [x]) (fun _ => 0) = dkv (zs.take i) (fun _ => 0) ++ [(Sum.inr x, V.int 0)] from List.map_append]
    show (upd H5 D _) D = _
    rw [upd_same, e]
  · rintro H4 ⟨hD, s4⟩
    rw [List.length_map, List.take_length] at hD
    exact hd D H4 nD s4 hD
/-! ### the greatest value of a dict -/
section
variable {X : Cx}
def tMaxVals (td : TE) : TE := fun σ H Q => td σ H fun x H1 => ∃ (D : Addr) (zs : List Str) (h : Str → Int), x = .ref D ∧ DH H1 D zs h ∧ zs ≠ [] ∧ ∀ m : Int, (∃ z ∈ zs, h z = m) → (∀ z ∈ zs, h z ≤ m) → Q (.int m) H1
theorem pe_maxVals {o : Expr} {p pos apos mpos : Pos} {td : TE} (calm : X.calm = true) (gl : Gl X "max") (mm : X.mg "max" = none) (ho : PE X o td) (plainO : attributeBase o "values" X.env (eval o X.env) = eval o X.env := by rfl) (row1 : (apos.endLine == mpos.line) = true := by rfl)
    (one : starEach [Expr.Call (.Attribute o "values" apos) [] [] mpos] X.env = [(false, eval (Expr.Call (.Attribute o "values" apos) [] [] mpos) X.env)] := by rfl) :
    PE X (.Call (.Name "max" p) [.Call (.Attribute o "values" apos) [] [] mpos] [] pos) (tMaxVals td) := by
  refine ⟨fun pn st σ H Q I0 want => wpAny_Call_Name_kw (ld_blt I0 gl mm (u := .builtin "max") (by first | rfl | decide +kernel) ?_ (by first | decide +kernel | decide) (by first | decide +kernel | decide))⟩
  rw [one]
  refine PySem.callWith_builtin1 (wpAny_Call_method0_late plainO row1 (thn (ho.run pn st σ H _ I0 want) ?_))
  rintro val t1 ⟨y, G, I1, rel1, D, zs, h, rfl, hD, hne, q⟩
  cases rel1
  obtain ⟨_, nsys, vs, rel, dof⟩ := dk_of I1.hok hD
  obtain ⟨ep, dat⟩ := dof.dictAt
  obtain ⟨ob, es, hob, exact_, _, _, _, _⟩ := id dat
  refine ⟨"dict", "dict.values", F.plainAttrs_dict, F.slot_dict_values, F.type_dict_values, ⟨ob, hob, exact_.1⟩, fun b e => by cases e; exact ⟨ob, hob, exact_.2.1⟩, Calls.callWith_builtin rfl (PySem.evalArgs_none ?_)⟩
  refine call_meetsIn F.slot_dict_values ⟨ob, hob, exact_.1⟩ F.entry_dict_values (F.args_dict_values_1 _) (meets_dict_values (mixKind X.prog X.w) D nsys) ⟨⟨vs, dof⟩, ?_⟩
  let view : Obj := { cls := .type "dict_values", data := .fields #[.ref D] }
  have up1 : ∀ b u, t1.heap.get? b = some u → (t1.heap.push view).get? b = some u := fun b u e => Heap.get?_push_of_some _ e
  have datV : (t1.heap.push view).DictAt (mixKind X.prog X.w) D vs ep := dat.keep up1
  have many : vs.length = zs.length := (KV.length rel).symm.trans (dkv_len zs h)
  have pos1 : 0 < vs.length := by
    rw [many]
    exact List.length_pos_iff.mpr hne
  have each : ∀ (i : Nat) (v : Value), (∃ k, vs[i]? = some (k, v)) → ∃ t, v = Value.int (h (zs.getD i "")) t := by
    rintro i v ⟨k, hk⟩
    obtain ⟨x, g1, g2⟩ := KV.at' rel hk
    rw [List.getElem?_map] at g1
    obtain ⟨z, hz, e⟩ := Option.map_eq_some_iff.mp g1
    have ex : x = V.int (h z) := (congrArg Prod.snd e).symm
    subst ex
    obtain ⟨t, et⟩ := g2
    exact ⟨t, by rw [et, List.getD_eq_getElem?_getD, hz]; rfl⟩
  have older : D < t1.heap.objs.size := Heap.lt_size hob
  have size1 : (t1.heap.push view).objs.size = t1.heap.objs.size + 1 := Heap.size_push _ _
  refine call_max_walk (wpAny_pyIter_values (v := t1.heap.objs.size) (d := D) ⟨_, Heap.get?_push_size _ rfl, rfl, rfl⟩ datV ?_)
  refine ⟨_, _, _, _, _, _, _, rfl, Walks.dictValues (knd := mixKind X.prog X.w) (A := X.A.in1) (I0.ok.hd calm) (t1.heap.push view).objs.size D (by rw [size1]; exact Nat.ne_of_lt (Nat.lt_succ_of_lt older)) vs ep, ⟨⟨_, Heap.get?_push_size _ rfl, rfl, rfl⟩, datV.keep fun b u e => Heap.get?_push_of_some _ e⟩, ?_, pos1, CmpOf.ints_gt (fun i => h (zs.getD i "")) each, ?_⟩
  · intro b hb
    show b < ((t1.heap.push view).push _).objs.size
    rw [Heap.size_push, size1]
    rcases List.mem_cons.mp hb with e | hb
    · rw [e, size1]
      exact Nat.lt_succ_self _
    · rw [List.mem_singleton.mp hb]
      exact Nat.lt_succ_of_lt (Nat.lt_succ_of_lt older)
  · intro v h' tk hP keeps
    obtain ⟨t, rfl⟩ := each _ v hP
    obtain ⟨b1, b2⟩ := argBest_gt (fun i => h (zs.getD i "")) (vs.length - 1)
    have inz : ∀ i, i < zs.length → zs.getD i "" ∈ zs := fun i hi => by
      rw [List.getD_eq_getElem?_getD, List.getElem?_eq_getElem hi]
      exact List.getElem_mem hi
    refine ⟨.int _, G, I1.kept (t' := tk) fun b u e => keeps b u (fun hm => ?_) (Heap.get?_push_of_some _ (up1 b u e)), ⟨t, rfl⟩, q _ ⟨_, inz _ (by omega), rfl⟩ fun z hz => ?_⟩
    · have e1 : b = (t1.heap.push view).objs.size := List.mem_singleton.mp hm
      have e2 := Heap.lt_size e
      rw [e1, size1] at e2
      exact absurd e2 (Nat.not_lt.mpr (Nat.le_succ _))
    · obtain ⟨i, hi, e⟩ := List.mem_iff_getElem.mp hz
      have e2 : zs.getD i "" = z := by rw [List.getD_eq_getElem?_getD, List.getElem?_eq_getElem hi, ← e]; rfl
      rw [← e2]
      exact b2 i (by omega)
end
end HF
namespace HF
open PySem PySem.Spec PyProof.Rows L2
/-! ### promises of the functions about two heaps -/
def optS : Option Str → V
  | none => .non
  | some f => .str f
/-- triples (book, friend, gain) -/
def GsAt (H : Hp) (G : Addr) (qs : List (Str × Str)) (g : Str × Str → Int) : Prop := ∃ as : List Addr, H G = some (.lst (as.map V.ref)) ∧ as.length = qs.length ∧ ∀ (i : Nat) (a : Addr) (q : Str × Str), as[i]? = some a → qs[i]? = some q → H a = some (.tup [.str q.1, .str q.2, .int (g q)])
theorem GsAt.oth {H H' : Hp} {G : Addr} {qs : List (Str × Str)} {g : Str × Str → Int} {A : Addr → Prop} (h : GsAt H G qs g) (o : OthA A H H') (na : ∀ b u, A b → H b = some u → ∃ kvs, u = .dK kvs) : GsAt H' G qs g := by
  obtain ⟨as, h1, h2, h3⟩ := h
  refine ⟨as, o _ _ h1 fun z => ?_, h2, fun i a q e f => o _ _ (h3 i a q e f) fun z => ?_⟩
  · obtain ⟨kvs, e⟩ := na _ _ z h1
    exact nomatch e
  · obtain ⟨kvs, e2⟩ := na _ _ z (h3 i a q e f)
    exact nomatch e2
theorem GsAt.same {H H' : Hp} {G : Addr} {qs : List (Str × Str)} {g : Str × Str → Int} (h : GsAt H G qs g) (o : Same H H') : GsAt H' G qs g := by
  obtain ⟨as, h1, h2, h3⟩ := h
  exact ⟨as, o _ _ h1, h2, fun i a q e f => o _ _ (h3 i a q e f)⟩
theorem DC.le {H : Hp} {D : Addr} {c : Str → Option Str} {n m : Nat} (d : DC H D c n) (h : n ≤ m) : DC H D c m := by
  obtain ⟨kvs, e, l, v⟩ := d
  exact ⟨kvs, e, Nat.le_trans l h, v⟩
/-- two heaps of the same books, and ties -/
structure Two (K : PySem.W.Frag) (H : Hp) (h o r : Addr) (zs ws : List Str) (qs : List (Str × Str)) : Prop where
  hz : Hq K H h zs
  hw : Hq K H o ws
  ti : Pz K H r qs
  pm : ws.Perm zs
  nd : zs.Nodup
  ne : zs ≠ []
  few : zs.length ≤ 100
  qf : qs.length ≤ 400
  cl : ∀ q ∈ qs, q.2 ∈ zs ∧ q.1 ≠ q.2 ∧ q.1 ∈ zs
  nm : ∀ z ∈ zs, Nm z
theorem Two.same {K : PySem.W.Frag} {H H' : Hp} {h o r : Addr} {zs ws : List Str} {qs : List (Str × Str)} (t : Two K H h o r zs ws qs) (s : Same H H') : Two K H' h o r zs ws qs := { t with hz := t.hz.same s, hw := t.hw.same s, ti := t.ti.same s }
theorem Two.wnd {K : PySem.W.Frag} {H : Hp} {h o r : Addr} {zs ws : List Str} {qs : List (Str × Str)} (t : Two K H h o r zs ws qs) : ws.Nodup := t.pm.nodup_iff.mpr t.nd
def spGain (K : PySem.W.Frag) : Sp := fun vs H Q _ => ∃ (h o : Addr) (b f : Str) (zs ws : List Str), vs = [.ref h, .ref o, .str b, .str f] ∧ Hq K H h zs ∧ Hq K H o ws ∧ b ∈ zs ∧ f ∈ zs ∧ b ∈ ws ∧ f ∈ ws ∧ Q (.int (gn zs ws (b, f))) H
def spTG (K : PySem.W.Frag) : Sp := fun vs H Q _ => ∃ (h o r : Addr) (zs ws : List Str) (qs : List (Str × Str)), vs = [.ref h, .ref o, .ref r] ∧ Two K H h o r zs ws qs ∧ ∀ (H' : Hp) (G : Addr), Same H H' → H G = none → GsAt H' G qs (gn zs ws) → Q (.ref G) H'
def TwoD (a b : Addr) : Addr → Prop := fun x => x = a ∨ x = b
def spRaise : Sp := fun vs H Q _ => ∃ (G Dh Dc : Addr) (zs ws : List Str) (qs : List (Str × Str)) (t n : Nat) (h : Str → Int) (c : Str → Option Str) (r : Str → Nat), vs = [.ref G, .ref Dh, .ref Dc] ∧ GsAt H G qs (gn zs ws) ∧ DH H Dh zs h ∧ DC H Dc c n ∧ Dh ≠ Dc ∧ Bf qs (gn zs ws) t h c r [] ∧ (∀ q ∈ qs, q.2 ∈ zs ∧ q.1 ≠ q.2 ∧ q.1 ∈ zs) ∧ zs.length ≤ 100 ∧ qs.length ≤ 400 ∧ n ≤ 500000 ∧
  ∀ (H' : Hp) (h' : Str → Int) (c' : Str → Option Str) (r' : Str → Nat) (last : Option Str), OthA (TwoD Dh Dc) H H' → DH H' Dh zs h' → DC H' Dc c' (n + qs.length) → Mid qs (gn zs ws) t h' c' r' qs last → (∀ f, last = some f → f ∈ zs) → rnd qs (gn zs ws) h c = (h', c', last) → Q (optS last) H'
def spBack : Sp := fun vs H Q _ => ∃ (Dc : Addr) (v s : Str) (zs : List Str) (c : Str → Option Str) (n : Nat), vs = [.ref Dc, .str v, .int (zs.length : Nat)] ∧ DC H Dc c n ∧ zs.Nodup ∧ v ∈ zs ∧ (∀ x y, c x = some y → y ∈ zs) ∧ wk c zs.length v = some s ∧ zs.length ≤ 100 ∧
  ∀ (H' : Hp) (l : Addr) (q : Nat → Str) (m : Nat), Same H H' → H l = none → H' l = some (.lst ((back q m).reverse.map V.str)) → 1 ≤ m → q 0 = s → q m = s → (∀ k, c (q k) = some (q (k + 1))) → (∀ k, 1 ≤ k → k < m → q k ≠ s) → Q (.ref l) H'
def spGrow (K : PySem.W.Frag) : Sp := fun vs H Q _ => ∃ (h o r : Addr) (zs ws : List Str) (qs : List (Str × Str)), vs = [.ref h, .ref o, .ref r] ∧ Two K H h o r zs ws qs ∧
  (∀ (H' : Hp) (p : Str → Int), Same H H' → Pot zs ws qs p → Q .non H') ∧
  ∀ (H' : Hp) (l : Addr) (ls : List Str), Same H H' → H l = none → H' l = some (.lst (ls.map V.str)) → Rng qs zs ls → T zs ls < T ws ls → RingIs zs ws qs ls → Q (.ref l) H'
def spForce (K : PySem.W.Frag) : Sp := fun vs H Q _ => ∃ (h o D : Addr) (zs ws : List Str) (g : Str → Int), vs = [.ref h, .ref o, .ref D] ∧ Hq K H h zs ∧ Hq K H o ws ∧ ws.Perm zs ∧ zs.Nodup ∧ zs.length ≤ 100 ∧ DH H D zs g ∧ ∀ (H' : Hp) (m : Nat), Same H H' → Fm zs ws g m → Q (.int (m : Nat)) H'
def spLeast (K : PySem.W.Frag) : Sp := fun vs H Q _ => ∃ (h o r : Addr) (zs ws : List Str) (qs : List (Str × Str)) (p : Str → Int), vs = [.ref h, .ref o, .ref r] ∧ Two K H h o r zs ws qs ∧ Pot zs ws qs p ∧
  ∀ (H' : Hp) (D : Addr) (g : Str → Int), Same H H' → H D = none → DH H' D zs g → Lst zs ws qs g → Q (.ref D) H'
/-- the greatest number -/
def Gr (zs : List Str) (g : Str → Int) (m : Nat) : Prop := (∃ z ∈ zs, g z = m) ∧ ∀ z ∈ zs, g z ≤ m
def spRow (K : PySem.W.Frag) : Sp := fun vs H Q _ => ∃ (o D : Addr) (zs ws : List Str) (g : Str → Int), vs = [.ref o, .ref D] ∧ Hq K H o ws ∧ ws.Perm zs ∧ zs ≠ [] ∧ zs.length ≤ 100 ∧ DH H D zs g ∧ (∀ z ∈ zs, 0 ≤ g z ∧ g z ≤ 100) ∧
  ∀ (H' : Hp) (l : Addr) (m : Nat), Same H H' → H l = none → Gr zs g m → H' l = some (.lst ((rowOf ws g m).map V.str)) → Q (.ref l) H'
def spLeads (K : PySem.W.Frag) : Sp := fun vs H Q _ => ∃ (h o r : Addr) (zs ws : List Str) (qs : List (Str × Str)), vs = [.ref h, .ref o, .ref r] ∧ Two K H h o r zs ws qs ∧
  (∀ (H' : Hp) (p : Str → Int), Same H H' → Pot zs ws qs p → Q (.bl true) H') ∧
  ∀ (H' : Hp) (ls : List Str), Same H H' → Rng qs zs ls → T zs ls < T ws ls → Q (.bl false) H'
def spBetw (K : PySem.W.Frag) : Sp := fun vs H Q _ => ∃ (h o r : Addr) (zs ws : List Str) (qs : List (Str × Str)), vs = [.ref h, .ref o, .ref r] ∧ Two K H h o r zs ws qs ∧
  (∀ (H' : Hp) (t l : Addr) (p g : Str → Int) (m : Nat), Same H H' → H t = none → H l = none → H' t = some (.tup [.str "row", .ref l]) → H' l = some (.lst ((rowOf ws g m).map V.str)) → Pot zs ws qs p → Lst zs ws qs g → Gr zs g m → Q (.ref t) H') ∧
  ∀ (H' : Hp) (t l : Addr) (ls : List Str), Same H H' → H t = none → H l = none → H' t = some (.tup [.str "ring", .ref l]) → H' l = some (.lst (ls.map V.str)) → Rng qs zs ls → T zs ls < T ws ls → RingIs zs ws qs ls → Q (.ref t) H'
def spUnl (K : PySem.W.Frag) : Sp := fun vs H Q _ => ∃ (h o : Addr) (zs ws : List Str), vs = [.ref h, .ref o] ∧ Hq K H h zs ∧ Hq K H o ws ∧ ws.Perm zs ∧ zs.length ≤ 100 ∧ (∀ z ∈ zs, Nm z) ∧ ∀ H' : Hp, Same H H' → Q .non H'
theorem asg_dc {wi : TI} {g : TG} {tt : TT} {tk tv : TE} {vs : List Nat} {i : Nat} {b : TS} {D : Ends} {σ : L2.St} {H : Hp} (h : tDc wi g tt tk tv vs σ H (fun v H1 => b D (σ.set i (some v)) H1)) : tSeq (tAsg (tDc wi g tt tk tv vs) (gName i)) b D σ H := h
theorem srt_same {xs ys : List Str} (h : xs.Perm ys) : srt xs = srt ys := rise_one ((srt_perm xs).trans (h.trans (srt_perm ys).symm)) (srt_rise _) (srt_rise _)
theorem max_one (x : Int) : (if (1 : Int) > x then 1 else x) = max x 1 := by
  split <;> omega
theorem setF_r (g : Str → Int) (x : Str) (v : Int) : setF g x v x = v := setF_eq _ _ _
theorem othA_same {A : Addr → Prop} {H H1 Hx : Hp} (s : Same H H1) (o : OthA A H1 Hx) (na : ∀ b, A b → H b = none) : Same H Hx := fun b u e => o _ _ (s _ _ e) fun z => by
  rw [na b z] at e
  exact nomatch e
theorem layer_step {ws : List Str} {g : Str → Int} {m i : Nat} (h : i < m) : ∀ acc : List Str, acc = ((List.range i).map fun k => layer ws g (m - k)).flatten → acc ++ layer ws g (m - i) = ((List.range (i + 1)).map fun k => layer ws g (m - k)).flatten := by
  rintro acc rfl
  rw [List.range_succ, List.map_append, List.flatten_append]
  simp
theorem rowOf_flat {ws : List Str} {g : Str → Int} : ∀ m, ((List.range m).map fun k => layer ws g (m - k)).flatten = rowOf ws g m
  | 0 => rfl
  | m + 1 => by
    rw [List.range_succ_eq_map, List.map_cons, List.map_map, List.flatten_cons]
    show layer ws g (m + 1) ++ _ = layer ws g (m + 1) ++ rowOf ws g m
    rw [← rowOf_flat m]
    congr 2
    refine List.map_congr_left fun k _ => ?_
    show layer ws g (m + 1 - (k + 1)) = layer ws g (m - k)
    rw [Nat.add_sub_add_right]
theorem rows_len {ws : List Str} {g : Str → Int} {m : Nat} : ∀ i, (((List.range i).map fun k => layer ws g (m - k)).flatten).length ≤ i * ws.length
  | 0 => Nat.zero_le _
  | i + 1 => by
    have h1 := rows_len (ws := ws) (g := g) (m := m) i
    have h2 := layer_len ws g (m - i)
    rw [List.range_succ, List.map_append, List.flatten_append, List.length_append, Nat.add_mul]
    simp only [List.map_cons, List.map_nil, List.flatten_cons, List.flatten_nil, List.append_nil]
    omega
end HF
namespace HF
open PySem PySem.Spec PyProof.Rows L2
/-! ### a row by rounds is let, and leaves the other heap -/
theorem pos_rev {x : Str} {zs : List Str} (nd : zs.Nodup) (hx : x ∈ zs) : pos x zs.reverse + pos x zs + 1 = zs.length := by
  have hl := pos_lt hx
  have hg := pos_get hx
  have nr : zs.reverse.Nodup := List.pairwise_reverse.mpr (nd.imp fun h e => h e.symm)
  have : zs.reverse[zs.length - 1 - pos x zs]? = some x := by
    rw [List.getElem?_reverse (by omega), show zs.length - 1 - (zs.length - 1 - pos x zs) = pos x zs by omega]
    exact hg
  have h2 := pos_at nr this
  omega
theorem later_pos {zs steps : List Str} {x y : Str} (nd : zs.Nodup) (hs : ∀ b ∈ steps, b ∈ zs) (hx : x ∈ zs) (hy : y ∈ zs) (ne : x ≠ y) (h : Later zs steps x y) : pos x (lefts zs steps) < pos y (lefts zs steps) := by
  have hp := lefts_perm nd hs
  have hr := last_rise nd steps
  rw [← lefts_last] at hr
  have hnd : (lefts zs steps).Nodup := hp.nodup_iff.mpr nd
  have hx2 : x ∈ lefts zs steps := hp.mem_iff.mpr hx
  have hy2 : y ∈ lefts zs steps := hp.mem_iff.mpr hy
  refine Nat.lt_of_not_le fun hle => ?_
  have hne : pos y (lefts zs steps) ≠ pos x (lefts zs steps) := fun e => ne (pos_inj hy2 hx2 e).symm
  have hlt : pos y (lefts zs steps) < pos x (lefts zs steps) := by omega
  have h1 := List.pairwise_iff_getElem.mp hr (pos y (lefts zs steps)) (pos x (lefts zs steps)) (pos_lt hy2) (pos_lt hx2) hlt
  have e1 : (lefts zs steps)[pos y (lefts zs steps)]'(pos_lt hy2) = y := (List.getElem?_eq_some_iff.mp (pos_get hy2)).2
  have e2 : (lefts zs steps)[pos x (lefts zs steps)]'(pos_lt hx2) = x := (List.getElem?_eq_some_iff.mp (pos_get hx2)).2
  rw [e1, e2] at h1
  unfold Later at h h1
  omega
theorem refAt_snoc {qs : List (Str × Str)} {zs P : List Str} {b : Str} (h : refAt qs zs P = none) (hl : lets qs (lefts zs P) b = true) : refAt qs zs (P ++ [b]) = none := by
  rw [refAt_app, h]
  show (refAt qs (lefts zs P) [b]).map _ = none
  unfold refAt
  rw [if_pos hl]
  rfl
/-- the rounds above k -/
def hiOf (ws : List Str) (g : Str → Int) : Nat → Nat → List Str
  | _, 0 => []
  | k, d + 1 => hiOf ws g (k + 1) d ++ layer ws g (k + 1)
theorem hi_row (ws : List Str) (g : Str → Int) : ∀ d k, hiOf ws g k d ++ rowOf ws g k = rowOf ws g (k + d)
  | 0, k => rfl
  | d + 1, k => by
    show (hiOf ws g (k + 1) d ++ layer ws g (k + 1)) ++ rowOf ws g k = _
    rw [List.append_assoc, show layer ws g (k + 1) ++ rowOf ws g k = rowOf ws g (k + 1) from rfl, hi_row ws g d (k + 1), show k + 1 + d = k + (d + 1) by omega]
theorem mem_layer {ws : List Str} {g : Str → Int} {k : Nat} {x : Str} : x ∈ layer ws g k ↔ x ∈ ws ∧ (k : Int) ≤ g x := by
  unfold layer
  rw [List.mem_filter, List.mem_reverse]
  simp
theorem mem_hi {ws : List Str} {g : Str → Int} {x : Str} : ∀ {d k : Nat}, x ∈ hiOf ws g k d → x ∈ ws ∧ (k : Int) < g x
  | 0, k, h => nomatch h
  | d + 1, k, h => by
    rcases List.mem_append.mp h with z | z
    · have := mem_hi z
      exact ⟨this.1, by omega⟩
    · have := mem_layer.mp z
      exact ⟨this.1, by omega⟩
theorem hi_mem {ws : List Str} {g : Str → Int} {x : Str} {d k : Nat} (hx : x ∈ ws) (h1 : (k : Int) < g x) (hd : 0 < d) : x ∈ hiOf ws g k d := by
  obtain ⟨e, rfl⟩ : ∃ e, d = e + 1 := ⟨d - 1, by omega⟩
  exact List.mem_append.mpr (.inr (mem_layer.mpr ⟨hx, by omega⟩))
theorem pos_app_in {x : Str} : ∀ {a b : List Str}, x ∈ a → pos x (a ++ b) = pos x a
  | z :: r, b, h => by
    show pos x (z :: (r ++ b)) = pos x (z :: r)
    unfold pos
    by_cases e : z = x
    · rw [if_pos e, if_pos e]
    · rw [if_neg e, if_neg e, pos_app_in ((List.mem_cons.mp h).resolve_left fun q => e q.symm)]
theorem pos_app_out {x : Str} : ∀ {a b : List Str}, x ∉ a → pos x (a ++ b) = a.length + pos x b
  | [], b, _ => by simp
  | z :: r, b, h => by
    show (if z = x then 0 else pos x (r ++ b) + 1) = r.length + 1 + pos x b
    rw [if_neg (fun e => h (by rw [e]; exact List.mem_cons_self)), pos_app_out (b := b) fun q => h (List.mem_cons_of_mem _ q)]
    exact Nat.add_right_comm _ _ _
theorem pos_layer {ws : List Str} {g : Str → Int} {k : Nat} {x y : Str} (nd : ws.Nodup) (hx : x ∈ ws) (hy : y ∈ ws) (gx : (k : Int) ≤ g x) (gy : (k : Int) ≤ g y) (h : pos y ws < pos x ws) : pos x (layer ws g k) < pos y (layer ws g k) := by
  unfold layer
  rw [pos_filter (decide_eq_true gx) (decide_eq_true gy)]
  have h1 := pos_rev nd hx
  have h2 := pos_rev nd hy
  omega
theorem layer_rev {ws : List Str} {g : Str → Int} {k : Nat} : (layer ws g k).reverse = ws.filter fun x => decide ((k : Int) ≤ g x) := by
  unfold layer
  rw [← List.filter_reverse, List.reverse_reverse]
/-- the turn of a book in its round -/
theorem turn_let {zs ws : List Str} {qs : List (Str × Str)} {g : Str → Int} (hs : Sol zs ws qs g) (pm : ws.Perm zs) (nd : zs.Nodup) (cl : ∀ q ∈ qs, q.2 ∈ zs ∧ q.1 ≠ q.2 ∧ q.1 ∈ zs) {k d n : Nat} {b : Str} (top : ∀ x ∈ zs, g x ≤ ((k + 1 + d : Nat) : Int))
    (hb : (layer ws g (k + 1))[n]? = some b) : lets qs (lefts zs (hiOf ws g (k + 1) d ++ (layer ws g (k + 1)).take n)) b = true := by
  have wnd : ws.Nodup := pm.nodup_iff.mpr nd
  have lnd : (layer ws g (k + 1)).Nodup := List.Pairwise.filter _ (List.pairwise_reverse.mpr (wnd.imp fun h e => h e.symm))
  have hbl := List.mem_of_getElem? hb
  obtain ⟨hbw, hbk⟩ := mem_layer.mp hbl
  have hpb := pos_at lnd hb
  have hnl := (List.getElem?_eq_some_iff.mp hb).1
  have hbz := pm.mem_iff.mp hbw
  unfold lets
  rw [List.all_eq_true]
  intro f hf
  obtain ⟨q, hq, rfl⟩ := List.mem_map.mp hf
  obtain ⟨hq1, hq2⟩ := List.mem_filter.mp hq
  have hqb : q.1 = b := of_decide_eq_true hq2
  obtain ⟨hfz, hne, _⟩ := cl q hq1
  have hfw := pm.mem_iff.mpr hfz
  rw [hqb] at hne
  have hed := hs.ed q hq1 (by rw [hqb]; omega)
  rw [hqb] at hed
  have hgn : gn zs ws q = (if pos q.2 ws < pos b ws then 1 else 0) - (if pos q.2 zs < pos b zs then 1 else 0) := by
    unfold gn up
    rw [hqb]
    by_cases h1 : pos q.2 ws < pos b ws <;> by_cases h2 : pos q.2 zs < pos b zs <;> simp [h1, h2]
  generalize q.2 = f at *
  have hsub : ∀ x ∈ hiOf ws g (k + 1) d ++ (layer ws g (k + 1)).take n, x ∈ zs := fun x hx => by
    rcases List.mem_append.mp hx with z | z
    · exact pm.mem_iff.mp (mem_hi z).1
    · exact pm.mem_iff.mp (mem_layer.mp (List.mem_of_mem_take z)).1
  have hbB : b ∉ (layer ws g (k + 1)).take n := fun z => by
    have := (mem_take_pos (by omega)).mp z
    omega
  have hfB : pos b ws < pos f ws → ((k + 1 : Nat) : Int) ≤ g f → f ∈ (layer ws g (k + 1)).take n := fun h1 h2 => by
    refine (mem_take_pos (by omega)).mpr ?_
    have := pos_layer wnd hfw hbw h2 hbk h1
    omega
  have hneq : pos f ws ≠ pos b ws := fun e => hne (pos_inj hbw hfw e.symm)
  have hneqz : pos f zs ≠ pos b zs := fun e => hne (pos_inj hbz hfz e.symm)
  refine decide_eq_true (Int.ofNat_lt.mpr (later_pos nd hsub hfz hbz hne.symm ?_))
  unfold Later
  rw [List.reverse_append, List.length_append]
  generalize hB : (layer ws g (k + 1)).take n = B at *
  generalize hA : hiOf ws g (k + 1) d = A at *
  have hbr : b ∉ B.reverse := fun z => hbB (List.mem_reverse.mp z)
  rw [pos_app_out hbr, List.length_reverse]
  by_cases hfin : f ∈ B
  · left
    rw [pos_app_in (List.mem_reverse.mpr hfin)]
    have := pos_lt (List.mem_reverse.mpr hfin)
    rw [List.length_reverse] at this
    omega
  · rw [pos_app_out (fun z => hfin (List.mem_reverse.mp z)), List.length_reverse]
    by_cases hlast : ((k + 1 : Nat) : Int) < g b
    · -- it went a round before
      have hd : 0 < d := Nat.pos_of_ne_zero fun e => by
        have := top b hbz
        rw [e] at this
        omega
      obtain ⟨e, rfl⟩ : ∃ e, d = e + 1 := ⟨d - 1, by omega⟩
      have hbA : b ∈ (layer ws g (k + 1 + 1)).reverse := List.mem_reverse.mpr (mem_layer.mpr ⟨hbw, by omega⟩)
      have hArev : A.reverse = (layer ws g (k + 1 + 1)).reverse ++ (hiOf ws g (k + 1 + 1) e).reverse := by
        rw [← hA]
        show (hiOf ws g (k + 1 + 1) e ++ layer ws g (k + 1 + 1)).reverse = _
        rw [List.reverse_append]
      by_cases hfw2 : pos f ws < pos b ws
      · have hgf : ((k + 1 + 1 : Nat) : Int) ≤ g f := by
          rw [if_pos hfw2] at hgn
          split at hgn <;> omega
        left
        have hfA : f ∈ (layer ws g (k + 1 + 1)).reverse := List.mem_reverse.mpr (mem_layer.mpr ⟨hfw, hgf⟩)
        rw [hArev, pos_app_in hbA, pos_app_in hfA, layer_rev]
        have := (pos_filter (p := fun x => decide (((k + 1 + 1 : Nat) : Int) ≤ g x)) (decide_eq_true hgf) (decide_eq_true (show ((k + 1 + 1 : Nat) : Int) ≤ g b by omega)) ws).mpr hfw2
        omega
      · exfalso
        refine hfin (hfB (by omega) ?_)
        rw [if_neg hfw2] at hgn
        split at hgn <;> omega
    · -- its first going
      have hbA : b ∉ A.reverse := fun z => by
        have h1 := List.mem_reverse.mp z
        rw [← hA] at h1
        have := (mem_hi h1).2
        omega
      by_cases hfA : f ∈ A.reverse
      · left
        rw [pos_out hbA]
        have := pos_lt hfA
        omega
      · right
        rw [pos_out hbA, pos_out hfA, List.length_reverse]
        refine ⟨by omega, by omega, Nat.lt_of_not_le fun hz => ?_⟩
        rw [if_neg (show ¬ pos f zs < pos b zs by omega)] at hgn
        by_cases hfw2 : pos f ws < pos b ws
        · rw [if_pos hfw2] at hgn
          refine hfA (List.mem_reverse.mpr ?_)
          rw [← hA]
          refine hi_mem hfw (by omega) (Nat.pos_of_ne_zero fun e => ?_)
          have := top f hfz
          rw [e] at this
          omega
        · rw [if_neg hfw2] at hgn
          exact hfin (hfB (by omega) (by omega))
theorem hi_let {zs ws : List Str} {qs : List (Str × Str)} {g : Str → Int} (hs : Sol zs ws qs g) (pm : ws.Perm zs) (nd : zs.Nodup) (cl : ∀ q ∈ qs, q.2 ∈ zs ∧ q.1 ≠ q.2 ∧ q.1 ∈ zs) : ∀ {d k : Nat}, (∀ x ∈ zs, g x ≤ ((k + d : Nat) : Int)) → refAt qs zs (hiOf ws g k d) = none
  | 0, k, _ => rfl
  | d + 1, k, top => by
    have top2 : ∀ x ∈ zs, g x ≤ ((k + 1 + d : Nat) : Int) := fun x hx => by
      have := top x hx
      omega
    have h1 := hi_let hs pm nd cl (d := d) (k := k + 1) top2
    have go : ∀ n, n ≤ (layer ws g (k + 1)).length → refAt qs zs (hiOf ws g (k + 1) d ++ (layer ws g (k + 1)).take n) = none := fun n => by
      induction n with
      | zero =>
        intro _
        rw [List.take_zero, List.append_nil]
        exact h1
      | succ n ih =>
        intro hn
        have hb : (layer ws g (k + 1))[n]? = some (layer ws g (k + 1))[n] := List.getElem?_eq_getElem (by omega)
        rw [List.take_add_one, hb, ← List.append_assoc]
        exact refAt_snoc (ih (by omega)) (turn_let hs pm nd cl top2 hb)
    have := go _ (Nat.le_refl _)
    rw [List.take_length] at this
    exact this
theorem rowOf_let {zs ws : List Str} {qs : List (Str × Str)} {g : Str → Int} {m : Nat} (hs : Sol zs ws qs g) (pm : ws.Perm zs) (nd : zs.Nodup) (cl : ∀ q ∈ qs, q.2 ∈ zs ∧ q.1 ≠ q.2 ∧ q.1 ∈ zs) (top : ∀ x ∈ zs, g x ≤ (m : Int)) : refAt qs zs (rowOf ws g m) = none := by
  have h1 := hi_let hs pm nd cl (d := m) (k := 0) (by rw [Nat.zero_add]; exact top)
  have h2 := hi_row ws g m 0
  rw [Nat.zero_add] at h2
  rw [← h2]
  show refAt qs zs (hiOf ws g 0 m ++ []) = none
  rw [List.append_nil]
  exact h1
/-! what it leaves -/
theorem ded_app_sub : ∀ {a b : List Str}, a.Nodup → (∀ x ∈ b, x ∈ a) → ded (a ++ b) = a := by
  intro a b nd hb
  rw [← dedG_nil]
  unfold dedG
  rw [List.foldl_append]
  have h1 : a.foldl (fun a y => if y ∈ a then a else a ++ [y]) [] = a := by
    have := dedG_nil a
    rw [ded_nodup nd] at this
    exact this
  rw [h1]
  have h2 : ∀ (l : List Str), (∀ x ∈ l, x ∈ a) → l.foldl (fun a y => if y ∈ a then a else a ++ [y]) a = a := fun l => by
    induction l with
    | nil => intro _; rfl
    | cons x r ih =>
      intro h
      show r.foldl _ (if x ∈ a then a else a ++ [x]) = a
      rw [if_pos (h x List.mem_cons_self)]
      exact ih fun y hy => h y (List.mem_cons_of_mem _ hy)
  exact h2 b hb
theorem rise_uniq {zs : List Str} : ∀ {l m : List Str}, l.Perm m → l.Pairwise (fun x y => pos x zs < pos y zs) → m.Pairwise (fun x y => pos x zs < pos y zs) → l = m
  | [], m, h, _, _ => (List.nil_perm.mp h).symm
  | a :: r, [], h, _, _ => absurd h.length_eq (by simp)
  | a :: r, b :: t, h, h1, h2 => by
    have e : a = b := by
      rcases List.mem_cons.mp (h.mem_iff.mp (List.mem_cons_self (a := a) (l := r))) with z | z
      · exact z
      · rcases List.mem_cons.mp (h.mem_iff.mpr (List.mem_cons_self (a := b) (l := t))) with y | y
        · exact y.symm
        · have i1 := (List.pairwise_cons.mp h1).1 b y
          have i2 := (List.pairwise_cons.mp h2).1 a z
          omega
    subst e
    rw [rise_uniq (List.Perm.cons_inv h) (List.pairwise_cons.mp h1).2 (List.pairwise_cons.mp h2).2]
theorem chain_pw {α : Type} {R : α → α → Prop} (tr : ∀ x y z, R x y → R y z → R x z) : ∀ {l : List α}, (∀ i x y, l[i]? = some x → l[i + 1]? = some y → R x y) → l.Pairwise R
  | [], _ => .nil
  | [a], _ => List.pairwise_singleton ..
  | a :: b :: r, h => by
    have h1 := chain_pw tr (l := b :: r) fun i x y hx hy => h (i + 1) x y hx hy
    have hab : R a b := h 0 a b rfl rfl
    refine List.pairwise_cons.mpr ⟨fun x hx => ?_, h1⟩
    rcases List.mem_cons.mp hx with e | e
    · rw [e]
      exact hab
    · exact tr _ _ _ hab ((List.pairwise_cons.mp h1).1 x e)
theorem preSplit {P : Str → Prop} : ∀ {ws : List Str}, (∀ (i j : Nat) (x y : Str), j ≤ i → ws[i]? = some x → ws[j]? = some y → P x → P y) → ∃ n, (∀ x ∈ ws.take n, P x) ∧ ∀ x ∈ ws.drop n, ¬ P x
  | [], _ => ⟨0, (fun x hx => nomatch hx), fun x hx => nomatch hx⟩
  | a :: r, h => by
    by_cases pa : P a
    · obtain ⟨n, h1, h2⟩ := preSplit (ws := r) fun i j x y hj hx hy => h (i + 1) (j + 1) x y (by omega) hx hy
      refine ⟨n + 1, fun x hx => ?_, h2⟩
      rcases List.mem_cons.mp (show x ∈ a :: r.take n from hx) with e | e
      · rw [e]
        exact pa
      · exact h1 x e
    · refine ⟨0, (fun x hx => nomatch hx), fun x hx px => pa ?_⟩
      obtain ⟨i, hi⟩ := List.mem_iff_getElem?.mp (show x ∈ a :: r from hx)
      exact h i 0 x a (Nat.zero_le _) hi rfl px
/-- who goes lies on top in the other heap -/
theorem Sol.prefix {zs ws : List Str} {qs : List (Str × Str)} {g : Str → Int} (hs : Sol zs ws qs g) : ∃ n, (∀ x ∈ ws.take n, 1 ≤ g x) ∧ ∀ x ∈ ws.drop n, g x ≤ 0 := by
  obtain ⟨n, h1, h2⟩ := preSplit (P := fun x => 1 ≤ g x) (ws := ws) fun i j x y hj hx hy px => hs.up i x hx (.inl (show 0 < g x by omega)) j y hj hy
  exact ⟨n, h1, fun x hx => by have := h2 x hx; omega⟩
theorem rowOf_left {zs ws : List Str} {qs : List (Str × Str)} {g : Str → Int} {m : Nat} (hs : Sol zs ws qs g) (pm : ws.Perm zs) (nd : zs.Nodup) (top : ∀ x ∈ zs, g x ≤ (m : Int)) : lefts zs (rowOf ws g m) = ws := by
  have wnd : ws.Nodup := pm.nodup_iff.mpr nd
  obtain ⟨n, hup, hdn⟩ := hs.prefix
  have hft : ws.filter (fun x => decide (((0 + 1 : Nat) : Int) ≤ g x)) = ws.take n := by
    conv => lhs; rw [← List.take_append_drop n ws]
    rw [List.filter_append, List.filter_eq_self.mpr fun x hx => decide_eq_true (by have := hup x hx; omega), List.filter_eq_nil_iff.mpr fun x hx => by have := hdn x hx; simp; omega, List.append_nil]
  have hded : ded (rowOf ws g m).reverse = ws.take n := by
    cases m with
    | zero =>
      have : ws.take n = [] := List.eq_nil_iff_forall_not_mem.mpr fun x hx => by
        have h1 := hup x hx
        have h2 := top x (pm.mem_iff.mp (List.mem_of_mem_take hx))
        omega
      rw [this]
      rfl
    | succ j =>
      have h2 := hi_row ws g (j + 1) 0
      rw [Nat.zero_add] at h2
      have e : rowOf ws g (j + 1) = hiOf ws g 1 j ++ layer ws g (0 + 1) := by
        rw [← h2]
        show (hiOf ws g (0 + 1) j ++ layer ws g (0 + 1)) ++ [] = _
        rw [List.append_nil]
      rw [e, List.reverse_append, layer_rev, hft]
      refine ded_app_sub (wnd.sublist (List.take_sublist ..)) fun x hx => ?_
      obtain ⟨h3, h4⟩ := mem_hi (List.mem_reverse.mp hx)
      rw [← hft]
      exact List.mem_filter.mpr ⟨h3, decide_eq_true (by omega)⟩
  rw [lefts_last]
  unfold byLast
  rw [hded]
  conv => rhs; rw [← List.take_append_drop n ws]
  congr 1
  have hmem : ∀ z ∈ zs, (z ∉ ws.take n ↔ z ∈ ws.drop n) := fun z hz => by
    have h1 := pm.mem_iff.mpr hz
    rw [← List.take_append_drop n ws] at h1 wnd
    have h2 := (List.nodup_append.mp wnd).2.2
    rcases List.mem_append.mp h1 with h3 | h3
    · exact ⟨fun h => absurd h3 h, fun h => absurd rfl (h2 z h3 z h)⟩
    · exact ⟨fun _ => h3, fun _ h => absurd rfl (h2 z h z h3)⟩
  refine rise_uniq (zs := zs) ?_ ?_ ?_
  · have n1 : (zs.filter fun z => decide (z ∉ ws.take n)).Nodup := nd.sublist (List.filter_sublist ..)
    have n2 : (ws.drop n).Nodup := wnd.sublist (List.drop_sublist ..)
    refine (List.perm_ext_iff_of_nodup n1 n2).mpr fun z => ?_
    rw [List.mem_filter]
    constructor
    · rintro ⟨h1, h2⟩
      exact (hmem z h1).mp (of_decide_eq_true h2)
    · intro h
      have hz : z ∈ zs := pm.mem_iff.mp (List.mem_of_mem_drop h)
      exact ⟨hz, decide_eq_true ((hmem z hz).mpr h)⟩
  · exact (nodup_rise nd).sublist (List.filter_sublist ..)
  · refine chain_pw (fun x y z h1 h2 => by omega) fun i x y hx hy => ?_
    rw [List.getElem?_drop] at hx hy
    refine Nat.lt_of_not_le fun hle => ?_
    have hx0 := hdn x (List.mem_iff_getElem?.mpr ⟨i, by rw [List.getElem?_drop]; exact hx⟩)
    have hxz : x ∈ zs := pm.mem_iff.mp (List.mem_of_getElem? hx)
    have hyz : y ∈ zs := pm.mem_iff.mp (List.mem_of_getElem? hy)
    have hne : x ≠ y := fun e => by
      have h1 := pos_at wnd hx
      have h2 := pos_at wnd hy
      rw [e] at h1
      omega
    have hlt : pos y zs < pos x zs := Nat.lt_of_le_of_ne hle fun e => hne (pos_inj hxz hyz e.symm)
    have := hs.up (n + i) x hx (.inr ⟨y, by rw [show n + i + 1 = n + (i + 1) by omega]; exact hy, hlt⟩) (n + i) x (Nat.le_refl _) hx
    omega
end HF
namespace HF
open PySem PySem.Spec PyProof.Rows L2
/-! ### plain tuples: slices, sums -/
section
variable {X : Cx}
def rSlTp : V → Option Int → Option Int → Hp → VK → Prop := fun x lo hi H Q => ∃ a xs, x = .ref a ∧ Tp H a xs ∧ ∀ b H', Same H H' → Tp H' b (cutV xs lo hi) → Q (.ref b) H'
theorem sl_tp : SlR X rSlTp := by
  intro pn st σ H x val vl vu lo hi sl Q I rel isS pl pu hyp
  obtain ⟨a, xs, rfl, tp, q⟩ := hyp
  by_cases whole : HT.sIx xs.length 0 lo = 0 ∧ HT.sIx xs.length xs.length hi = xs.length
  · refine sl_tupA pn st σ H _ val vl vu lo hi sl Q I rel isS pl pu ⟨a, xs, rfl, tp.sq, fun _ => q a H (Same.refl _) ?_, fun no => absurd whole no⟩
    have e : cutV xs lo hi = xs := by
      unfold cutV
      rw [whole.1, whole.2]
      simp
    rw [e]
    exact tp
  · cases rel
    obtain ⟨its, rv, ist, hz⟩ := I.tuple (tp.sq (K := X.K))
    have many : its.toArray.size = xs.length := by
      rw [List.size_toArray]
      exact rv.length.symm
    refine ⟨"tuple", _, PyProof.Rows.slot_tuple_getitem.lookup, ist.typeIs, HT.getItem_tuple_cut ist isS pl pu (by rw [many]; exact whole) ?_ (by rw [many]; exact hz)⟩
    rw [many]
    let ob : Obj := { cls := .type "tuple", data := .seq ((its.drop (HT.sIx xs.length 0 lo)).take (HT.sIx xs.length xs.length hi - HT.sIx xs.length 0 lo)).toArray }
    refine ⟨.ref st.heap.objs.size, _, I.laid (t' := st.toks) (o := .frz ob (.tup (cutV xs lo hi))) (fun d u e => Heap.get?_push_of_some _ e) (Nat.le_refl _) ⟨Heap.get?_push_size _ rfl, Nat.le_trans (cutV_length xs lo hi) hz, _, (rv.drop (HT.sIx xs.length 0 lo)).take (HT.sIx xs.length xs.length hi - HT.sIx xs.length 0 lo), IsTup.new _ _⟩, rfl, q _ _ (same_upd (I.hok.fresh (Nat.le_refl _))) ⟨ob, upd_same, rfl, rfl⟩⟩
def rCatTp (K : PySem.W.Frag) : R2 := fun x y H Q => ∃ a b xs ys, x = .ref a ∧ y = .ref b ∧ Tp H a xs ∧ Tp H b ys ∧ xs.length + ys.length ≤ sizeLine ∧ ∀ l H', Same H H' → Tp H' l (xs ++ ys) → Q (.ref l) H'
theorem op_catTp : OpR X (binaryOp .Add) (rCatTp X.K) := by
  intro pn st σ H x y v u Q I rx ry hyp
  obtain ⟨a, b, xs, ys, rfl, rfl, ta, tb, hz, q⟩ := hyp
  by_cases hx : xs = []
  · subst hx
    exact op_catA pn st σ H _ _ v u Q I rx ry ⟨a, b, [], ys, rfl, rfl, ta.sq, tb.sq, hz, fun _ => q b H (Same.refl _) tb, fun z => absurd rfl z, fun z => absurd rfl z⟩
  · refine op_catF pn st σ H _ _ v u Q I rx ry ⟨a, b, xs, ys, rfl, rfl, ta.sq, tb.sq, hx, hz, fun e => q a H (Same.refl _) (by rw [e, List.append_nil]; exact ta), fun _ l ob nl e1 e2 => q l _ (same_upd nl) ⟨ob, upd_same, e1, e2⟩⟩
end
/-! ### a few neighbours exchanged -/
theorem cutTp_to (xs : List V) (k : Nat) : cutV xs none (some (k : Int)) = xs.take k := cutTo xs k
theorem cutTp_mid (xs : List V) (k : Nat) : cutV xs (some (k : Int)) (some ((k : Int) + 2)) = (xs.drop k).take 2 := by
  unfold cutV
  rw [HT.sIx_nat, show ((k : Int) + 2) = ((k + 2 : Nat) : Int) by omega, HT.sIx_nat]
  by_cases h : k ≤ xs.length
  · rw [Nat.min_eq_left h]
    by_cases h2 : k + 2 ≤ xs.length
    · rw [Nat.min_eq_left h2, show k + 2 - k = 2 by omega]
    · rw [Nat.min_eq_right (by omega), List.take_of_length_le (by rw [List.length_drop]; omega), List.take_of_length_le (by rw [List.length_drop]; omega)]
  · rw [Nat.min_eq_right (by omega), Nat.min_eq_right (by omega), List.drop_length, List.drop_eq_nil_of_le (by omega)]
    simp
theorem cutTp_from (xs : List V) (k : Nat) : cutV xs (some ((k : Int) + 2)) none = xs.drop (k + 2) := by
  have := cutFrom xs (k + 2)
  rw [show ((k + 2 : Nat) : Int) = (k : Int) + 2 by omega] at this
  exact this
def swp (k : Nat) (zs : List Str) : List Str := zs.take k ++ ((zs.drop k).take 2).reverse ++ zs.drop (k + 2)
theorem swp_perm (k : Nat) (zs : List Str) : (swp k zs).Perm zs := by
  unfold swp
  refine (((List.reverse_perm ((zs.drop k).take 2)).append_left (zs.take k)).append_right (zs.drop (k + 2))).trans ?_
  have e : zs.take k ++ (zs.drop k).take 2 ++ zs.drop (k + 2) = zs := by
    rw [List.append_assoc, show zs.drop (k + 2) = (zs.drop k).drop 2 by rw [List.drop_drop], List.take_append_drop, List.take_append_drop]
  rw [e]
theorem swp_map (k : Nat) (zs : List Str) : (zs.map V.str).take k ++ (((zs.map V.str).drop k).take 2).reverse ++ (zs.map V.str).drop (k + 2) = (swp k zs).map V.str := by
  unfold swp
  rw [List.map_append, List.map_append, List.map_reverse, List.map_take, List.map_drop, List.map_take, List.map_drop]
/-- another heap of the same books -/
def spFar : Sp := fun vs H Q _ => ∃ (p h r : Addr) (c : Int) (zs : List Str) (L : SL), vs = [.ref p, .ref h, .ref r] ∧ Bx H p c ∧ c < 2 ^ 37 ∧ Tp H h (zs.map V.str) ∧ zs.Nodup ∧ zs ≠ [] ∧ zs.length ≤ 12 ∧ Ties zs H r L ∧
  ∀ (H' : Hp) (o : Addr) (ws : List Str) (c' : Int), Oth p H H' → Tp H' o (ws.map V.str) → ws.Perm zs → Bx H' p c' → c ≤ c' → c' ≤ c + 60 → Q (.ref o) H'
/-! ### goings never raise a ring's number -/
theorem T_step {qs : List (Str × Str)} {zs ls : List Str} {b : Str} (h : Rng qs zs ls) (nd : zs.Nodup) (hb : b ∈ zs) (hl : lets qs zs b = true) : T (onTop b zs) ls ≤ T zs ls := by
  by_cases hin : b ∈ ls
  · obtain ⟨u, v, rfl, _⟩ := split_at hin
    have two := h.two
    obtain ⟨f, hf⟩ : ∃ f, (v ++ u).getLast? = some f := by
      cases e : (v ++ u).getLast? with
      | some f => exact ⟨f, rfl⟩
      | none =>
        have := List.getLast?_eq_none_iff.mp e
        have l2 := congrArg List.length this
        rw [List.length_append] at l2 two
        have l3 : v.length + u.length = 0 := l2
        rw [List.length_cons] at two
        omega
    have := (fall_in h nd hb hl hf).1
    split at this <;> omega
  · rw [fall_out hin]
    exact Nat.le_refl _
theorem T_row {qs : List (Str × Str)} {ls : List Str} : ∀ {row zs : List Str}, Rng qs zs ls → zs.Nodup → (∀ b ∈ row, b ∈ zs) → refAt qs zs row = none → T (lefts zs row) ls ≤ T zs ls
  | [], zs, _, _, _, _ => Nat.le_refl _
  | b :: r, zs, h, nd, hin, hr => by
    obtain ⟨h1, h2⟩ := refAt_none hr
    have hb := hin b List.mem_cons_self
    have pm := onTop_perm nd hb
    have h3 := T_step h nd hb h1
    have h4 := T_row (row := r) (zs := onTop b zs) (h.perm pm) (pm.nodup_iff.mpr nd) (fun x hx => pm.mem_iff.mpr (hin x (List.mem_cons_of_mem _ hx))) h2
    show T (lefts (onTop b zs) r) ls ≤ T zs ls
    omega
end HF
namespace HF
open PySem PySem.Spec PyProof.Rows L2
/-! ### the greatest sums of all ways -/
abbrev GF := Str → Str → Option Int
def setG (g : GF) (a b : Str) (v : Int) : GF := fun x y => if x = a ∧ y = b then some v else g x y
theorem setG_eq (g : GF) (a b : Str) (v : Int) : setG g a b v a b = some v := if_pos ⟨rfl, rfl⟩
theorem setG_ne (g : GF) {a b x y : Str} (v : Int) (h : ¬ (x = a ∧ y = b)) : setG g a b v x y = g x y := if_neg h
def Ge (g g' : GF) : Prop := ∀ a b v, g a b = some v → ∃ v', g' a b = some v' ∧ v ≤ v'
theorem Ge.refl (g : GF) : Ge g g := fun a b v h => ⟨v, h, Int.le_refl _⟩
theorem Ge.trans {g g1 g2 : GF} (h : Ge g g1) (h1 : Ge g1 g2) : Ge g g2 := fun a b v e => by
  obtain ⟨v1, e1, l1⟩ := h a b v e
  obtain ⟨v2, e2, l2⟩ := h1 a b v1 e1
  exact ⟨v2, e2, Int.le_trans l1 l2⟩
theorem Ge.set {g : GF} {a b : Str} {v : Int} (h : ∀ w, g a b = some w → w ≤ v) : Ge g (setG g a b v) := fun x y w e => by
  by_cases z : x = a ∧ y = b
  · rw [z.1, z.2] at e ⊢
    exact ⟨v, setG_eq _ _ _ _, h w e⟩
  · exact ⟨w, by rw [setG_ne _ _ z]; exact e, Int.le_refl _⟩
/-- no sum climbs above heights -/
def Und (p : Str → Int) (g : GF) : Prop := ∀ a b v, g a b = some v → v ≤ p b - p a
theorem Und.set {p : Str → Int} {g : GF} {a b : Str} {v : Int} (h : Und p g) (hv : v ≤ p b - p a) : Und p (setG g a b v) := fun x y w e => by
  by_cases z : x = a ∧ y = b
  · rw [z.1, z.2, setG_eq] at e
    cases e
    rw [z.1, z.2]
    exact hv
  · rw [setG_ne _ _ z] at e
    exact h x y w e
/-- all ways whose books between are among some -/
def Ways (zs ws : List Str) (qs : List (Str × Str)) (ms : List Str) (g : GF) : Prop := ∀ (a b : Str) (xs : List Str), Ch qs (a :: xs ++ [b]) → xs.Nodup → (∀ x ∈ xs, x ∈ ms) → ∃ v, g a b = some v ∧ ((C ws (a :: xs ++ [b]) : Nat) : Int) - ((C zs (a :: xs ++ [b]) : Nat) : Int) ≤ v
theorem Ways.none_ {zs ws : List Str} {qs : List (Str × Str)} {g : GF} (h : ∀ q ∈ qs, ∃ v, g q.1 q.2 = some v ∧ gn zs ws q ≤ v) : Ways zs ws qs [] g := fun a b xs hc nd hx => by
  cases xs with
  | cons x r => exact absurd (hx x List.mem_cons_self) (by simp)
  | nil =>
    obtain ⟨v, e, l⟩ := h (a, b) hc.1
    refine ⟨v, e, ?_⟩
    rw [gn_uu] at l
    show ((uu ws a b + 0 : Nat) : Int) - ((uu zs a b + 0 : Nat) : Int) ≤ v
    omega
theorem Ways.step {zs ws : List Str} {qs : List (Str × Str)} {g0 g : GF} {ms : List Str} {m : Str} (h : Ways zs ws qs ms g0) (cl : ∀ q ∈ qs, q.2 ∈ zs ∧ q.1 ≠ q.2 ∧ q.1 ∈ zs) (ge : Ge g0 g) (hm : ∀ a b v w, a ∈ zs → b ∈ zs → g0 a m = some v → g0 m b = some w → ∃ u, g a b = some u ∧ v + w ≤ u) : Ways zs ws qs (ms ++ [m]) g := fun a b xs hc nd hx => by
  by_cases hin : m ∈ xs
  · obtain ⟨u, w, rfl, _⟩ := split_at hin
    have nd2 := List.nodup_append.mp nd
    have nd3 := List.nodup_cons.mp nd2.2.1
    have hu : ∀ x ∈ u, x ∈ ms := fun x hxu => by
      have h1 := hx x (List.mem_append.mpr (.inl hxu))
      rcases List.mem_append.mp h1 with z | z
      · exact z
      · rw [List.mem_singleton.mp z] at hxu
        exact absurd rfl (nd2.2.2 m hxu m List.mem_cons_self)
    have hw : ∀ x ∈ w, x ∈ ms := fun x hxw => by
      have h1 := hx x (List.mem_append.mpr (.inr (List.mem_cons_of_mem _ hxw)))
      rcases List.mem_append.mp h1 with z | z
      · exact z
      · rw [List.mem_singleton.mp z] at hxw
        exact absurd hxw nd3.1
    have e : a :: (u ++ m :: w) ++ [b] = (a :: u) ++ m :: (w ++ [b]) := by simp
    rw [e] at hc
    obtain ⟨c1, c2⟩ := Ch.split hc
    obtain ⟨v1, e1, l1⟩ := h a m u (by simpa using c1) nd2.1 hu
    obtain ⟨v2, e2, l2⟩ := h m b w c2 nd3.2 hw
    have haz : a ∈ zs := by
      cases u with
      | nil => exact (cl _ c1.1).2.2
      | cons y t => exact (cl _ c1.1).2.2
    have hbz : b ∈ zs := by
      have go : ∀ (l : List Str) (y : Str), Ch qs (y :: l ++ [b]) → b ∈ zs := fun l => by
        induction l with
        | nil => exact fun y hy => (cl _ hy.1).1
        | cons z t ih => exact fun y hy => ih z hy.2
      exact go w m c2
    obtain ⟨v3, e3, l3⟩ := hm a b v1 v2 haz hbz e1 e2
    refine ⟨v3, e3, ?_⟩
    rw [e, C_split ws m (w ++ [b]) (a :: u), C_split zs m (w ++ [b]) (a :: u)]
    have l1' : ((C ws ((a :: u) ++ [m]) : Nat) : Int) - ((C zs ((a :: u) ++ [m]) : Nat) : Int) ≤ v1 := l1
    have l2' : ((C ws (m :: (w ++ [b])) : Nat) : Int) - ((C zs (m :: (w ++ [b])) : Nat) : Int) ≤ v2 := l2
    omega
  · obtain ⟨v, e, l⟩ := h a b xs hc nd fun x hxx => by
      rcases List.mem_append.mp (hx x hxx) with z | z
      · exact z
      · rw [List.mem_singleton.mp z] at hxx
        exact absurd hxx hin
    obtain ⟨v', e', l'⟩ := ge a b v e
    exact ⟨v', e', Int.le_trans l l'⟩
theorem Ways.ring {zs ws : List Str} {qs : List (Str × Str)} {g : GF} {ls : List Str} (h : Ways zs ws qs zs g) (r : Rng qs zs ls) (ht : T zs ls < T ws ls) : ∃ m ∈ zs, ∃ v, g m m = some v ∧ 0 < v := by
  cases ls with
  | nil => exact absurd ht (Nat.lt_irrefl _)
  | cons a l =>
    obtain ⟨v, e, lv⟩ := h a a l r.ch (List.nodup_cons.mp r.nd).2 (fun x hx => r.sub x (List.mem_cons_of_mem _ hx))
    refine ⟨a, r.sub a List.mem_cons_self, v, e, ?_⟩
    have ht2 : C zs (a :: l ++ [a]) < C ws (a :: l ++ [a]) := ht
    omega
/-! ### a dict by pairs -/
abbrev kk (a b : Str) : List Key := [Sum.inr a, Sum.inr b]
def DG (H : Hp) (D : Addr) (g : GF) (n : Nat) : Prop := ∃ kvs : List (List Key × V), H D = some (.dT kvs) ∧ kvs.length ≤ n ∧ ∀ a b, valV kvs (kk a b) = (g a b).map V.int
theorem DG.same {H H' : Hp} {D : Addr} {g : GF} {n : Nat} (d : DG H D g n) (s : Same H H') : DG H' D g n := by
  obtain ⟨kvs, e, r⟩ := d
  exact ⟨kvs, s _ _ e, r⟩
theorem DG.le {H : Hp} {D : Addr} {g : GF} {n m : Nat} (d : DG H D g n) (h : n ≤ m) : DG H D g m := by
  obtain ⟨kvs, e, l, v⟩ := d
  exact ⟨kvs, e, Nat.le_trans l h, v⟩
theorem DG.get {H : Hp} {D t : Addr} {g : GF} {n : Nat} {a b : Str} (d : DG H D g n) (ht : H t = some (.tup [.str a, .str b])) : DGet H D (.ref t) ((g a b).map V.int) := by
  obtain ⟨kvs, e, l, v⟩ := d
  have := DGet.t (k := kk a b) e ht
  rw [v] at this
  exact this
theorem kk_inj {a b x y : Str} : kk a b = kk x y ↔ a = x ∧ b = y := by
  constructor
  · intro h
    injection h with h1 h2
    injection h2 with h2 _
    exact ⟨Sum.inr.inj h1, Sum.inr.inj h2⟩
  · rintro ⟨rfl, rfl⟩
    rfl
theorem DG.put {H : Hp} {D t : Addr} {g : GF} {n : Nat} {a b : Str} {v : Int} (d : DG H D g n) (ht : H t = some (.tup [.str a, .str b])) (few : n ≤ 2000000) : ∃ kvs, DPut H D (.ref t) (.int v) (upd H D (.dT kvs)) ∧ DG (upd H D (.dT kvs)) D (setG g a b v) (n + 1) := by
  obtain ⟨kvs, e, l, hv⟩ := d
  refine ⟨putK kvs (kk a b) (.int v), .inr ⟨kvs, kk a b, t, e, rfl, ht, by rw [sizeLine_eq]; omega, rfl⟩, _, upd_same, Nat.le_trans (length_putK _ _ _) (Nat.succ_le_succ l), fun x y => ?_⟩
  rw [valV_put]
  unfold setG
  by_cases z : x = a ∧ y = b
  · rw [if_pos z, if_pos (kk_inj.mpr z)]
    rfl
  · rw [if_neg z, if_neg (fun q => z (kk_inj.mp q)), hv]
/-- whether some ring's number is greater -/
def spClimbs (K : PySem.W.Frag) : Sp := fun vs H Q _ => ∃ (h o r : Addr) (zs ws : List Str) (qs : List (Str × Str)), vs = [.ref h, .ref o, .ref r] ∧ Two K H h o r zs ws qs ∧
  ∀ (H' : Hp) (b : Bool), Same H H' → (∀ p, Pot zs ws qs p → b = false) → (∀ ls, Rng qs zs ls → T zs ls < T ws ls → b = true) → Q (.bl b) H'
theorem Kp.dT {K : PySem.W.Frag} {b D : Addr} {H Hx : Hp} {kvs : List (List Key × V)} (ox : OthA (· = D) H Hx) (e : H D = some (.dT kvs)) : Kp K b H Hx := ⟨fun xs z => by
  rcases z with (z | ⟨ob, z⟩) | z
  · exact .inl (.inl (ox _ _ z fun q => by rw [q, e] at z; exact nomatch z))
  · exact .inl (.inr ⟨ob, ox _ _ z fun q => by rw [q, e] at z; exact nomatch z⟩)
  · exact .inr z, fun xs z => by
  rcases z with (z | ⟨ob, z⟩) | z
  · exact .inl (.inl (ox _ _ z fun q => by rw [q, e] at z; exact nomatch z))
  · exact .inl (.inr ⟨ob, ox _ _ z fun q => by rw [q, e] at z; exact nomatch z⟩)
  · exact .inr z⟩
theorem for_lc {K : PySem.W.Frag} {wi : TI} {g g2 : TG} {tt : TT} {te : TE} {vs : List Nat} {tb : TS} {D : Ends} {σ : L2.St} {H : Hp} (h : tLc wi g tt te vs σ H (fun x H1 => ∃ a, x = .ref a ∧ (∃ xs, SqL K H1 a xs) ∧ tFor (fun _ H R => R (Itl K a) H) g2 tb D σ H1)) : tFor (iList K (tLc wi g tt te vs)) g2 tb D σ H := h
theorem max_two (x y : Int) : (if y > x then y else x) = max x y := by
  split <;> omega
theorem any_pos {zs : List Str} {g : GF} : ((zs.map fun m => decide (0 < ((g m m).getD 0))).any id) = true ↔ ∃ m ∈ zs, ∃ v, g m m = some v ∧ 0 < v := by
  rw [List.any_map, List.any_eq_true]
  constructor
  · rintro ⟨m, hm, e⟩
    have e2 : 0 < (g m m).getD 0 := of_decide_eq_true e
    cases hg : g m m with
    | none =>
      rw [hg] at e2
      exact absurd e2 (by decide)
    | some v =>
      rw [hg] at e2
      exact ⟨m, hm, v, hg, e2⟩
  · rintro ⟨m, hm, v, hg, hv⟩
    refine ⟨m, hm, ?_⟩
    show decide (0 < (g m m).getD 0) = true
    rw [hg]
    exact decide_eq_true hv
/-- the books whose pair is told -/
theorem lc_told {K : PySem.W.Frag} {k0 k8 : Nat} {a D0 : Addr} {zs : List Str} {g : GF} {n : Nat} {σ : L2.St} {H : Hp} {Q : VK} {tt : TT} (pr : Str → Str × Str) (hv : σ[k0]? = some (some (.ref a))) (hq : Sq K H a (zs.map V.str)) (few : zs.length ≤ 100) (hD : DG H D0 g n)
    (hw : ∀ x : V, wipe ((wipe σ [k8]).set k8 (some x)) [k8] = wipe σ [k8]) (hx : ∀ x : V, ((wipe σ [k8]).set k8 (some x))[k8]? = some (some x))
    (ht : ∀ (x : Str) (H2 : Hp) (R : Bool → Hp → Prop), DG H2 D0 g n → (∀ t, H2 t = none → R ((g (pr x).1 (pr x).2).map V.int).isSome (upd H2 t (.tup [.str (pr x).1, .str (pr x).2]))) → tt ((wipe σ [k8]).set k8 (some (.str x))) H2 R)
    (hd : ∀ D H', H D = none → Same H H' → H' D = some (.lst ((zs.filter fun x => (g (pr x).1 (pr x).2).isSome).map V.str)) → Q (.ref D) H') : tLc (iSeq K (tVar k0)) (gName k8) tt (tVar k8) [k8] σ H Q := by
  refine ⟨.ref a, hv, a, rfl, iseq hq fun J wkk D nD => lc_it wkk (fun i H4 => Same H H4 ∧ H4 D = some (.lst (((zs.take i).filter fun x => (g (pr x).1 (pr x).2).isSome).map V.str))) ⟨same_upd nD, upd_same⟩ (fun i H4 _ h => Kp.of h.1) ?_ ?_⟩
  · rintro i x H4 H5 hi ⟨s4, hE⟩ ⟨rfl, hx4⟩
    rw [List.getElem?_map] at hx4
    obtain ⟨x, hxi, rfl⟩ := Option.map_eq_some_iff.mp hx4
    have etk : (zs.take (i + 1)) = zs.take i ++ [x] := by
      rw [List.take_add_one, hxi]
      rfl
    refine ⟨hw _, ht x H5 _ (hD.same s4) fun t nt => ?_⟩
    have s6 := same_upd (o := .tup [.str (pr x).1, .str (pr x).2]) nt
    generalize (upd H5 t (.tup [.str (pr x).1, .str (pr x).2])) = H6 at *
    have eis : ((g (pr x).1 (pr x).2).map V.int).isSome = (g (pr x).1 (pr x).2).isSome := by cases g (pr x).1 (pr x).2 <;> rfl
    rw [eis]
    by_cases hin : (g (pr x).1 (pr x).2).isSome = true
    · rw [hin]
      refine iteT ⟨.str x, hx _, _, s6 _ _ hE, ?_, same_put (s4.trans s6) nD, ?_⟩
      · have := List.length_filter_le (fun x => (g (pr x).1 (pr x).2).isSome) (zs.take i)
        rw [List.length_take] at this
        rw [List.length_map, sizeLine_eq]
        omega
      · rw [upd_same, etk, List.filter_append, List.map_append, List.filter_cons_of_pos (p := fun x => (g (pr x).1 (pr x).2).isSome) (a := x) hin]
        rfl
    · rw [Bool.eq_false_iff.mpr hin]
      refine iteF ⟨s4.trans s6, ?_⟩
      rw [etk, List.filter_append, List.filter_cons_of_neg (p := fun x => (g (pr x).1 (pr x).2).isSome) (a := x) hin, List.filter_nil, List.append_nil]
      exact s6 _ _ hE
  · rintro H4 ⟨s4, hE⟩
    rw [List.length_map, List.take_length] at hE
    exact hd D H4 nD s4 hE
end HF
/-! either heights stand, or some ring grows -/
namespace HF
open PySem PySem.Spec PyProof.Rows L2
theorem mid_all {qs : List (Str × Str)} {g : Str × Str → Int} {t : Nat} (ne : ∀ q ∈ qs, q.1 ≠ q.2) {S : Str → Prop} (hS : ∀ q ∈ qs, S q.2) : ∀ (rest done : List (Str × Str)) (h : Str → Int) (c : Str → Option Str) (r : Str → Nat) (last : Option Str), done ++ rest = qs → Mid qs g t h c r done last → (∀ f, last = some f → S f) →
    ∃ (h' : Str → Int) (c' : Str → Option Str) (r' : Str → Nat) (last' : Option Str), Mid qs g t h' c' r' qs last' ∧ ∀ f, last' = some f → S f
  | [], done, h, c, r, last, e, m, hl => by
    rw [List.append_nil] at e
    subst e
    exact ⟨h, c, r, last, m, hl⟩
  | (u, v) :: rest, done, h, c, r, last, e, m, hl => by
    have hq : (u, v) ∈ qs := by
      rw [← e]
      simp
    have e2 : (done ++ [(u, v)]) ++ rest = qs := by
      rw [← e]
      simp
    by_cases hs : h v < h u + g (u, v)
    · exact mid_all ne hS rest _ _ _ _ _ e2 (m.raise (fun q hq2 => by rw [← e]; exact List.mem_append_left _ hq2) hq (ne _ hq) hs) (fun f hf => by cases hf; exact hS _ hq)
    · exact mid_all ne hS rest _ _ _ _ _ e2 (m.keep (q := (u, v)) hs) hl
theorem bf_go {zs ws : List Str} {qs : List (Str × Str)} (cl : ∀ q ∈ qs, q.2 ∈ zs ∧ q.1 ≠ q.2 ∧ q.1 ∈ zs) : ∀ t : Nat, (∃ p, Pot zs ws qs p) ∨ ∃ (h : Str → Int) (c : Str → Option Str) (r : Str → Nat), Bf qs (gn zs ws) t h c r [] ∧ (t = 0 ∨ ∃ f ∈ zs, r f = t)
  | 0 => .inr ⟨_, _, _, Bf.start _ _, .inl rfl⟩
  | t + 1 => by
    rcases bf_go (ws := ws) cl t with hp | ⟨h, c, r, b, _⟩
    · exact .inl hp
    · obtain ⟨h', c', r', last, m, hl⟩ := mid_all (fun q hq => (cl q hq).2.1) (S := fun f => f ∈ zs) (fun q hq => (cl q hq).1) qs [] h c r none rfl b.mid (fun f hf => nomatch hf)
      cases last with
      | none => exact .inl ⟨h', m.pot fun q hq => ⟨(cl q hq).2.2, (cl q hq).1⟩⟩
      | some f => exact .inr ⟨h', c', r', m.toBf.turn, .inr ⟨f, hl f rfl, m.some_ f rfl⟩⟩
theorem dich {zs ws : List Str} {qs : List (Str × Str)} (nd : zs.Nodup) (cl : ∀ q ∈ qs, q.2 ∈ zs ∧ q.1 ≠ q.2 ∧ q.1 ∈ zs) : (∃ p, Pot zs ws qs p) ∨ ∃ ls, Rng qs zs ls ∧ T zs ls < T ws ls := by
  rcases bf_go (ws := ws) cl zs.length with hp | ⟨h, c, r, b, e⟩
  · exact .inl hp
  · rcases e with e | ⟨f, hf, e⟩
    · have ez := List.length_eq_zero_iff.mp e
      subst ez
      exact .inl ⟨fun _ => 0, fun _ => Int.le_refl _, fun v hv => (by cases hv), fun q hq => (by have := (cl q hq).1; cases this)⟩
    · obtain ⟨s, hs, _⟩ := wk_has b (v := f) (k := zs.length) (by omega)
      obtain ⟨q, m, hm, h0, hqm, hq, hl⟩ := wk_round nd hf (fun x y hxy => (cl _ (b.e x y hxy).1).2.2) hs
      exact .inr ⟨_, b.ring cl hm h0 hqm hq hl⟩
/-- the heap leads there -/
noncomputable def ld (zs ws : List Str) (qs : List (Str × Str)) : Bool := @decide (∃ p, Pot zs ws qs p) (Classical.propDecidable _)
theorem ld_pot {zs ws : List Str} {qs : List (Str × Str)} {p : Str → Int} (h : Pot zs ws qs p) : ld zs ws qs = true := @decide_eq_true _ (Classical.propDecidable _) ⟨p, h⟩
theorem ld_ring {zs ws ls : List Str} {qs : List (Str × Str)} (h : Rng qs zs ls) (l : T zs ls < T ws ls) : ld zs ws qs = false := @decide_eq_false _ (Classical.propDecidable _) fun ⟨p, hp⟩ => absurd l (Nat.not_lt.mpr (hp.rings h))
theorem ld_fewer {zs ws : List Str} {qs rs : List (Str × Str)} (sub : ∀ q ∈ qs, q ∈ rs) (h : ld zs ws rs = true) : ld zs ws qs = true := by
  obtain ⟨p, hp⟩ := @of_decide_eq_true _ (Classical.propDecidable _) h
  exact @decide_eq_true _ (Classical.propDecidable _) ⟨p, hp.nn, hp.few, fun q hq => hp.ok q (sub q hq)⟩
end HF
/-! lists of pairs of texts -/
namespace HF
open PySem PySem.Spec PyProof.Rows L2
theorem walk_gen {J : It} {n : Nat} {G : Hp → Prop} {Y : Nat → Hp → V → Hp → Prop} (w : Walk J n G Y) {S : V → Hp → (Hp → Prop) → Prop} {H0 : Hp} {Qd : Hp → Prop} (Pv : Nat → Hp → Prop) (h0 : Pv 0 H0) (hG : ∀ i H, i ≤ n → Pv i H → G H)
    (hs : ∀ i x H H', i < n → Pv i H → Y i H x H' → S x H' (Pv (i + 1))) (hd : ∀ H, Pv n H → Qd H) :
    ∃ W : Nat → Nat → Hp → Prop, (∃ m, W 0 m H0) ∧ ∀ i m H, W i m H → (J.stop i H ∧ Qd H) ∨ (J.go i H ∧ ∃ Nx : Hp → Prop, (∀ H', Nx H' → ∃ m', m' < m ∧ W (i + 1) m' H') ∧ ∀ x H', J.yld i H x H' → S x H' Nx) := by
  refine ⟨fun i m H => m = n - i ∧ i ≤ n ∧ Pv i H, ⟨n, by simp, Nat.zero_le _, h0⟩, ?_⟩
  rintro i m H ⟨rfl, hi, p⟩
  have q := hG i H hi p
  by_cases hlt : i < n
  · exact .inr ⟨w.goes i H hlt q, Pv (i + 1), fun H' p' => ⟨n - (i + 1), by omega, rfl, hlt, p'⟩, fun x H' y => hs i x H H' hlt p (w.yields i H x H' hlt q y)⟩
  · have e : i = n := by omega
    subst e
    exact .inl ⟨w.stops H q, hd H p⟩
abbrev TPr := Addr × (Str × Str)
def AtT (H : Hp) (p : TPr) : Prop := H p.1 = some (.tup [.str p.2.1, .str p.2.2])
def rfs (ps : List TPr) : List V := ps.map fun p => V.ref p.1
def LPs (H : Hp) (l : Addr) (ps : List TPr) : Prop := H l = some (.lst (rfs ps)) ∧ ∀ p ∈ ps, AtT H p
theorem LPs.same {H H' : Hp} {l : Addr} {ps : List TPr} (h : LPs H l ps) (s : Same H H') : LPs H' l ps := ⟨s _ _ h.1, fun p hp => s _ _ (h.2 p hp)⟩
theorem LPs.push {H : Hp} {l t : Addr} {ps : List TPr} {a b : Str} (h : LPs H l ps) (ht : H t = some (.tup [.str a, .str b])) : LPs (upd H l (.lst (rfs ps ++ [.ref t]))) l (ps ++ [(t, (a, b))]) := by
  have ne : ∀ {x : Addr} {u v : V}, H x = some (.tup [u, v]) → x ≠ l := fun e z => by
    rw [z, h.1] at e
    exact nomatch e
  refine ⟨by rw [upd_same]; unfold rfs; rw [List.map_append]; rfl, fun p hp => ?_⟩
  rcases List.mem_append.mp hp with hp | hp
  · have := h.2 p hp
    show upd _ _ _ p.1 = _
    rw [upd_ne (ne this)]
    exact this
  · rw [List.mem_singleton.mp hp]
    show upd _ _ _ t = _
    rw [upd_ne (ne ht)]
    exact ht
theorem rfs_at {ps : List TPr} {i : Nat} {x : V} (h : (rfs ps)[i]? = some x) : ∃ p, ps[i]? = some p ∧ x = .ref p.1 := by
  unfold rfs at h
  rw [List.getElem?_map] at h
  obtain ⟨p, h1, rfl⟩ := Option.map_eq_some_iff.mp h
  exact ⟨p, h1, rfl⟩
theorem rfs_len (ps : List TPr) : (rfs ps).length = ps.length := List.length_map _
theorem LPs.pz {K : PySem.W.Frag} {H : Hp} {l : Addr} {ps : List TPr} (h : LPs H l ps) : Pz K H l (ps.map (·.2)) := by
  refine ⟨ps.map (·.1), ?_, by rw [List.length_map, List.length_map], fun i a q e f => ?_⟩
  · rw [List.map_map]
    exact .inl (.inl (.inl h.1))
  · rw [List.getElem?_map] at e f
    obtain ⟨p, e1, rfl⟩ := Option.map_eq_some_iff.mp e
    rw [e1] at f
    cases f
    exact .inr (.inl (.inl (h.2 p (List.mem_of_getElem? e1))))
def dPr (q : Str × Str) : PyData := .tuple [.str q.1, .str q.2]
theorem AtT.dp {K : PySem.W.Frag} {H : Hp} {p : TPr} (h : AtT H p) : Dp K H (.ref p.1) (dPr p.2) := .tup (.inl (.inl h)) (.cons (.str _) (.cons (.str _) .nil))
theorem dpAll_prs {K : PySem.W.Frag} {H : Hp} : ∀ {ps : List TPr}, (∀ p ∈ ps, AtT H p) → DpAll K H (rfs ps) (ps.map fun p => dPr p.2)
  | [], _ => .nil
  | p :: r, h => .cons (h p List.mem_cons_self).dp (dpAll_prs fun q hq => h q (List.mem_cons_of_mem _ hq))
theorem LPs.dp {K : PySem.W.Frag} {H : Hp} {l : Addr} {ps : List TPr} (h : LPs H l ps) : Dp K H (.ref l) (.list (ps.map fun p => dPr p.2)) := .lst (.inl (.inl h.1)) (dpAll_prs h.2)
theorem LPs.dpq {K : PySem.W.Frag} {H : Hp} {l : Addr} {ps : List TPr} {qs : List (Str × Str)} (h : LPs H l ps) (e : ps.map (·.2) = qs) : Dp K H (.ref l) (.list (qs.map dPr)) := by
  subst e
  rw [List.map_map]
  exact h.dp
theorem eqv_pr (a b : Str × Str) : PyData.eqv (dPr a) (dPr b) = decide (a = b) := by
  obtain ⟨a1, a2⟩ := a
  obtain ⟨b1, b2⟩ := b
  show ((a1 == b1) && ((a2 == b2) && true)) = _
  rw [Bool.and_true, Bool.eq_iff_iff, Bool.and_eq_true_iff, beq_iff_eq, beq_iff_eq, decide_eq_true_iff, Prod.mk.injEq]
theorem eqv_prs (q : Str × Str) : ∀ qs : List (Str × Str), ((qs.map dPr).any fun z => PyData.eqv z (dPr q)) = decide (q ∈ qs)
  | [] => by simp
  | p :: r => by
    rw [List.map_cons, List.any_cons, eqv_prs q r, eqv_pr]
    by_cases h : p = q
    · subst h
      simp
    · have : q ≠ p := fun z => h z.symm
      simp [h, this]
theorem canLay_prs : ∀ {qs : List (Str × Str)}, (∀ q ∈ qs, Nm q.1 ∧ Nm q.2) → PyData.canLayAll0 (qs.map dPr) = true
  | [], _ => rfl
  | q :: r, h => by
    have h1 := h q List.mem_cons_self
    show ((PyData.strOk q.1 && (PyData.strOk q.2 && true)) && PyData.canLayAll0 (r.map dPr)) = true
    rw [canLay_prs fun p hp => h p (List.mem_cons_of_mem _ hp), show PyData.strOk q.1 = true from h1.1.ok, show PyData.strOk q.2 = true from h1.2.ok]
    rfl
theorem depth_prs : ∀ {qs : List (Str × Str)}, PyData.depthAll (qs.map dPr) ≤ 1
  | [] => Nat.zero_le _
  | q :: r => by
    show max (max 0 (max 0 0) + 1) (PyData.depthAll (r.map dPr)) ≤ 1
    have := depth_prs (qs := r)
    omega
theorem wide_prs : ∀ {qs : List (Str × Str)}, wideAll (qs.map dPr) ≤ 2
  | [] => Nat.zero_le _
  | q :: r => by
    show max (max 2 (max 0 (max 0 0))) (wideAll (r.map dPr)) ≤ 2
    have := wide_prs (qs := r)
    omega
theorem shp_pr {q : Str × Str} (h : Nm q.1 ∧ Nm q.2) : SeqAt.shaped (dPr q) = true := by
  unfold SeqAt.shaped
  rw [show (dPr q).canLay0 = true from by
    show (PyData.strOk q.1 && (PyData.strOk q.2 && true)) = true
    rw [show PyData.strOk q.1 = true from h.1.ok, show PyData.strOk q.2 = true from h.2.ok]
    rfl]
  rfl
theorem shp_prsL {qs : List (Str × Str)} (h : ∀ q ∈ qs, Nm q.1 ∧ Nm q.2) : SeqAt.shaped (.list (qs.map dPr)) = true := by
  unfold SeqAt.shaped
  rw [show (PyData.list (qs.map dPr)).canLay0 = true from canLay_prs h]
  have := depth_prs (qs := qs)
  exact decide_eq_true (show PyData.depthAll (qs.map dPr) + 1 ≤ 64 by omega)
theorem shp_prsT {qs : List (Str × Str)} (h : ∀ q ∈ qs, Nm q.1 ∧ Nm q.2) : SeqAt.shaped (.tuple (qs.map dPr)) = true := by
  unfold SeqAt.shaped
  rw [show (PyData.tuple (qs.map dPr)).canLay0 = true from canLay_prs h]
  have := depth_prs (qs := qs)
  exact decide_eq_true (show PyData.depthAll (qs.map dPr) + 1 ≤ 64 by omega)
section
variable {X : Cx}
def rNotInL (K : PySem.W.Frag) : R2 := fun x y H Q => ∃ d ds, Dp K H x d ∧ Dp K H y (.list ds) ∧ SeqAt.shaped d = true ∧ SeqAt.shaped (.list ds) = true ∧ Q (.bl (!ds.any fun z => PyData.eqv z d)) H
theorem op_notInL (hu : X.A.units + 65 < cLine) : OpR X (compareOp .NotIn) (rNotInL X.K) := by
  intro pins s σ H x y v u Q I rx ry hyp
  obtain ⟨d, ds, hd, he, sd, se, q⟩ := hyp
  obtain ⟨as, r1⟩ := Dp.reads I d x v hd rx
  obtain ⟨bs, r2⟩ := Dp.reads I (.list ds) y u he ry
  have deep : d.depth ≤ 64 := of_decide_eq_true (Bool.and_eq_true_iff.mp sd).2
  exact SeqAt.notIn_list_reads r2 r1 (SeqAt.canLay_of_shaped se) (SeqAt.canLay_of_shaped sd) (by have := Nat.min_le_right (PyData.depthAll ds) d.depth; omega) ⟨.bl _, H, I, rfl, q⟩
end
theorem leads_ld {K : PySem.W.Frag} {H : Hp} {h o r : Addr} {zs ws : List Str} {qs : List (Str × Str)} {Q : VK} {E : XK} (tw : Two K H h o r zs ws qs) (k : ∀ H' : Hp, Same H H' → Q (.bl (ld zs ws qs)) H') : spLeads K [.ref h, .ref o, .ref r] H Q E :=
  ⟨h, o, r, zs, ws, qs, rfl, tw, fun H' p s hp => by
    have := k H' s
    rwa [ld_pot hp] at this, fun H' ls s h1 h2 => by
    have := k H' s
    rwa [ld_ring h1 h2] at this⟩
theorem climbs_ld {K : PySem.W.Frag} {H : Hp} {h o r : Addr} {zs ws : List Str} {qs : List (Str × Str)} {Q : VK} {E : XK} (tw : Two K H h o r zs ws qs) (k : ∀ H' : Hp, Same H H' → Q (.bl (!ld zs ws qs)) H') : spClimbs K [.ref h, .ref o, .ref r] H Q E :=
  ⟨h, o, r, zs, ws, qs, rfl, tw, fun H' b s h1 h2 => by
    have := k H' s
    rcases dich (ws := ws) tw.nd tw.cl with ⟨p, hp⟩ | ⟨ls, g1, g2⟩
    · rw [h1 p hp]
      rwa [ld_pot hp] at this
    · rw [h2 ls g1 g2]
      rwa [ld_ring g1 g2] at this⟩
/-- all pairs of unlike books, rising -/
def allP (bs : List Str) : List (Str × Str) := bs.flatMap fun b => (bs.filter fun f => decide (b ≠ f)).map fun f => (b, f)
theorem allP_mem {bs : List Str} {q : Str × Str} : q ∈ allP bs ↔ q.1 ∈ bs ∧ q.2 ∈ bs ∧ q.1 ≠ q.2 := by
  obtain ⟨a, b⟩ := q
  unfold allP
  simp only [List.mem_flatMap, List.mem_map, List.mem_filter, decide_eq_true_iff, Prod.mk.injEq]
  constructor
  · rintro ⟨x, hx, y, ⟨hy, hn⟩, rfl, rfl⟩
    exact ⟨hx, hy, hn⟩
  · rintro ⟨h1, h2, h3⟩
    exact ⟨a, h1, b, ⟨h2, h3⟩, rfl, rfl⟩
theorem allP_len (bs : List Str) : (allP bs).length ≤ bs.length * bs.length := by
  unfold allP
  suffices h : ∀ xs : List Str, (xs.flatMap fun b => (bs.filter fun f => decide (b ≠ f)).map fun f => (b, f)).length ≤ xs.length * bs.length from h bs
  intro xs
  induction xs with
  | nil => simp
  | cons x r ih =>
    rw [List.flatMap_cons, List.length_append, List.length_map, List.length_cons, Nat.succ_mul]
    have := List.length_filter_le (fun f => decide (x ≠ f)) bs
    omega
end HF
namespace HF
open PySem PySem.Spec PyProof.Rows L2
/-! ### what shows a row, what shows a bar -/
theorem eqv_all_strs : ∀ a b : List Str, PyData.eqvAll (a.map PyData.str) (b.map PyData.str) = decide (a = b)
  | [], [] => by simp [PyData.eqvAll]
  | [], y :: s => by simp [PyData.eqvAll]
  | x :: r, [] => by simp [PyData.eqvAll]
  | x :: r, y :: s => by
    show (PyData.eqv (.str x) (.str y) && PyData.eqvAll (r.map PyData.str) (s.map PyData.str)) = decide (x :: r = y :: s)
    rw [eqv_all_strs r s]
    have e : PyData.eqv (.str x) (.str y) = decide (x = y) := by
      show (x == y) = decide (x = y)
      by_cases h : x = y
      · rw [h]
        simp
      · rw [decide_eq_false h]
        simpa using h
    rw [e]
    by_cases h : x = y <;> simp [h]
theorem eqv_tups (a b : List Str) : PyData.eqv (.tuple (a.map PyData.str)) (.tuple (b.map PyData.str)) = decide (a = b) := by
  rw [← eqv_all_strs]
  rfl
def inD (zs : List Str) : PyData → Bool
  | .str b => decide (b ∈ zs)
  | _ => false
theorem inD_eq (zs : List Str) (d : PyData) : ((zs.map PyData.str).any fun z => PyData.eqv z d) = inD zs d := by
  by_cases h : ∃ b, d = .str b
  · obtain ⟨b, rfl⟩ := h
    exact eqv_strs b zs
  · rw [eqv_other (fun b hb => h ⟨b, hb⟩)]
    cases d with
    | str b => exact absurd ⟨b, rfl⟩ h
    | _ => rfl
def bksD : PyData → List Str
  | .list ds => ds.map strD
  | _ => []
def isRwD (zs : List Str) : PyData → Bool
  | .list ds => ds.all (inD zs)
  | _ => false
theorem rwD_not {zs : List Str} {d : PyData} (h : isLst d = false) : isRwD zs d = false := by
  cases d with
  | list ds => exact nomatch h
  | _ => rfl
theorem Gd.shp {m w : Nat} {d : PyData} (h : Gd m w d) (hm : m ≤ 64) : SeqAt.shaped d = true := by
  unfold SeqAt.shaped
  rw [h.lay]
  exact decide_eq_true (Nat.le_trans h.dep hm)
def isRowB (zs ws : List Str) (qs : List (Str × Str)) : PyData → Bool
  | .list ds => ds.all (inD zs) && (decide (refAt qs zs (ds.map strD) = none) && decide (lefts zs (ds.map strD) = ws))
  | _ => false
def isBarB (zs ws : List Str) (qs : List (Str × Str)) (d : PyData) : Bool := isRingB qs d && decide (T zs (bksD d) < T ws (bksD d))
theorem row_not {zs ws : List Str} {qs : List (Str × Str)} {d : PyData} (h : isLst d = false) : isRowB zs ws qs d = false := by
  cases d with
  | list ds => exact nomatch h
  | _ => rfl
theorem in_strs {A : Addr → Prop} {H : Hp} {bs : List Str} : ∀ {zs : List (V × PyData)}, (∀ z ∈ zs, Dq A H z.1 z.2) → (zs.map Prod.snd).all (inD bs) = true → zs.map Prod.fst = ((zs.map Prod.snd).map strD).map V.str ∧ ∀ x ∈ (zs.map Prod.snd).map strD, x ∈ bs
  | [], _, _ => ⟨rfl, fun x hx => nomatch hx⟩
  | z :: r, h, e => by
    rw [List.map_cons, List.all_cons, Bool.and_eq_true] at e
    obtain ⟨i1, i2⟩ := in_strs (fun y hy => h y (List.mem_cons_of_mem _ hy)) e.2
    have hz := h z List.mem_cons_self
    obtain ⟨v, d⟩ := z
    cases d with
    | str b =>
      cases hz
      refine ⟨by rw [List.map_cons, List.map_cons, List.map_cons, List.map_cons, i1]; rfl, fun x hx => ?_⟩
      rcases List.mem_cons.mp hx with q | q
      · rw [q]
        exact of_decide_eq_true e.1
      · exact i2 x q
    | _ => exact nomatch e.1
theorem ring_bks {zs : List Str} {qs : List (Str × Str)} {ds : List PyData} (cl : ∀ q ∈ qs, q.2 ∈ zs ∧ q.1 ≠ q.2 ∧ q.1 ∈ zs) (h : isRingB qs (.list ds) = true) : ds.all isStr = true ∧ 2 ≤ ds.length ∧ (ds.map strD).Nodup ∧ ∀ x ∈ ds.map strD, x ∈ zs := by
  have hB : isRingB qs (.list ds) = (decide (2 ≤ ds.length) && (ds.all isStr && (decide ((ds.map strD).Nodup) && (cyc (ds.map strD)).all fun p => decide (p ∈ qs)))) := rfl
  rw [hB, Bool.and_eq_true, Bool.and_eq_true, Bool.and_eq_true] at h
  obtain ⟨h1, h2, h3, h4⟩ := h
  have l2 : 2 ≤ ds.length := of_decide_eq_true h1
  refine ⟨h2, l2, of_decide_eq_true h3, fun x hx => ?_⟩
  generalize hls : ds.map strD = ls at *
  have hll : 1 ≤ ls.length := by
    rw [← hls, List.length_map]
    omega
  obtain ⟨c1, c2⟩ := cyc_len hll
  obtain ⟨i, hi⟩ := List.mem_iff_getElem?.mp hx
  have hil := (List.getElem?_eq_some_iff.mp hi).1
  have hp : (cyc ls)[i]? = some (cyc ls)[i] := List.getElem?_eq_getElem (by omega)
  have hz := hp
  unfold cyc at hz
  rw [List.getElem?_zip_eq_some] at hz
  rw [hi] at hz
  have hm := of_decide_eq_true (List.all_eq_true.mp h4 _ (List.mem_of_getElem? hp))
  have := (cl _ hm).2.2
  have e := Option.some.inj hz.1
  unfold cyc at this
  rw [e]
  exact this
structure Cmp (K : PySem.W.Frag) (H : Hp) (h o r : Addr) (zs ws : List Str) (qs : List (Str × Str)) : Prop where
  hz : Hq K H h zs
  hw : Hq K H o ws
  ti : PqA K H r qs
  pm : ws.Perm zs
  nd : zs.Nodup
  ne : zs ≠ []
  few : zs.length ≤ 100
  qf : qs.length ≤ 400
  cl : ∀ q ∈ qs, q.2 ∈ zs ∧ q.1 ≠ q.2 ∧ q.1 ∈ zs
  nm : ∀ z ∈ zs, Nm z
theorem Cmp.same {K : PySem.W.Frag} {H H' : Hp} {h o r : Addr} {zs ws : List Str} {qs : List (Str × Str)} (t : Cmp K H h o r zs ws qs) (s : Same H H') : Cmp K H' h o r zs ws qs := { t with hz := t.hz.same s, hw := t.hw.same s, ti := t.ti.same s }
theorem Cmp.two {K : PySem.W.Frag} {H : Hp} {h o r : Addr} {zs ws : List Str} {qs : List (Str × Str)} (t : Cmp K H h o r zs ws qs) : Two K H h o r zs ws qs := ⟨t.hz, t.hw, t.ti.pz, t.pm, t.nd, t.ne, t.few, t.qf, t.cl, t.nm⟩
def spBar (K : PySem.W.Frag) : Sp := fun vs H Q _ => ∃ (h o r : Addr) (x : V) (zs ws : List Str) (qs : List (Str × Str)) (A : Addr → Prop) (d : PyData), vs = [.ref h, .ref o, .ref r, x] ∧ Cmp K H h o r zs ws qs ∧ Dq A H x d ∧ Gd 6 1000 d ∧ ∀ H' : Hp, Same H H' → Q (.bl (isBarB zs ws qs d)) H'
def spRowB (K : PySem.W.Frag) : Sp := fun vs H Q _ => ∃ (h o r : Addr) (x : V) (zs ws : List Str) (qs : List (Str × Str)) (A : Addr → Prop) (d : PyData), vs = [.ref h, .ref o, .ref r, x] ∧ Cmp K H h o r zs ws qs ∧ Dq A H x d ∧ Gd 6 1000 d ∧ ∀ H' : Hp, Same H H' → Q (.bl (isRowB zs ws qs d)) H'
def spIsRow (K : PySem.W.Frag) : Sp := fun vs H Q _ => ∃ (h : Addr) (x : V) (zs : List Str) (A : Addr → Prop) (d : PyData), vs = [.ref h, x] ∧ Hq K H h zs ∧ (∀ z ∈ zs, Nm z) ∧ Dq A H x d ∧ Gd 6 1000 d ∧ ∀ H' : Hp, Same H H' → Q (.bl (isRwD zs d)) H'
end HF
namespace HF
open PySem PySem.Spec PyProof.Rows L2
/-! ### one heap leads to another -/
def Led (qs : List (Str × Str)) (a b : List Str) : Prop := ∃ row, (∀ x ∈ row, x ∈ a) ∧ refAt qs a row = none ∧ lefts a row = b
theorem Led.refl (qs : List (Str × Str)) (a : List Str) : Led qs a a := ⟨[], (fun x hx => nomatch hx), rfl, rfl⟩
theorem Led.perm {qs : List (Str × Str)} {a b : List Str} (h : Led qs a b) (nd : a.Nodup) : b.Perm a := by
  obtain ⟨row, h1, h2, rfl⟩ := h
  exact lefts_perm nd h1
theorem Led.trans {qs : List (Str × Str)} {a b c : List Str} (nd : a.Nodup) (h : Led qs a b) (g : Led qs b c) : Led qs a c := by
  have pm := h.perm nd
  obtain ⟨r1, h1, h2, rfl⟩ := h
  obtain ⟨r2, g1, g2, rfl⟩ := g
  refine ⟨r1 ++ r2, fun x hx => ?_, ?_, lefts_app _ _ _⟩
  · rcases List.mem_append.mp hx with z | z
    · exact h1 x z
    · exact pm.mem_iff.mp (g1 x z)
  · rw [refAt_app, h2]
    show (refAt qs (lefts a r1) r2).map _ = none
    rw [g2]
    rfl
theorem Led.falls {qs : List (Str × Str)} {a b ls : List Str} (nd : a.Nodup) (h : Led qs a b) (r : Rng qs a ls) : T b ls ≤ T a ls := by
  obtain ⟨row, h1, h2, rfl⟩ := h
  exact T_row r nd h1 h2
/-- heaps seen one behind the other -/
structure SeenAt (qs : List (Str × Str)) (zs : List Str) (H : Hp) (S : Addr) (as : List Addr) (hs : List (List Str)) : Prop where
  top : H S = some (.lst (as.map V.ref))
  len : as.length = hs.length
  at' : ∀ (i : Nat) (a : Addr) (z : List Str), as[i]? = some a → hs[i]? = some z → Tp H a (z.map V.str)
  led : ∀ (i j : Nat) (x y : List Str), i ≤ j → hs[i]? = some x → hs[j]? = some y → Led qs x y
  pm : ∀ z ∈ hs, z.Perm zs
theorem SeenAt.same {qs : List (Str × Str)} {zs : List Str} {H H' : Hp} {S : Addr} {as : List Addr} {hs : List (List Str)} (h : SeenAt qs zs H S as hs) (s : Same H H') : SeenAt qs zs H' S as hs := { h with top := s _ _ h.top, at' := fun i a z e f => (h.at' i a z e f).same s }
theorem SeenAt.oth {qs : List (Str × Str)} {zs : List Str} {H H' : Hp} {S p : Addr} {c : Int} {as : List Addr} {hs : List (List Str)} (h : SeenAt qs zs H S as hs) (o : Oth p H H') (hb : Bx H p c) : SeenAt qs zs H' S as hs := { h with top := o _ _ h.top (bx_refs hb h.top), at' := fun i a z e f => (h.at' i a z e f).oth o ((h.at' i a z e f).ne hb) }
theorem SeenAt.get {qs : List (Str × Str)} {zs : List Str} {H : Hp} {S : Addr} {as : List Addr} {hs : List (List Str)} (h : SeenAt qs zs H S as hs) {i : Nat} {a : Addr} (e : as[i]? = some a) : ∃ z, hs[i]? = some z ∧ Tp H a (z.map V.str) ∧ z.Perm zs := by
  have hi := (List.getElem?_eq_some_iff.mp e).1
  rw [h.len] at hi
  have hz : hs[i]? = some hs[i] := List.getElem?_eq_getElem hi
  exact ⟨_, hz, h.at' i a _ e hz, h.pm _ (List.mem_of_getElem? hz)⟩
theorem SeenAt.more {qs : List (Str × Str)} {zs : List Str} {H : Hp} {S s : Addr} {as : List Addr} {hs : List (List Str)} {y z : List Str} (h : SeenAt qs zs H S as hs) (nd : zs.Nodup) (hl : hs.getLast? = some y) (hy : Led qs y z) (ht : Tp H s (z.map V.str)) : SeenAt qs zs (upd H S (.lst (as.map V.ref ++ [.ref s]))) S (as ++ [s]) (hs ++ [z]) := by
  have hne : ∀ {a : Addr} {xs : List V}, Tp H a xs → a ≠ S := fun t e => by
    obtain ⟨ob, e2, _⟩ := t
    rw [e, h.top] at e2
    exact nomatch e2
  have keep : ∀ {a : Addr} {xs : List V}, Tp H a xs → Tp (upd H S (.lst (as.map V.ref ++ [.ref s]))) a xs := fun t => by
    have n := hne t
    obtain ⟨ob, e2, r⟩ := t
    exact ⟨ob, by rw [upd_ne n]; exact e2, r⟩
  have hlast : hs[hs.length - 1]? = some y := by
    rw [← List.getLast?_eq_getElem?]
    exact hl
  have hpos : 0 < hs.length := by
    cases hs with
    | nil => exact nomatch hl
    | cons _ _ => exact Nat.succ_pos _
  have ypm := h.pm y (List.mem_of_getElem? hlast)
  refine ⟨by rw [upd_same, List.map_append]; rfl, by rw [List.length_append, List.length_append, h.len]; rfl, fun i a w e f => ?_, fun i j u w hij e f => ?_, fun w hw => ?_⟩
  · rw [List.getElem?_append] at e f
    rw [h.len] at e
    split at e
    · rename_i hi
      rw [if_pos hi] at f
      exact keep (h.at' i a w e f)
    · rename_i hi
      rw [if_neg hi] at f
      have h0 : i - hs.length = 0 := by
        have := (List.getElem?_eq_some_iff.mp e).1
        simp at this
        omega
      rw [h0] at e f
      cases (show some s = some a from e)
      cases (show some z = some w from f)
      exact keep ht
  · rw [List.getElem?_append] at e f
    split at f
    · rename_i hj
      rw [if_pos (by omega)] at e
      exact h.led i j u w hij e f
    · rename_i hj
      have h0 : j - hs.length = 0 := by
        have := (List.getElem?_eq_some_iff.mp f).1
        simp at this
        omega
      rw [h0] at f
      cases (show some z = some w from f)
      split at e
      · rename_i hi
        have und : u.Nodup := (h.pm u (List.mem_of_getElem? e)).nodup_iff.mpr nd
        exact Led.trans und (h.led i (hs.length - 1) u y (by omega) e hlast) hy
      · rename_i hi
        have h1 : i - hs.length = 0 := by omega
        rw [h1] at e
        cases (show some z = some u from e)
        exact Led.refl _ _
  · rcases List.mem_append.mp hw with q | q
    · exact h.pm w q
    · rw [List.mem_singleton.mp q]
      exact (hy.perm (ypm.nodup_iff.mpr nd)).trans ypm
end HF
namespace HF
open PySem PySem.Spec PyProof.Rows L2
/-! ### two dicts of numbers by the same books: == -/
section
variable {X : Cx}
def rEqDH : R2 := fun x y H Q => ∃ (a b : Addr) (zs : List Str) (f g : Str → Int), x = .ref a ∧ y = .ref b ∧ DH H a zs f ∧ DH H b zs g ∧ Q (.bl (decide (∀ z ∈ zs, f z = g z))) H
theorem kv_at {zs : List Str} {f : Str → Int} {vs : List (Key × Value)} (r : KV (dkv zs f) vs) {k : Key} {v : Value} (h : (k, v) ∈ vs) : ∃ z ∈ zs, k = Sum.inr z ∧ ∃ t, v = Value.int (f z) t := by
  obtain ⟨i, hi⟩ := List.mem_iff_getElem?.mp h
  obtain ⟨x, h1, h2⟩ := KV.at' r hi
  rw [List.getElem?_map] at h1
  obtain ⟨z, hz, e⟩ := Option.map_eq_some_iff.mp h1
  have e1 : k = Sum.inr z := (congrArg Prod.fst e).symm
  have e2 : x = V.int (f z) := (congrArg Prod.snd e).symm
  subst e2
  exact ⟨z, List.mem_of_getElem? hz, e1, h2⟩
theorem op_eqDH (hu : X.A.units + 64 < cLine) : OpR X (compareOp .Eq) rEqDH := by
  intro pn st σ H x y v u Q I rx ry hyp
  obtain ⟨a, b, zs, f, g, rfl, rfl, ha, hb, q⟩ := hyp
  cases rx
  cases ry
  obtain ⟨_, ya, va, ra, da⟩ := (show ObjOk X.prog X.w H st.heap a (.dK (dkv zs f)) from I.hok a _ ha)
  obtain ⟨_, yb, vb, rb, db⟩ := (show ObjOk X.prog X.w H st.heap b (.dK (dkv zs g)) from I.hok b _ hb)
  have val : ∀ z ∈ zs, ∃ t, valueAt vb (Sum.inr z) = some (Value.int (g z) t) := fun z hz => by
    have h1 := rb.val (Sum.inr z : Key)
    rw [keys_at (g := fun x => V.int (g x)) hz] at h1
    obtain ⟨w', hw, t, ht⟩ := RelO.some_of h1
    exact ⟨t, by rw [hw, ht]⟩
  refine PySem.W.eq_dictsT (knd := mixKind X.prog X.w) (n := 0) (e := fun k => match k with | Sum.inr z => decide (f z = g z) | _ => true) ya yb da db (fun k w1 w2 hm hv => ?_) (by omega) (fin_bl I q ?_)
  · obtain ⟨z, hz, rfl, t, rfl⟩ := kv_at ra hm
    obtain ⟨t2, h2⟩ := val z hz
    rw [h2] at hv
    cases hv
    refine .leaf fun A _ => ?_
    have := SeqAt.EqAt.int_int (A := A) (s := st) (f z) t (g z) t2
    rw [show (f z == g z) = decide (f z = g z) by by_cases e : f z = g z <;> simp [e]] at this
    exact this
  · have hl : va.length = vb.length := by rw [← ra.length, ← rb.length, dkv_len, dkv_len]
    rw [hl, beq_self_eq_true, Bool.true_and, Bool.eq_iff_iff, List.all_eq_true, decide_eq_true_eq]
    constructor
    · rintro hall ⟨k, v⟩ hm
      obtain ⟨z, hz, rfl, t, rfl⟩ := kv_at ra hm
      obtain ⟨t2, h2⟩ := val z hz
      rw [h2]
      exact decide_eq_true (hall z hz)
    · intro hall z hz
      have h1 := ra.val (Sum.inr z : Key)
      rw [keys_at (g := fun x => V.int (f x)) hz] at h1
      obtain ⟨w', hw, _⟩ := RelO.some_of h1
      have hm : (Sum.inr z, w') ∈ va := by
        unfold valueAt at hw
        obtain ⟨pr, hp1, hp2⟩ := Option.map_eq_some_iff.mp hw
        have hp3 := List.mem_of_find?_eq_some hp1
        have hp4 := List.find?_some hp1
        have : pr = (Sum.inr z, w') := Prod.ext (by simpa using hp4) hp2
        rw [← this]
        exact hp3
      have h2 := hall _ hm
      rw [Bool.and_eq_true] at h2
      exact of_decide_eq_true h2.2
end
/-! ### dict([(x, 0) for x in xs]) -/
theorem merge_zero {zs : List Str} (nd : zs.Nodup) : mergeK [] (zs.map fun x => ((Sum.inr x : Key), V.int 0)) = dkv zs (fun _ => 0) := by
  have go : ∀ (r a : List Str), (a ++ r).Nodup → (r.map fun x => ((Sum.inr x : Key), V.int 0)).foldl (fun acc kv => putK acc kv.1 kv.2) (dkv a (fun _ => 0)) = dkv (a ++ r) (fun _ => 0) := fun r => by
    induction r with
    | nil =>
      intro a _
      rw [List.append_nil]
      rfl
    | cons x r ih =>
      intro a hn
      have hx : x ∉ a := fun z => (List.nodup_append.mp hn).2.2 x z x List.mem_cons_self rfl
      show (r.map _).foldl _ (putK (dkv a (fun _ => 0)) (Sum.inr x) (V.int 0)) = _
      rw [putK_new _ (keys_out (g := fun _ => V.int 0) hx)]
      have e : dkv a (fun _ => 0) ++ [((Sum.inr x : Key), V.int 0)] = dkv (a ++ [x]) (fun _ => 0) := by
        rw [show dkv (a ++ [x]) (fun _ => 0) = dkv a (fun _ => 0) ++ [((Sum.inr x : Key), V.int 0)] from List.map_append]
      rw [e, ih (a ++ [x]) (by rw [List.append_assoc]; exact hn), List.append_assoc]
      rfl
  exact go zs [] nd
/-- how often each book goes, as the law reckons it: where no ring climbs -/
def spCounts (K : PySem.W.Frag) : Sp := fun vs H Q _ => ∃ (h o r : Addr) (zs ws : List Str) (qs : List (Str × Str)) (p : Str → Int), vs = [.ref h, .ref o, .ref r] ∧ Tp H h (zs.map V.str) ∧ Tp H o (ws.map V.str) ∧ PqT K H r qs ∧ ws.Perm zs ∧ zs.Nodup ∧ zs ≠ [] ∧ zs.length ≤ 12 ∧ qs.length ≤ 400 ∧ (∀ q ∈ qs, q.2 ∈ zs ∧ q.1 ≠ q.2 ∧ q.1 ∈ zs) ∧ Pot zs ws qs p ∧
  ∀ (H' : Hp) (D : Addr) (g : Str → Int), Same H H' → H D = none → DH H' D zs g → Lst zs ws qs g → Q (.ref D) H'
/-! ### raised from nought, turn by turn -/
/-- one step: never above what all solutions have -/
structure Cn (zs ws : List Str) (qs : List (Str × Str)) (g : Str → Int) : Prop where
  nn : ∀ x, 0 ≤ g x
  below : ∀ g', Sol zs ws qs g' → ∀ x, g x ≤ g' x
  first : ∀ i x y, ws[i]? = some x → ws[i + 1]? = some y → pos y zs < pos x zs → 1 ≤ g x
theorem Cn.set {zs ws : List Str} {qs : List (Str × Str)} {g : Str → Int} {v : Str} {n : Int} (c : Cn zs ws qs g) (h1 : g v ≤ n) (h2 : ∀ g', Sol zs ws qs g' → n ≤ g' v) : Cn zs ws qs (setF g v n) :=
  ⟨fun x => Int.le_trans (c.nn x) (setF_up h1 x), fun g' s => setF_below (c.below g' s) (h2 g' s), fun i x y hx hy hp => Int.le_trans (c.first i x y hx hy hp) (setF_up h1 x)⟩
/-- what a whole turn without a change shows -/
structure Still (zs ws : List Str) (qs : List (Str × Str)) (g : Str → Int) (n : Nat) : Prop where
  up : ∀ i x, i < n → ws[i]? = some x → 0 < g x → ∀ j y, j < i → ws[j]? = some y → 1 ≤ g y
  ed : ∀ i x, i < n → ws[i]? = some x → 0 < g x → ∀ q ∈ qs, q.1 = x → g x + gn zs ws q ≤ g q.2
theorem Still.sol {zs ws : List Str} {qs : List (Str × Str)} {g : Str → Int} (s : Still zs ws qs g ws.length) (c : Cn zs ws qs g) (pm : ws.Perm zs) (cl : ∀ q ∈ qs, q.1 ∈ zs) : Sol zs ws qs g := by
  refine ⟨c.nn, fun i x hx hf j y hj hy => ?_, fun q hq hp => ?_⟩
  · have hi := (List.getElem?_eq_some_iff.mp hx).1
    have hgx : 0 < g x := by
      rcases hf with z | ⟨y2, hy2, z⟩
      · exact z
      · have := c.first i x y2 hx hy2 z
        omega
    by_cases e : j = i
    · subst e
      rw [hx] at hy
      cases hy
      omega
    · exact s.up i x hi hx hgx j y (by omega) hy
  · have hw := pm.mem_iff.mpr (cl q hq)
    obtain ⟨i, hi⟩ := List.mem_iff_getElem?.mp hw
    exact s.ed i q.1 (List.getElem?_eq_some_iff.mp hi).1 hi hp q hq rfl
theorem Kp.dK {K : PySem.W.Frag} {b D : Addr} {H Hx : Hp} {kvs : List (Key × V)} (ox : OthA (· = D) H Hx) (e : H D = some (.dK kvs)) : Kp K b H Hx := ⟨fun xs z => by
  rcases z with (z | ⟨ob, z⟩) | z
  · exact .inl (.inl (ox _ _ z fun q => by rw [q, e] at z; exact nomatch z))
  · exact .inl (.inr ⟨ob, ox _ _ z fun q => by rw [q, e] at z; exact nomatch z⟩)
  · exact .inr z, fun xs z => by
  rcases z with (z | ⟨ob, z⟩) | z
  · exact .inl (.inl (ox _ _ z fun q => by rw [q, e] at z; exact nomatch z))
  · exact .inl (.inr ⟨ob, ox _ _ z fun q => by rw [q, e] at z; exact nomatch z⟩)
  · exact .inr z⟩
theorem paired_of {α β : Type} {R : α → β → Prop} : ∀ {xs : List α} {ys : List β}, xs.length = ys.length → (∀ (i : Nat) (x : α) (y : β), xs[i]? = some x → ys[i]? = some y → R x y) → Paired R xs ys
  | [], [], _, _ => .nil
  | x :: r, y :: s, h, f => .cons (f 0 x y rfl rfl) (paired_of (by simpa using h) fun i a b ha hb => f (i + 1) a b ha hb)
  | [], _ :: _, h, _ => by simp at h
  | _ :: _, [], h, _ => by simp at h
structure StillR (zs ws : List Str) (qs : List (Str × Str)) (g0 g : Str → Int) (n : Nat) : Prop where
  up : ∀ i x, i < n → ws[i]? = some x → 0 < g0 x → ∀ j y, j < i → ws[j]? = some y → 1 ≤ g y
  ed : ∀ i x, i < n → ws[i]? = some x → 0 < g0 x → ∀ q ∈ qs, q.1 = x → g0 x + gn zs ws q ≤ g q.2
theorem StillR.mono {zs ws : List Str} {qs : List (Str × Str)} {g0 g g' : Str → Int} {n : Nat} (s : StillR zs ws qs g0 g n) (le : ∀ x, g x ≤ g' x) : StillR zs ws qs g0 g' n :=
  ⟨fun i x hi hx hp j y hj hy => Int.le_trans (s.up i x hi hx hp j y hj hy) (le y), fun i x hi hx hp q hq e => Int.le_trans (s.ed i x hi hx hp q hq e) (le _)⟩
theorem StillR.still {zs ws : List Str} {qs : List (Str × Str)} {g0 g : Str → Int} {n : Nat} (s : StillR zs ws qs g0 g n) (pm : ws.Perm zs) (e : ∀ z ∈ zs, g z = g0 z) : Still zs ws qs g n :=
  ⟨fun i x hi hx hp j y hj hy => s.up i x hi hx (by rw [← e x (pm.mem_iff.mp (List.mem_of_getElem? hx))]; exact hp) j y hj hy,
   fun i x hi hx hp q hq eq => by
    have ex := e x (pm.mem_iff.mp (List.mem_of_getElem? hx))
    have := s.ed i x hi hx (by rw [← ex]; exact hp) q hq eq
    rw [ex]
    exact this⟩
theorem StillR.next {zs ws : List Str} {qs : List (Str × Str)} {g0 g : Str → Int} {n : Nat} {x : Str} (s : StillR zs ws qs g0 g n) (hx : ws[n]? = some x) (h : 0 < g0 x → (∀ j y, j < n → ws[j]? = some y → 1 ≤ g y) ∧ ∀ q ∈ qs, q.1 = x → g0 x + gn zs ws q ≤ g q.2) : StillR zs ws qs g0 g (n + 1) := by
  refine ⟨fun i y hi hy hp j z hj hz => ?_, fun i y hi hy hp q hq e => ?_⟩
  · by_cases ei : i = n
    · subst ei
      rw [hx] at hy
      cases hy
      exact (h hp).1 j z hj hz
    · exact s.up i y (by omega) hy hp j z hj hz
  · by_cases ei : i = n
    · subst ei
      rw [hx] at hy
      cases hy
      exact (h hp).2 q hq e
    · exact s.ed i y (by omega) hy hp q hq e
theorem room_few {U g : Str → Int} {m : Nat} (nn : ∀ x, 0 ≤ g x) : ∀ {zs : List Str}, (∀ x ∈ zs, U x ≤ m) → room zs U g ≤ zs.length * m
  | [], _ => Nat.zero_le _
  | z :: r, h => by
    have h1 := room_few nn (zs := r) (U := U) (m := m) fun x hx => h x (List.mem_cons_of_mem _ hx)
    have h2 := h z List.mem_cons_self
    have h3 := nn z
    show (U z - g z).toNat + room r U g ≤ (r.length + 1) * m
    rw [Nat.add_mul]
    omega
theorem max_l (x : Int) : (if x > (1 : Int) then x else 1) = max 1 x := by
  split <;> omega
end HF
namespace HF
open PySem PySem.Spec PyProof.Rows L2
/-! ### how often a book stands in the row, how long it is -/
theorem cnt_layer {ws : List Str} {g : Str → Int} {k : Nat} {x : Str} (nd : ws.Nodup) (hx : x ∈ ws) : (layer ws g k).count x = if (k : Int) ≤ g x then 1 else 0 := by
  have lnd : (layer ws g k).Nodup := List.Pairwise.filter _ (List.pairwise_reverse.mpr (nd.imp fun h e => h e.symm))
  by_cases h : (k : Int) ≤ g x
  · rw [if_pos h]
    have hm : x ∈ layer ws g k := mem_layer.mpr ⟨hx, h⟩
    have h1 := count_all (ls := layer ws g k)
    rw [decide_eq_true lnd] at h1
    have h2 := of_decide_eq_true (List.all_eq_true.mp h1 x hm)
    injection h2 with h2
    omega
  · rw [if_neg h]
    exact List.count_eq_zero.mpr fun hm => h (mem_layer.mp hm).2
theorem cnt_row {ws : List Str} {g : Str → Int} {x : Str} (nd : ws.Nodup) (hx : x ∈ ws) : ∀ {n : Nat}, 0 ≤ g x → (((rowOf ws g n).count x : Nat) : Int) = min (g x) n
  | 0, h => by
    show ((0 : Nat) : Int) = min (g x) 0
    omega
  | n + 1, h => by
    have ih := cnt_row (g := g) nd hx (n := n) h
    show (((layer ws g (n + 1) ++ rowOf ws g n).count x : Nat) : Int) = _
    rw [List.count_append, cnt_layer nd hx]
    split <;> omega
theorem cnt_full {zs ws : List Str} {qs : List (Str × Str)} {g : Str → Int} {m : Nat} {x : Str} (hs : Sol zs ws qs g) (pm : ws.Perm zs) (nd : zs.Nodup) (hx : x ∈ zs) (top : ∀ x ∈ zs, g x ≤ (m : Int)) : (((rowOf ws g m).count x : Nat) : Int) = g x := by
  rw [cnt_row (pm.nodup_iff.mpr nd) (pm.mem_iff.mpr hx) (hs.nn x)]
  have := top x hx
  omega
/-- all together -/
def tot (zs : List Str) (g : Str → Int) : Int := (zs.map g).sum
theorem len_counts {row : List Str} : ∀ {zs : List Str}, zs.Nodup → (∀ b ∈ row, b ∈ zs) → ((row.length : Nat) : Int) = tot zs (fun z => ((row.count z : Nat) : Int)) := by
  induction row with
  | nil =>
    intro zs _ _
    have : ∀ l : List Str, tot l (fun z => (((([] : List Str)).count z : Nat) : Int)) = 0 := fun l => by
      induction l with
      | nil => rfl
      | cons a r ih =>
        show ((([] : List Str).count a : Nat) : Int) + tot r _ = 0
        rw [ih]
        simp
    rw [this]
    rfl
  | cons b r ih =>
    intro zs nd hin
    have h1 := ih nd fun x hx => hin x (List.mem_cons_of_mem _ hx)
    have h2 : ∀ l : List Str, l.Nodup → tot l (fun z => (((b :: r).count z : Nat) : Int)) = tot l (fun z => ((r.count z : Nat) : Int)) + (if b ∈ l then 1 else 0) := fun l => by
      induction l with
      | nil =>
        intro _
        rfl
      | cons a t iht =>
        intro hn
        obtain ⟨n1, n2⟩ := List.nodup_cons.mp hn
        show (((b :: r).count a : Nat) : Int) + tot t _ = ((r.count a : Nat) : Int) + tot t _ + _
        rw [iht n2, List.count_cons]
        by_cases e : b = a
        · subst e
          rw [if_neg n1, if_pos List.mem_cons_self, if_pos (by simp)]
          push_cast
          omega
        · rw [if_neg (by simpa using e)]
          have : (b ∈ a :: t) ↔ b ∈ t := ⟨fun h => (List.mem_cons.mp h).resolve_left e, List.mem_cons_of_mem _⟩
          simp only [this]
          omega
    rw [h2 zs nd, if_pos (hin b List.mem_cons_self), ← h1]
    show ((r.length + 1 : Nat) : Int) = _
    omega
theorem tot_congr {f g : Str → Int} : ∀ {zs : List Str}, (∀ z ∈ zs, f z = g z) → tot zs f = tot zs g
  | [], _ => rfl
  | a :: r, h => by
    show f a + tot r f = g a + tot r g
    rw [h a List.mem_cons_self, tot_congr fun z hz => h z (List.mem_cons_of_mem _ hz)]
theorem len_row {zs ws : List Str} {qs : List (Str × Str)} {g : Str → Int} {m : Nat} (hs : Sol zs ws qs g) (pm : ws.Perm zs) (nd : zs.Nodup) (top : ∀ x ∈ zs, g x ≤ (m : Int)) : (((rowOf ws g m).length : Nat) : Int) = tot zs g := by
  rw [len_counts nd fun b hb => pm.mem_iff.mp (rowOf_sub b hb)]
  exact tot_congr fun z hz => cnt_full hs pm nd hz top
/-! ### the sum of a dict's values -/
section
variable {X : Cx}
def tSumVals (td : TE) : TE := fun σ H Q => td σ H fun x H1 => ∃ (D : Addr) (zs : List Str) (h : Str → Int), x = .ref D ∧ DH H1 D zs h ∧ (∀ z ∈ zs, 0 ≤ h z ∧ h z ≤ 1000) ∧ zs.length ≤ 1000 ∧ Q (.int (tot zs h)) H1
theorem pre_tot {h : Str → Int} : ∀ (zs : List Str) (n : Nat), n ≤ zs.length → preSum (fun i => h (zs.getD i "")) n = tot (zs.take n) h
  | zs, 0, _ => rfl
  | zs, n + 1, hn => by
    have ih := pre_tot (h := h) zs n (by omega)
    have e : zs[n]? = some zs[n] := List.getElem?_eq_getElem (by omega)
    show preSum (fun i => h (zs.getD i "")) n + h (zs.getD n "") = _
    rw [ih, List.take_add_one, e, List.getD_eq_getElem?_getD, e]
    unfold tot
    rw [List.map_append, List.sum_append]
    simp
theorem tot_in {h : Str → Int} : ∀ {zs : List Str}, (∀ z ∈ zs, 0 ≤ h z ∧ h z ≤ 1000) → 0 ≤ tot zs h ∧ tot zs h ≤ 1000 * zs.length
  | [], _ => ⟨Int.le_refl _, Int.le_refl _⟩
  | a :: r, hb => by
    have h1 := hb a List.mem_cons_self
    have h2 := tot_in fun z hz => hb z (List.mem_cons_of_mem _ hz)
    show 0 ≤ h a + tot r h ∧ h a + tot r h ≤ 1000 * ((r.length + 1 : Nat) : Int)
    omega
theorem pe_sumVals {o : Expr} {p pos apos mpos : Pos} {td : TE} (calm : X.calm = true) (gl : Gl X "sum") (mm : X.mg "sum" = none) (ho : PE X o td) (plainO : attributeBase o "values" X.env (eval o X.env) = eval o X.env := by rfl) (row1 : (apos.endLine == mpos.line) = true := by rfl)
    (one : starEach [Expr.Call (.Attribute o "values" apos) [] [] mpos] X.env = [(false, eval (Expr.Call (.Attribute o "values" apos) [] [] mpos) X.env)] := by rfl) :
    PE X (.Call (.Name "sum" p) [.Call (.Attribute o "values" apos) [] [] mpos] [] pos) (tSumVals td) := by
  refine ⟨fun pn st σ H Q I0 want => wpAny_Call_Name_kw (ld_blt I0 gl mm (u := .builtin "sum") (by first | rfl | decide +kernel) ?_ (by first | decide +kernel | decide) (by first | decide +kernel | decide))⟩
  rw [one]
  refine PySem.callWith_builtin1 (wpAny_Call_method0_late plainO row1 (thn (ho.run pn st σ H _ I0 want) ?_))
  rintro val t1 ⟨y, G, I1, rel1, D, zs, h, rfl, hD, hin, hzl, q⟩
  cases rel1
  obtain ⟨_, nsys, vs, rel, dof⟩ := dk_of I1.hok hD
  obtain ⟨ep, dat⟩ := dof.dictAt
  obtain ⟨ob, es, hob, exact_, _, _, _, _⟩ := id dat
  refine ⟨"dict", "dict.values", F.plainAttrs_dict, F.slot_dict_values, F.type_dict_values, ⟨ob, hob, exact_.1⟩, fun b e => by cases e; exact ⟨ob, hob, exact_.2.1⟩, Calls.callWith_builtin rfl (PySem.evalArgs_none ?_)⟩
  refine call_meetsIn F.slot_dict_values ⟨ob, hob, exact_.1⟩ F.entry_dict_values (F.args_dict_values_1 _) (meets_dict_values (mixKind X.prog X.w) D nsys) ⟨⟨vs, dof⟩, ?_⟩
  let view : Obj := { cls := .type "dict_values", data := .fields #[.ref D] }
  have up1 : ∀ b u, t1.heap.get? b = some u → (t1.heap.push view).get? b = some u := fun b u e => Heap.get?_push_of_some _ e
  have datV : (t1.heap.push view).DictAt (mixKind X.prog X.w) D vs ep := dat.keep up1
  have many : vs.length = zs.length := (KV.length rel).symm.trans (dkv_len zs h)
  have each : ∀ (i : Nat) (v : Value), (∃ k, vs[i]? = some (k, v)) → ∃ t, v = Value.int (h (zs.getD i "")) t := by
    rintro i v ⟨k, hk⟩
    obtain ⟨x, g1, g2⟩ := KV.at' rel hk
    rw [List.getElem?_map] at g1
    obtain ⟨z, hz, e⟩ := Option.map_eq_some_iff.mp g1
    have ex : x = V.int (h z) := (congrArg Prod.snd e).symm
    subst ex
    obtain ⟨t, et⟩ := g2
    exact ⟨t, by rw [et, List.getD_eq_getElem?_getD, hz]; rfl⟩
  have older : D < t1.heap.objs.size := Heap.lt_size hob
  have size1 : (t1.heap.push view).objs.size = t1.heap.objs.size + 1 := Heap.size_push _ _
  refine call_sum_walk (wpAny_pyIter_values (v := t1.heap.objs.size) (d := D) ⟨_, Heap.get?_push_size _ rfl, rfl, rfl⟩ datV ?_)
  refine ⟨_, _, _, _, _, _, (fun i => h (zs.getD i "")), rfl, Walks.dictValues (knd := mixKind X.prog X.w) (A := X.A.in1) (I0.ok.hd calm) (t1.heap.push view).objs.size D (by rw [size1]; exact Nat.ne_of_lt (Nat.lt_succ_of_lt older)) vs ep, ⟨⟨_, Heap.get?_push_size _ rfl, rfl, rfl⟩, datV.keep fun b u e => Heap.get?_push_of_some _ e⟩, ?_, each, ?_, ?_⟩
  · intro b hb
    show b < ((t1.heap.push view).push _).objs.size
    rw [Heap.size_push, size1]
    rcases List.mem_cons.mp hb with e | hb
    · rw [e, size1]
      exact Nat.lt_succ_self _
    · rw [List.mem_singleton.mp hb]
      exact Nat.lt_succ_of_lt (Nat.lt_succ_of_lt older)
  · intro j hj
    rw [many] at hj
    have hjz : zs.getD j "" ∈ zs := by
      rw [List.getD_eq_getElem?_getD, List.getElem?_eq_getElem hj]
      exact List.getElem_mem hj
    have b1 := hin _ hjz
    have b2 := tot_in (zs := zs.take (j + 1)) fun z hz => hin z (List.mem_of_mem_take hz)
    rw [pre_tot zs (j + 1) (by omega)]
    have b3 : (zs.take (j + 1)).length ≤ 1000 := by
      rw [List.length_take]
      omega
    refine ⟨?_, ?_⟩
    · show -(2 ^ 63) ≤ h (zs.getD j "") ∧ h (zs.getD j "") < 2 ^ 63
      omega
    · unfold InLong
      omega
  · intro h' tk t' keeps
    rw [many, pre_tot zs zs.length (Nat.le_refl _), List.take_length]
    refine ⟨.int _, G, I1.kept (t' := tk) fun b u e => keeps b u (fun hm => ?_) (Heap.get?_push_of_some _ (up1 b u e)), ⟨t', rfl⟩, q⟩
    have e1 : b = (t1.heap.push view).objs.size := List.mem_singleton.mp hm
    have e2 := Heap.lt_size e
    rw [e1, size1] at e2
    exact absurd e2 (Nat.not_lt.mpr (Nat.le_succ _))
end
end HF
namespace HF
open PySem PySem.Spec PyProof.Rows L2
/-- what between tells: the word, the list -/
def Tol (zs ws : List Str) (qs : List (Str × Str)) (wd : Str) (ls : List Str) : Prop := ls.length ≤ 144 ∧ (∀ x ∈ ls, x ∈ zs) ∧
  ((wd = "row" ∧ ∃ p g m, Pot zs ws qs p ∧ Lst zs ws qs g ∧ Gr zs g m ∧ ls = rowOf ws g m) ∨ (wd = "ring" ∧ Rng qs zs ls ∧ T zs ls < T ws ls ∧ RingIs zs ws qs ls))
def Told (H : Hp) (t : Addr) (zs ws : List Str) (qs : List (Str × Str)) (wd : Str) (l : Addr) (ls : List Str) : Prop := H t = some (.tup [.str wd, .ref l]) ∧ H l = some (.lst (ls.map V.str)) ∧ Tol zs ws qs wd ls
theorem Told.same {H H' : Hp} {t : Addr} {zs ws : List Str} {qs : List (Str × Str)} {wd : Str} {l : Addr} {ls : List Str} (h : Told H t zs ws qs wd l ls) (s : Same H H') : Told H' t zs ws qs wd l ls := ⟨s _ _ h.1, s _ _ h.2.1, h.2.2⟩
theorem Gr.one {zs : List Str} {g : Str → Int} {m n : Nat} (a : Gr zs g m) (b : Gr zs g n) : m = n := by
  obtain ⟨⟨z, hz, e⟩, t⟩ := a
  obtain ⟨⟨y, hy, f⟩, u⟩ := b
  have h1 := t y hy
  have h2 := u z hz
  omega
theorem Tol.one {zs ws : List Str} {qs : List (Str × Str)} {wd wd' : Str} {ls ls' : List Str} (a : Tol zs ws qs wd ls) (b : Tol zs ws qs wd' ls') : wd = wd' ∧ ls = ls' := by
  obtain ⟨_, _, a⟩ := a
  obtain ⟨_, _, b⟩ := b
  rcases a with ⟨rfl, p, g, m, a1, a2, a3, rfl⟩ | ⟨rfl, a1, a2, a3⟩
  · rcases b with ⟨rfl, p', g', m', b1, b2, b3, rfl⟩ | ⟨rfl, b1, b2, b3⟩
    · have e := a2.one b2
      subst e
      rw [a3.one b3]
      exact ⟨rfl, rfl⟩
    · exact absurd b2 (Nat.not_lt.mpr (a1.rings b1))
  · rcases b with ⟨rfl, p', g', m', b1, b2, b3, rfl⟩ | ⟨rfl, b1, b2, b3⟩
    · exact absurd a2 (Nat.not_lt.mpr (b1.rings a1))
    · exact ⟨rfl, a3.one b3⟩
theorem betw_told {K : PySem.W.Frag} {H : Hp} {h o r : Addr} {zs ws : List Str} {qs : List (Str × Str)} {Q : VK} {E : XK} (tw : Two K H h o r zs ws qs) (hz : zs.length ≤ 12) (k : ∀ (H' : Hp) (t l : Addr) (wd : Str) (ls : List Str), Same H H' → H t = none → H l = none → Told H' t zs ws qs wd l ls → Q (.ref t) H') : spBetw K [.ref h, .ref o, .ref r] H Q E := by
  refine ⟨h, o, r, zs, ws, qs, rfl, tw, fun H' t l p g m s nt nl ht hl hp hL hm => k H' t l "row" _ s nt nl ⟨ht, hl, ?_, fun x hx => tw.pm.mem_iff.mp (rowOf_sub x hx), .inl ⟨rfl, p, g, m, hp, hL, hm, rfl⟩⟩, fun H' t l ls s nt nl ht hl hr1 hr2 hr3 => k H' t l "ring" _ s nt nl ⟨ht, hl, ?_, hr1.sub, .inr ⟨rfl, hr1, hr2, hr3⟩⟩⟩
  · have h1 := rowOf_len ws g m
    obtain ⟨z0, hz0, e0⟩ := hm.1
    have h2 := hL.few hp z0 hz0
    have h3 : m ≤ 12 := by omega
    have h4 : ws.length ≤ 12 := by
      rw [tw.pm.length_eq]
      exact hz
    exact Nat.le_trans h1 (Nat.le_trans (Nat.mul_le_mul h3 h4) (by decide))
  · have := len_sub hr1.nd (fun z hz2 => hr1.sub z hz2)
    omega
theorem row_ring : (("row" : Str) = "ring") = False := by
  have : ¬ (("row" : Str) = "ring") := by decide +kernel
  simp [this]
theorem leads_told {K : PySem.W.Frag} {H : Hp} {h o r : Addr} {zs ws : List Str} {qs : List (Str × Str)} {Q : VK} {E : XK} {wd : Str} {ls : List Str} (tw : Two K H h o r zs ws qs) (a : Tol zs ws qs wd ls) (k : ∀ H' : Hp, Same H H' → Q (.bl (decide (wd = "row"))) H') : spLeads K [.ref h, .ref o, .ref r] H Q E := by
  refine ⟨h, o, r, zs, ws, qs, rfl, tw, fun H' p s hp => ?_, fun H' l2 s hr1 hr2 => ?_⟩
  · obtain ⟨_, _, a⟩ := a
    rcases a with ⟨rfl, _⟩ | ⟨rfl, a1, a2, _⟩
    · have := k H' s
      rw [decide_eq_true rfl] at this
      exact this
    · exact absurd a2 (Nat.not_lt.mpr (hp.rings a1))
  · obtain ⟨_, _, a⟩ := a
    rcases a with ⟨rfl, p, _, _, hp, _⟩ | ⟨rfl, _⟩
    · exact absurd hr2 (Nat.not_lt.mpr (hp.rings hr1))
    · have := k H' s
      rw [decide_eq_false (by decide +kernel)] at this
      exact this
theorem wd_ok {zs ws : List Str} {qs : List (Str × Str)} {wd : Str} {ls : List Str} (a : Tol zs ws qs wd ls) : PyData.strOk wd = true := by
  obtain ⟨_, _, a⟩ := a
  rcases a with ⟨rfl, _⟩ | ⟨rfl, _⟩ <;> decide +kernel
end HF
namespace HF
open PySem PySem.Spec PyProof.Rows L2
theorem tg_lstW {A : Addr → Prop} {H : Hp} {a : Addr} {zs : List Str} (h : H a = some (.lst (zs.map V.str))) (n : ¬ A a) (hn : ∀ z ∈ zs, Sg z ∧ z.cps.size ≤ 6) (hl : zs.length ≤ 800) : Tg A H (.ref a, .list (zs.map PyData.str)) := by
  refine ⟨Dq.lstS n h, (Gd.list (m := 0) (w := 800) (fun d hd => ?_) (by rw [List.length_map]; exact hl)).mono (by decide) (by decide), ?_⟩
  · obtain ⟨z, hz, rfl⟩ := List.mem_map.mp hd
    exact gd_str (hn z hz).1
  · have := weight_strs2 (n := 6) fun z hz => (hn z hz).2
    show PyData.weightAll (zs.map PyData.str) ≤ 100000
    omega
theorem tg_tupW {A : Addr → Prop} {H : Hp} {a : Addr} {zs : List Str} (h : TsA H a (zs.map V.str)) (n : ¬ A a) (hn : ∀ z ∈ zs, Sg z ∧ z.cps.size ≤ 6) (hl : zs.length ≤ 800) : Tg A H (.ref a, .tuple (zs.map PyData.str)) := by
  refine ⟨Dq.tupS n h, (Gd.tuple (m := 0) (w := 800) (fun d hd => ?_) (by rw [List.length_map]; exact hl)).mono (by decide) (by decide), ?_⟩
  · obtain ⟨z, hz, rfl⟩ := List.mem_map.mp hd
    exact gd_str (hn z hz).1
  · have := weight_strs2 (n := 6) fun z hz => (hn z hz).2
    show PyData.weightAll (zs.map PyData.str) ≤ 100000
    omega
/-- a list of one such list -/
theorem tg_one {A : Addr → Prop} {H : Hp} {a b : Addr} {zs : List Str} (h : H a = some (.lst [.ref b])) (n : ¬ A a) (t : Tg A H (.ref b, .list (zs.map PyData.str))) (hn : ∀ z ∈ zs, Sg z ∧ z.cps.size ≤ 6) (hl : zs.length ≤ 800) : Tg A H (.ref a, .list [.list (zs.map PyData.str)]) := by
  have g1 : Gd 1 800 (.list (zs.map PyData.str)) := Gd.list (m := 0) (w := 800) (fun d hd => by
    obtain ⟨z, hz, rfl⟩ := List.mem_map.mp hd
    exact gd_str (hn z hz).1) (by rw [List.length_map]; exact hl)
  have w1 : PyData.weightAll (zs.map PyData.str) ≤ 7 * zs.length := weight_strs2 (n := 6) fun z hz => (hn z hz).2
  refine ⟨.lst (zs := [(.ref b, .list (zs.map PyData.str))]) n h (fun z hz => by rw [List.mem_singleton.mp hz]; exact t.dq), (Gd.list (m := 1) (w := 800) (ds := [.list (zs.map PyData.str)]) (fun d hd => by rw [List.mem_singleton.mp hd]; exact g1) (show 1 ≤ 800 by decide)).mono (by decide) (by decide), ?_⟩
  show PyData.weightAll (zs.map PyData.str) + 1 + 0 ≤ 100000
  omega
structure Thg (p S : Addr) (H : Hp) (ws : List (V × PyData)) : Prop where
  lst : H S = some (.lst (ws.map Prod.fst))
  ne : S ≠ p
  all : ∀ z ∈ ws, Tg (fun b => b = p) H z
theorem Thg.same {p S : Addr} {H H' : Hp} {ws : List (V × PyData)} (h : Thg p S H ws) (s : Same H H') : Thg p S H' ws := ⟨s _ _ h.lst, h.ne, fun z hz => (h.all z hz).same s⟩
theorem Thg.oth {p S : Addr} {H H' : Hp} {ws : List (V × PyData)} (h : Thg p S H ws) (o : Oth p H H') : Thg p S H' ws := ⟨o _ _ h.lst h.ne, h.ne, fun z hz => (h.all z hz).oth (OthA.box o rfl)⟩
end HF
/-! what can be gone back -/
namespace HF
open PySem PySem.Spec PyProof.Rows L2
theorem ld_iff {zs ws : List Str} {qs : List (Str × Str)} (nd : zs.Nodup) (cl : ∀ q ∈ qs, q.2 ∈ zs ∧ q.1 ≠ q.2 ∧ q.1 ∈ zs) : ld zs ws qs = true ↔ ∀ ls, Rng qs zs ls → T ws ls ≤ T zs ls := by
  rcases dich (ws := ws) nd cl with ⟨p, hp⟩ | ⟨ls, h1, h2⟩
  · exact ⟨fun _ ls h => hp.rings h, fun _ => ld_pot hp⟩
  · refine ⟨fun h => ?_, fun h => absurd h2 (Nat.not_lt.mpr (h ls h1))⟩
    rw [ld_ring h1 h2] at h
    exact nomatch h
theorem ld_not {zs ws : List Str} {qs : List (Str × Str)} (nd : zs.Nodup) (cl : ∀ q ∈ qs, q.2 ∈ zs ∧ q.1 ≠ q.2 ∧ q.1 ∈ zs) : ld zs ws qs = false ↔ ∃ ls, Rng qs zs ls ∧ T zs ls < T ws ls := by
  rcases dich (ws := ws) nd cl with ⟨p, hp⟩ | ⟨ls, h1, h2⟩
  · refine ⟨fun h => ?_, fun ⟨ls, h1, h2⟩ => ld_ring h1 h2⟩
    rw [ld_pot hp] at h
    exact nomatch h
  · exact ⟨fun _ => ⟨ls, h1, h2⟩, fun _ => ld_ring h1 h2⟩
theorem cl_perm {zs ws : List Str} {qs : List (Str × Str)} (pm : ws.Perm zs) (cl : ∀ q ∈ qs, q.2 ∈ zs ∧ q.1 ≠ q.2 ∧ q.1 ∈ zs) : ∀ q ∈ qs, q.2 ∈ ws ∧ q.1 ≠ q.2 ∧ q.1 ∈ ws := fun q hq => ⟨pm.mem_iff.mpr (cl q hq).1, (cl q hq).2.1, pm.mem_iff.mpr (cl q hq).2.2⟩
/-- heaps of the same books -/
structure Hps (K : PySem.W.Frag) (H : Hp) (h r : Addr) (zs : List Str) (qs : List (Str × Str)) : Prop where
  hz : Hq K H h zs
  ti : PqA K H r qs
  nd : zs.Nodup
  ne : zs ≠ []
  few : zs.length ≤ 100
  qf : qs.length ≤ 400
  cl : ∀ q ∈ qs, q.2 ∈ zs ∧ q.1 ≠ q.2 ∧ q.1 ∈ zs
  nm : ∀ z ∈ zs, Nm z
theorem Hps.same {K : PySem.W.Frag} {H H' : Hp} {h r : Addr} {zs : List Str} {qs : List (Str × Str)} (t : Hps K H h r zs qs) (s : Same H H') : Hps K H' h r zs qs := { t with hz := t.hz.same s, ti := t.ti.same s }
/-- the same books, in another order -/
theorem Hps.perm {K : PySem.W.Frag} {H : Hp} {h o r : Addr} {zs ws : List Str} {qs : List (Str × Str)} (t : Hps K H h r zs qs) (hw : Hq K H o ws) (pm : ws.Perm zs) : Hps K H o r ws qs :=
  ⟨hw, t.ti, pm.nodup_iff.mpr t.nd, fun e => t.ne (List.nil_perm.mp (e ▸ pm)), by rw [pm.length_eq]; exact t.few, t.qf, cl_perm pm t.cl, fun z hz => t.nm z (pm.mem_iff.mp hz)⟩
theorem Hps.two {K : PySem.W.Frag} {H : Hp} {h o r : Addr} {zs ws : List Str} {qs : List (Str × Str)} (t : Hps K H h r zs qs) (hw : Hq K H o ws) (pm : ws.Perm zs) : Two K H h o r zs ws qs := ⟨t.hz, hw, t.ti.pz, pm, t.nd, t.ne, t.few, t.qf, t.cl, t.nm⟩
def spCgb (K : PySem.W.Frag) : Sp := fun vs H Q _ => ∃ (h r : Addr) (b : Str) (zs : List Str) (qs : List (Str × Str)), vs = [.ref h, .ref r, .str b] ∧ Hps K H h r zs qs ∧ b ∈ zs ∧ lets qs zs b = true ∧ ∀ H' : Hp, Same H H' → Q (.bl (ld (onTop b zs) zs qs)) H'
def spFl (K : PySem.W.Frag) : Sp := fun vs H Q _ => ∃ (h r a : Addr) (zs row : List Str) (qs : List (Str × Str)), vs = [.ref h, .ref r, .ref a] ∧ Tp H h (zs.map V.str) ∧ Hps K H h r zs qs ∧ SqL K H a (row.map V.str) ∧ (∀ b ∈ row, b ∈ zs) ∧ refAt qs zs row = none ∧
  ∀ (H' : Hp) (v : V), Same H H' → ((v = .non ∧ ld (lefts zs row) zs qs = true) ∨ (∃ i : Nat, v = .int (i : Nat)) ∧ ld (lefts zs row) zs qs = false) → Q v H'
/-- a step of a row that's let lowers no ring -/
theorem T_take {qs : List (Str × Str)} {ls row zs : List Str} {i : Nat} {b : Str} (h : Rng qs zs ls) (nd : zs.Nodup) (hin : ∀ b ∈ row, b ∈ zs) (hr : refAt qs zs row = none) (hb : row[i]? = some b) : T (lefts zs (row.take (i + 1))) ls ≤ T (lefts zs (row.take i)) ls := by
  have pm := lefts_perm (row := row.take i) nd fun z hz => hin z (List.mem_of_mem_take hz)
  rw [lefts_snoc hb]
  exact T_step (h.perm pm) (pm.nodup_iff.mpr nd) (pm.mem_iff.mpr (hin b (List.mem_of_getElem? hb))) (refAt_at hb hr)
theorem T_end {qs : List (Str × Str)} {ls row zs : List Str} (h : Rng qs zs ls) (nd : zs.Nodup) (hin : ∀ b ∈ row, b ∈ zs) (hr : refAt qs zs row = none) (i : Nat) : T (lefts zs row) ls ≤ T (lefts zs (row.take i)) ls := by
  have go : ∀ k, T (lefts zs (row.take (i + k))) ls ≤ T (lefts zs (row.take i)) ls := fun k => by
    induction k with
    | zero => exact Nat.le_refl _
    | succ k ih =>
      by_cases hk : i + k < row.length
      · exact Nat.le_trans (T_take (i := i + k) h nd hin hr (List.getElem?_eq_getElem hk)) ih
      · rw [List.take_of_length_le (by omega)] at ih ⊢
        exact ih
  have := go row.length
  rw [List.take_of_length_le (by omega)] at this
  exact this
theorem refAt_take {qs : List (Str × Str)} {zs row : List Str} {i : Nat} (h : refAt qs zs row = none) : refAt qs zs (row.take i) = none := by
  have e := refAt_app qs (row.take i) zs (row.drop i)
  rw [List.take_append_drop, h] at e
  cases hx : refAt qs zs (row.take i) with
  | none => rfl
  | some k =>
    rw [hx] at e
    exact nomatch e
/-- a row that is let and leads there -/
structure RowTo (qs : List (Str × Str)) (zs ws row : List Str) : Prop where
  sub : ∀ b ∈ row, b ∈ zs
  lt : refAt qs zs row = none
  left : lefts zs row = ws
theorem RowTo.app {qs : List (Str × Str)} {zs ys ws a b : List Str} (h1 : RowTo qs zs ys a) (h2 : RowTo qs ys ws b) (nd : zs.Nodup) : RowTo qs zs ws (a ++ b) := by
  have pm := lefts_perm nd h1.sub
  rw [h1.left] at pm
  refine ⟨fun z hz => ?_, ?_, ?_⟩
  · rcases List.mem_append.mp hz with hz | hz
    · exact h1.sub z hz
    · exact pm.mem_iff.mp (h2.sub z hz)
  · rw [refAt_app, h1.lt, h1.left, h2.lt]
    rfl
  · rw [← h2.left, ← h1.left]
    exact List.foldl_append ..
theorem RowTo.perm {qs : List (Str × Str)} {zs ws row : List Str} (h : RowTo qs zs ws row) (nd : zs.Nodup) : ws.Perm zs := h.left ▸ lefts_perm nd h.sub
theorem RowTo.ld {qs : List (Str × Str)} {zs ws row : List Str} (h : RowTo qs zs ws row) (nd : zs.Nodup) (cl : ∀ q ∈ qs, q.2 ∈ zs ∧ q.1 ≠ q.2 ∧ q.1 ∈ zs) : ld zs ws qs = true :=
  (ld_iff nd cl).mpr fun ls hR => by
    rw [← h.left]
    exact T_row hR nd h.sub h.lt
theorem betw_to {K : PySem.W.Frag} {H : Hp} {h o r : Addr} {zs ws : List Str} {qs : List (Str × Str)} {Q : VK} {E : XK} (tw : Two K H h o r zs ws qs) (hz12 : zs.length ≤ 12)
    (k1 : ∀ (H' : Hp) (t l : Addr) (row : List Str), Same H H' → H t = none → H l = none → H' t = some (.tup [.str "row", .ref l]) → H' l = some (.lst (row.map V.str)) → RowTo qs zs ws row → row.length ≤ 144 → Q (.ref t) H')
    (k2 : ∀ (H' : Hp) (t l : Addr) (ls : List Str), Same H H' → H t = none → H l = none → H' t = some (.tup [.str "ring", .ref l]) → H' l = some (.lst (ls.map V.str)) → Rng qs zs ls → T zs ls < T ws ls → Q (.ref t) H') : spBetw K [.ref h, .ref o, .ref r] H Q E := by
  refine ⟨h, o, r, zs, ws, qs, rfl, tw, fun H' t l p g m s nt nl ht hl hp hL hm => ?_, fun H' t l ls s nt nl ht hl h1 h2 _ => k2 H' t l ls s nt nl ht hl h1 h2⟩
  refine k1 H' t l _ s nt nl ht hl ⟨fun z hz => tw.pm.mem_iff.mp (rowOf_sub z hz), rowOf_let hL.sol tw.pm tw.nd tw.cl hm.2, rowOf_left hL.sol tw.pm tw.nd hm.2⟩ ?_
  have h1 := rowOf_len ws g m
  obtain ⟨z0, hz0, e0⟩ := hm.1
  have h2 := hL.few hp z0 hz0
  have h3 : m ≤ 12 := by omega
  have h4 : ws.length ≤ 12 := by
    rw [tw.pm.length_eq]
    exact hz12
  exact Nat.le_trans h1 (Nat.le_trans (Nat.mul_le_mul h3 h4) (by decide))
theorem dq_strs {H : Hp} {l : Addr} {ls : List Str} (h : H l = some (.lst (ls.map V.str))) : Dq (fun _ => False) H (.ref l) (.list (ls.map PyData.str)) := by
  have e1 : ls.map PyData.str = (ls.map fun z => (V.str z, PyData.str z)).map Prod.snd := by
    rw [List.map_map]
    rfl
  have e2 : ls.map V.str = (ls.map fun z => (V.str z, PyData.str z)).map Prod.fst := by
    rw [List.map_map]
    rfl
  rw [e1]
  refine .lst (fun z => z) (by rw [h, e2]) fun z hz => ?_
  obtain ⟨w0, _, rfl⟩ := List.mem_map.mp hz
  exact .str _
theorem RowTo.is {qs : List (Str × Str)} {zs ws row : List Str} (h : RowTo qs zs ws row) : isRowB zs ws qs (.list (row.map PyData.str)) = true := by
  have hstr : (row.map PyData.str).map strD = row := by
    rw [List.map_map]
    exact List.map_id _
  show ((row.map PyData.str).all (inD zs) && (decide (refAt qs zs ((row.map PyData.str).map strD) = none) && decide (lefts zs ((row.map PyData.str).map strD) = ws))) = true
  rw [hstr, h.lt, h.left, decide_eq_true rfl, decide_eq_true rfl, List.all_map, show row.all (inD zs ∘ PyData.str) = true from List.all_eq_true.mpr fun z hz => decide_eq_true (h.sub z hz)]
  rfl
theorem Hps.cmp {K : PySem.W.Frag} {H : Hp} {h o r : Addr} {zs ws : List Str} {qs : List (Str × Str)} (t : Hps K H h r zs qs) (hw : Hq K H o ws) (pm : ws.Perm zs) : Cmp K H h o r zs ws qs := ⟨t.hz, hw, t.ti, pm, t.nd, t.ne, t.few, t.qf, t.cl, t.nm⟩
/-- rows in a list -/
structure RwAt (qs : List (Str × Str)) (zs ws : List Str) (H : Hp) (F : Addr) (as : List Addr) (rs : List (List Str)) : Prop where
  top : H F = some (.lst (as.map V.ref))
  len : as.length = rs.length
  at' : ∀ (i : Nat) (a : Addr) (ls : List Str), as[i]? = some a → rs[i]? = some ls → H a = some (.lst (ls.map V.str))
  rw : ∀ ls ∈ rs, RowTo qs zs ws ls ∧ ls.length ≤ 400
theorem RwAt.same {qs : List (Str × Str)} {zs ws : List Str} {H H' : Hp} {F : Addr} {as : List Addr} {rs : List (List Str)} (h : RwAt qs zs ws H F as rs) (sm : Same H H') : RwAt qs zs ws H' F as rs :=
  ⟨sm _ _ h.top, h.len, fun i a ls h1 h2 => sm _ _ (h.at' i a ls h1 h2), h.rw⟩
theorem RwAt.get {qs : List (Str × Str)} {zs ws : List Str} {H : Hp} {F : Addr} {as : List Addr} {rs : List (List Str)} (h : RwAt qs zs ws H F as rs) {i : Nat} {a : Addr} (ha : as[i]? = some a) : ∃ ls, H a = some (.lst (ls.map V.str)) ∧ RowTo qs zs ws ls ∧ ls.length ≤ 400 := by
  have hi : i < rs.length := by
    rw [← h.len]
    exact (List.getElem?_eq_some_iff.mp ha).1
  have hr : rs[i]? = some rs[i] := List.getElem?_eq_getElem hi
  exact ⟨_, h.at' i a _ ha hr, h.rw _ (List.mem_of_getElem? hr)⟩
theorem betw_any {K : PySem.W.Frag} {H : Hp} {h o r : Addr} {zs ws : List Str} {qs : List (Str × Str)} {Q : VK} {E : XK} (tw : Two K H h o r zs ws qs) (hz12 : zs.length ≤ 12)
    (k : ∀ (H' : Hp) (t l : Addr) (wd : Str) (ls : List Str), Same H H' → H t = none → H l = none → H' t = some (.tup [.str wd, .ref l]) → H' l = some (.lst (ls.map V.str)) → ls.length ≤ 144 → ((wd = "row" ∧ RowTo qs zs ws ls) ∨ (wd = "ring" ∧ Rng qs zs ls ∧ T zs ls < T ws ls)) → Q (.ref t) H') : spBetw K [.ref h, .ref o, .ref r] H Q E :=
  betw_to tw hz12 (fun H' t l row s nt nl ht hl hr hrl => k H' t l _ row s nt nl ht hl hrl (.inl ⟨rfl, hr⟩)) (fun H' t l ls s nt nl ht hl h1 h2 => k H' t l _ ls s nt nl ht hl (by
    have := len_sub h1.nd (fun z hz => h1.sub z hz)
    omega) (.inr ⟨rfl, h1, h2⟩))
theorem word_eqB {x y : Str} : decide (V.str x = V.str y) = decide (x = y) := by
  by_cases h : x = y
  · rw [h, decide_eq_true rfl, decide_eq_true rfl]
  · rw [decide_eq_false h, decide_eq_false (fun e => h (by injection e))]
theorem int_neF {x y : Int} (h : x = y) : (!decide (V.int x = V.int y)) = false := by
  rw [h, decide_eq_true rfl]
  rfl
end HF
/-! sorted(d.items()), sorted lists of pairs of a text and a number -/
namespace HF
open PySem PySem.Spec PyProof.Rows L2
abbrev IL := List (Addr × (Str × Int))
abbrev encI (p : Addr × (Str × Int)) : PyData := .tuple [.str p.2.1, .int p.2.2]
theorem alike_I (L : IL) : PySem.W.AllAlike (L.map encI) := fun x hx y hy => by
  obtain ⟨a, _, rfl⟩ := List.mem_map.mp hx
  obtain ⟨b, _, rfl⟩ := List.mem_map.mp hy
  rfl
theorem sortable_I (L : IL) : PySem.W.Sortable (L.map encI) := .inl fun x hx => by
  obtain ⟨a, _, rfl⟩ := List.mem_map.mp hx
  exact ⟨_, _, rfl⟩
theorem le_I {p q : Addr × (Str × Int)} (h : PySem.W.dataLe false encI p q = true) : p.2.1.cps.toList ≤ q.2.1.cps.toList := by
  have h1 : (!PySem.W.dataLt (encI q) (encI p)) = true := h
  have key : (!PySem.W.dataLt (.str q.2.1) (.str p.2.1)) = true → p.2.1.cps.toList ≤ q.2.1.cps.toList := fun z => by
    rw [PySem.W.dataLt_str, PySem.W.not_lt_str] at z
    exact of_decide_eq_true z
  refine key ?_
  rw [PySem.W.dataLt_pair (by rfl) (by rfl)] at h1
  by_cases e : PyData.eqv (.str q.2.1) (.str p.2.1) = true
  · have e2 : q.2.1 = p.2.1 := by
      have : (q.2.1 == p.2.1) = true := e
      exact eq_of_beq this
    rw [e2, PySem.W.dataLt_str]
    simp [List.lt_irrefl]
  · rw [if_neg e] at h1
    exact h1
theorem each_I : ∀ (L : IL), PySem.W.EachIs (fun v (p : Addr × (Str × Int)) => v = Value.ref p.1) (L.map fun p => Value.ref p.1) L
  | [] => .nil
  | p :: r => .cons rfl (each_I r)
theorem eachI_out : ∀ {out : List Value} {L : IL}, PySem.W.EachIs (fun v (p : Addr × (Str × Int)) => v = Value.ref p.1) out L → out = L.map fun p => Value.ref p.1
  | _, _, .nil => rfl
  | _, _, .cons h t => by rw [h, eachI_out t]; rfl
def rfI (L : IL) : List V := L.map fun p => V.ref p.1
theorem valsI : ∀ (L : IL), Vals (rfI L) (L.map fun p => Value.ref p.1)
  | [] => .nil
  | p :: ks => .cons rfl (valsI ks)
theorem refsI : ∀ {L : IL} {us : List Value}, Vals (rfI L) us → us = L.map fun p => Value.ref p.1
  | [], _, .nil => rfl
  | p :: ks, _, .cons r t => by
    cases r
    rw [refsI t]
    rfl
def AtI (H : Hp) (L : IL) : Prop := ∀ p ∈ L, H p.1 = some (.tup [.str p.2.1, .int p.2.2])
theorem AtI.same {H H' : Hp} {L : IL} (h : AtI H L) (s : Same H H') : AtI H' L := fun p hp => s _ _ (h p hp)
section
variable {X : Cx}
theorem eachI_reads {pins : List (Addr × Obj)} {σ : L2.St} {H : Hp} {s : Shared} (I : Inv X pins σ H s) : ∀ {L : IL}, AtI H L → PySem.W.EachIs (fun v p => ∃ as, Reads s.heap v (encI p) as) (L.map fun p => Value.ref p.1) L
  | [], _ => .nil
  | p :: r, h => .cons (Dp.reads I (encI p) (.ref p.1) (.ref p.1) (.tup (.inl (.inl (h p List.mem_cons_self))) (.cons (.str _) (.cons (.int _) .nil))) rfl) (eachI_reads I fun q hq => h q (List.mem_cons_of_mem _ hq))
/-- sorted(l), l a list of pairs of a text and a number -/
def rSortI2 (K : PySem.W.Frag) : List V → Hp → VK → Prop := fun us H Q => ∃ (l : Addr) (L : IL), us = [V.ref l] ∧ SqL K H l (rfI L) ∧ AtI H L ∧ L.length ≤ 1000 ∧
  ∀ (L' : IL) (p : Addr), L'.Perm L → (L'.map (·.2.1)).Pairwise (fun x y => x.cps.toList ≤ y.cps.toList) → H p = none → Q (.ref p) (upd H p (.lst (rfI L')))
theorem cr_sortI2 (hu : X.A.units + 64 < cLine) : CallR X (.builtin "sorted") (rSortI2 X.K) := by
  intro pins st σ H us ws Q I rel hyp
  obtain ⟨l, L, rfl, hl, hat, few, q⟩ := hyp
  rw [Vals.ref1 rel]
  obtain ⟨its, rv, pl, hz⟩ := I.list hl
  have e := refsI rv
  subst e
  refine PySem.W.sorted_data (enc := encI) (bs := L) pl.isList (each_I L) (eachI_reads I hat) (alike_I L) (sortable_I L) (by rw [sizeLine_eq]; omega) (fun b _ => by show X.A.units + 2 + 1 < cLine; omega) fun out hout eo => ?_
  obtain ⟨ep, he⟩ := PyProof.Rows.sortedAll_at st.heap (L.map fun p => Value.ref p.1) (List.toArray out)
  have pm := List.mergeSort_perm L (PySem.W.dataLe false encI)
  have hz2 : (rfI (L.mergeSort (PySem.W.dataLe false encI))).length ≤ sizeLine := by
    unfold rfI
    rw [List.length_map, pm.length_eq, sizeLine_eq]
    omega
  have hv : Vals (rfI (L.mergeSort (PySem.W.dataLe false encI))) out := by
    rw [eachI_out eo]
    exact valsI _
  refine ⟨.ref _, _, I.laid (t' := st.toks) (o := .lst (rfI (L.mergeSort (PySem.W.dataLe false encI)))) (fun _ _ => PyProof.Rows.sortedAll_old) (Nat.le_succ _) ⟨hz2, out, ep, hv, he⟩, rfl, q _ _ pm ?_ (I.hok.fresh (Nat.le_succ _))⟩
  exact List.pairwise_map.mpr ((PySem.W.sort_pairwise (PySem.W.sortLe_total (PyProof.Rows.listOrd PyProof.Rows.itemOrd) false fun b : Addr × (Str × Int) => PySem.W.keyToks (encI b)) L).imp fun h => le_I h)
theorem readsAll_nil {h : Heap} {a : Str} {b : Int} : ∀ {vs : List Value} {as : List Addr}, ReadsAll h vs [.str a, .int b] as → as = []
  | _, _, .cons r1 (.cons r3 .nil) => by
    cases r1
    cases r3
    rfl
theorem reads_nil {h : Heap} {v : Value} {a : Str} {b : Int} {as : List Addr} (r : Reads h v (.tuple [.str a, .int b]) as) : as = [] := by
  cases r with
  | tuple _ _ _ ra => exact readsAll_nil ra
/-- the tuples of a dict's items, laid -/
theorem items_laidT {pins : List (Addr × Obj)} {σ : L2.St} {H : Hp} {s : Shared} {h' : Heap} {tk : Nat} {kvs : List (Key × V)} {vs : List (Key × Value)} {as : List Addr} (I : Inv X pins σ H s) (kv : KV kvs vs)
    (hk : ∀ b o, s.heap.get? b = some o → h'.get? b = some o) (hl : as.length = vs.length) (hG : PySem.W.KdxG (mixKind X.prog X.w) vs s.heap.objs.size h' as) :
    ∃ H' : Hp, Same H H' ∧ (∀ t ∈ as, H t = none) ∧ Paired (fun (t : Addr) (q : Key × V) => H' t = some (.tup [kV q.1, q.2])) as kvs ∧ Inv X pins σ H' { s with heap := h', toks := tk } := by
  have lk : kvs.length = vs.length := Paired.length kv
  have nd : as.Nodup := List.Pairwise.imp (fun {a b} (h : a < b) => Nat.ne_of_lt h) hG.rise
  have new : ∀ t ∈ as, H t = none := fun t ht => I.hok.fresh (Nat.le_of_lt (hG.above t ht))
  have atP := LiI.putT_at as kvs H (by omega) nd
  have off : ∀ b, b ∉ as → LiI.putT H as kvs b = H b := fun b h1 => LiI.putT_off as kvs _ h1
  have low : ∀ b o, s.heap.get? b = some o → b ∉ as := fun b o e z => absurd (Heap.lt_size e) (Nat.not_lt.mpr (Nat.le_of_lt (hG.above b z)))
  have kp : ∀ b u, H b = some u → (LiI.putT H as kvs) b = some u := fun b u e => by
    rw [off b (fun z => by rw [new b z] at e; cases e)]
    exact e
  refine ⟨LiI.putT H as kvs, kp, new, atP, ?_⟩
  refine I.call' (ch := []) rfl ⟨fun b o q _ _ _ => hk b o q, fun b o q _ _ _ => ⟨o.slots, hk b o q⟩, fun b o q n _ => ?_, fun b o q _ => ⟨o, hk b o q⟩, fun b xs q => kp b _ q, fun b o u q => kp b _ q, fun b ps q => ⟨#[], by rw [kp b _ q]; simp⟩⟩ (fun b u q => ?_) I.bare fun b z => by simp at z
  · rw [off b (low b o q)]
    exact n
  · by_cases hb : b ∈ as
    · obtain ⟨j, pk, e1, e2, e3⟩ := LiI.paired_ix atP hb
      rw [e3] at q
      cases q
      obtain ⟨key, k, x, f1, f2, f3⟩ := hG.pairs j b e1
      obtain ⟨qv, g1, g2, g3⟩ := LiI.paired_get kv e2
      rw [f1] at g1
      cases g1
      have rk : RelV (kV pk.1) key := by
        rw [g2]
        exact relV_key (show keyIs k key = true from f2)
      exact ⟨by show 2 ≤ sizeLine; decide, [key, x], .cons rk (.cons g3 .nil), ⟨_, f3, rfl, _, rfl⟩⟩
    · rw [off b hb] at q
      exact (I.hok b u q).stay (fun d v _ y => hk d v y) (fun d y => kp d _ y) fun d xs y => kp d _ y
theorem paired_IL {H : Hp} {g : Str → Int} : ∀ {as : List Addr} {zs : List Str}, Paired (fun (t : Addr) (q : Key × V) => H t = some (.tup [kV q.1, q.2])) as (dkv zs g) → ∃ L : IL, as = L.map (·.1) ∧ L.map (·.2) = zs.map (fun x => (x, g x)) ∧ AtI H L
  | [], [], _ => ⟨[], rfl, rfl, fun p hp => nomatch hp⟩
  | a :: as, z :: zs, .cons h t => by
    obtain ⟨L, e1, e2, e3⟩ := paired_IL (as := as) (zs := zs) t
    refine ⟨(a, (z, g z)) :: L, by rw [e1]; rfl, by rw [List.map_cons, e2]; rfl, fun p hp => ?_⟩
    rcases List.mem_cons.mp hp with hp | hp
    · rw [hp]
      exact h
    · exact e3 p hp
theorem sorted_pairs {L L' : IL} {zs : List Str} {g : Str → Int} (e : L.map (·.2) = zs.map fun x => (x, g x)) (pm : L'.Perm L) (pw : (L'.map (·.2.1)).Pairwise fun x y => x.cps.toList ≤ y.cps.toList) : L'.map (·.2) = (srt zs).map fun x => (x, g x) := by
  have e1 : L.map (·.2.1) = zs := by
    have := congrArg (List.map Prod.fst) e
    rw [List.map_map, List.map_map] at this
    rw [show L.map (·.2.1) = L.map (Prod.fst ∘ fun x => x.2) from rfl, this]
    exact List.map_id _
  have e2 : L'.map (·.2.1) = srt zs := by
    refine rise_one ?_ pw (srt_rise _)
    exact ((pm.map (·.2.1)).trans (e1 ▸ List.Perm.refl _)).trans (srt_perm zs).symm
  have e3 : ∀ p ∈ L', p.2 = (p.2.1, g p.2.1) := fun p hp => by
    have : p.2 ∈ L.map (·.2) := List.mem_map_of_mem (pm.mem_iff.mp hp)
    rw [e] at this
    obtain ⟨x, _, h⟩ := List.mem_map.mp this
    rw [← h]
  rw [← e2, List.map_map]
  exact List.map_congr_left e3
def rSI : V → Hp → VK → Prop := fun x H Q => ∃ (d : Addr) (zs : List Str) (g : Str → Int), x = .ref d ∧ DH H d zs g ∧ zs.length ≤ 1000 ∧
  ∀ (H' : Hp) (p : Addr) (L : IL), Same H H' → H p = none → H' p = some (.lst (rfI L)) → AtI H' L → L.map (·.2) = (srt zs).map (fun x => (x, g x)) → Q (.ref p) H'
def tSI (te : TE) : TE := fun σ H Q => te σ H fun x H1 => rSI x H1 Q
/-- sorted(e.items()) -/
theorem pe_sortedItems {e : Expr} {te : TE} {p apos cpos pos : Pos} (hc : X.calm = true) (hu : X.A.units + 64 < cLine) (he : PE X e te) (hg : Gl X "sorted") (hm : X.mg "sorted" = none) (hbase : attributeBase e "items" X.env (eval e X.env) = eval e X.env := by rfl) (hline : (apos.endLine == cpos.line) = true := by rfl)
    (hs : starEach [.Call (.Attribute e "items" apos) [] [] cpos] X.env = (false, eval (.Call (.Attribute e "items" apos) [] [] cpos) X.env) :: starEach [] X.env := by rfl) :
    PE X (.Call (.Name "sorted" p) [.Call (.Attribute e "items" apos) [] [] cpos] [] pos) (tSI te) := by
  refine ⟨fun pins s σ H Q I hq => ?_⟩
  refine wpAny_Call_Name_kw (ld_blt I hg hm (show bootBuiltins "sorted" = some (.builtin "sorted") by decide +kernel) ?_)
  refine PyProof.Rows.callWith_builtin1 ?_ hs rfl
  rw [hs]
  show wpAny _ _ (spliced ((false, eval (.Call (.Attribute e "items" apos) [] [] cpos) X.env) :: backTo pos (starEach [] X.env))) _ _ s
  refine Calls.spliced_cons ?_
  refine wpAny_Call_method (T := "dict") (id := "dict.items") hbase rfl hline F.plainAttrs_dict F.slot_dict_items F.type_dict_items (thn (he.run pins s σ H _ I hq) fun u s1 ⟨x, H1, I1, rx, d, zs, g, ex, hd, few, q⟩ => ?_)
  subst ex
  obtain rfl : u = Value.ref d := rx
  obtain ⟨hz, hs0, vs, kv, hdo⟩ := I1.hok d _ hd
  obtain ⟨ep, hat⟩ := hdo.dictAt
  have lk : (dkv zs g).length = vs.length := Paired.length kv
  have lz : (dkv zs g).length = zs.length := List.length_map _
  have I2 : Inv X pins σ H1 { s1 with heap := s1.heap.push { cls := .type "dict_items", data := .fields #[.ref d] } } := I1.kept (t' := s1.toks) fun b ob q => Heap.get?_push_of_some _ q
  refine ⟨hdo.typeIs, hdo.mapOf.noDict, ?_⟩
  show wpAny _ _ (callWith cpos (.builtin "dict.items") [.ref d] [] []) _ X.xe s1
  refine method_meetsIn F.slot_dict_items F.entry_dict_items rfl (PySem.evalArgs_none ⟨rfl, hdo.typeIs, F.args_dict_items_1 _, _, meets_dict_items (mixKind X.prog X.w) d hs0, ⟨vs, hdo⟩, ?_⟩)
  refine Calls.spliced_nil ?_
  refine Calls.call_function_entry kind_sorted plain_sorted entry_sorted (args_sorted1 _) ?_
  unfold Builtin.«sorted»
  refine wpAny_bind (m := checkCount "sorted" 1 1 _) (wpAny_pure ?_)
  refine wpAny_bind (PySem.W.kdx_collect (A := X.A.in1) (knd := mixKind X.prog X.w) (kvs := vs) (ep := ep) (I1.ok.hd hc) ⟨_, Heap.get?_push_size _ rfl, rfl, rfl⟩ (hat.push _) (by omega) fun h' tk as hk hl hG => ?_)
  obtain ⟨H2, k1, k2, k3, J⟩ := items_laidT (tk := tk) I2 kv hk hl hG
  obtain ⟨L, rfl, eL, hL⟩ := paired_IL k3
  have lL : L.length = zs.length := by
    have := congrArg List.length eL
    rwa [List.length_map, List.length_map] at this
  have evs : (L.map (·.1)).map Value.ref = L.map fun p => Value.ref p.1 := by rw [List.map_map]; rfl
  rw [evs]
  refine wpAny_bind (wpAny_newList ?_ (by rw [List.length_map, sizeLine_eq]; omega))
  have hoL : (h'.push (seqObj "list" (L.map fun q => Value.ref q.1).toArray 0)).get? h'.objs.size = some (seqObj "list" (L.map fun q => Value.ref q.1).toArray 0) := Heap.get?_push_size _ rfl
  have er : PySem.W.EachIs (fun v p => ∃ as, Reads (h'.push (seqObj "list" (L.map fun q => Value.ref q.1).toArray 0)) v (encI p) as ∧ h'.objs.size ∉ as) (L.map fun p => Value.ref p.1) L := (eachI_reads J hL).mono fun v p ⟨as, r⟩ => ⟨as, PyProof.Rows.Reads.keeps (fun b o e => Heap.get?_push_of_some _ e) r, by rw [reads_nil r]; simp⟩
  refine wpAny_bind (wpAny_holding (PySem.W.list_sort_data (s := { s1 with heap := h'.push (seqObj "list" (L.map fun q => Value.ref q.1).toArray 0), toks := tk }) (enc := encI) hoL (each_I L) er (alike_I L) (sortable_I L) (by rw [sizeLine_eq]; omega)
    (fun b _ => by show X.A.units + 1 + 1 + 1 < cLine; omega) fun out hout eo => ?_))
  obtain ⟨c, hc2⟩ := sortedHeap_at (vs := L.map fun q => Value.ref q.1) (out := List.toArray out) hoL
  have pm := List.mergeSort_perm L (PySem.W.dataLe false encI)
  have hz2 : (rfI (L.mergeSort (PySem.W.dataLe false encI))).length ≤ sizeLine := by
    unfold rfI
    rw [List.length_map, pm.length_eq, sizeLine_eq]
    omega
  have hv : Vals (rfI (L.mergeSort (PySem.W.dataLe false encI))) out := by
    rw [eachI_out eo]
    exact valsI _
  have pw : ((L.mergeSort (PySem.W.dataLe false encI)).map (·.2.1)).Pairwise fun x y => x.cps.toList ≤ y.cps.toList := List.pairwise_map.mpr ((PySem.W.sort_pairwise (PySem.W.sortLe_total (PyProof.Rows.listOrd PyProof.Rows.itemOrd) false fun b : Addr × (Str × Int) => PySem.W.keyToks (encI b)) L).imp fun h => le_I h)
  have fr : H2 h'.objs.size = none := J.hok.fresh (Nat.le_refl _)
  refine wpAny_pure ⟨_, rfl, .ref h'.objs.size, _, J.laid (t' := tk) (o := .lst (rfI (L.mergeSort (PySem.W.dataLe false encI)))) (fun b u e => ?_) (Nat.le_refl _) ⟨hz2, out, c, hv, hc2⟩, rfl, q _ _ _ (k1.trans (same_upd fr)) (k1.free fr) upd_same (fun p hp => ?_) (sorted_pairs eL pm pw)⟩
  · have lt := Heap.lt_size e
    show (sortedHeap (h'.push (seqObj "list" (L.map fun q => Value.ref q.1).toArray 0)) h'.objs.size _ _).get? b = some u
    rw [sortedHeap_old (Nat.ne_of_lt lt) (by rw [size_push']; exact Nat.lt_succ_of_lt lt)]
    exact Heap.get?_push_of_some _ e
  · have := hL p (pm.mem_iff.mp hp)
    exact same_upd fr _ _ this
end
end HF
/-! round a ring: how much oftener friends go -/
namespace HF
open PySem PySem.Spec PyProof.Rows L2
def ovr (zs ws : List Str) (g : Str → Int) (p : Str × Str) : Int := g p.2 - g p.1 - gn zs ws p
theorem sum_ovr0 (zs ws : List Str) (g : Str → Int) : ∀ P : List (Str × Str), (P.map (ovr zs ws g)).sum = (P.map fun p => g p.2).sum - (P.map fun p => g p.1).sum - ((num ws P : Int) - (num zs P : Int))
  | [] => rfl
  | p :: P => by
    rw [List.map_cons, List.map_cons, List.map_cons, List.sum_cons, List.sum_cons, List.sum_cons, sum_ovr0 zs ws g P, num_cons, num_cons]
    unfold ovr
    rw [show gn zs ws p = (uu ws p.1 p.2 : Int) - (uu zs p.1 p.2 : Int) from gn_uu zs ws p.1 p.2]
    omega
abbrev cyp (ls : List Str) : List (Str × Str) := ls.zip (ls.drop 1 ++ ls.take 1)
theorem cyp_len {ls : List Str} : (ls.drop 1 ++ ls.take 1).length = ls.length := by
  rw [List.length_append, List.length_drop, List.length_take]
  omega
theorem sum_ovr (zs ws : List Str) (g : Str → Int) {ls : List Str} (h : 1 ≤ ls.length) : ((cyp ls).map (ovr zs ws g)).sum = (T zs ls : Int) - (T ws ls : Int) := by
  rw [sum_ovr0, law_T h, law_T h]
  have e1 : (cyp ls).map (fun p => g p.2) = (ls.drop 1 ++ ls.take 1).map g := by
    rw [show (cyp ls).map (fun p => g p.2) = ((cyp ls).map Prod.snd).map g from by rw [List.map_map]; rfl, List.map_snd_zip (by rw [cyp_len]; omega)]
  have e2 : (cyp ls).map (fun p => g p.1) = ls.map g := by
    rw [show (cyp ls).map (fun p => g p.1) = ((cyp ls).map Prod.fst).map g from by rw [List.map_map]; rfl, List.map_fst_zip (by rw [cyp_len]; omega)]
  have e3 : ((ls.drop 1 ++ ls.take 1).map g).sum = (ls.map g).sum := by
    have : (ls.map g).sum = ((ls.take 1 ++ ls.drop 1).map g).sum := by rw [List.take_append_drop]
    rw [this, List.map_append, List.map_append, List.sum_append, List.sum_append]
    omega
  rw [e1, e2, e3]
  omega
theorem sum_zero : ∀ {ns : List Int}, (∀ n ∈ ns, 0 ≤ n) → ns.sum = 0 → ∀ n ∈ ns, n = 0
  | [], _, _, n, hn => nomatch hn
  | a :: r, h, e, n, hn => by
    have h1 := h a List.mem_cons_self
    have h2 : ∀ m ∈ r, 0 ≤ m := fun m hm => h m (List.mem_cons_of_mem _ hm)
    have h3 : 0 ≤ r.sum := by
      clear e hn h h1
      induction r with
      | nil => exact Int.le_refl _
      | cons b r ih =>
        rw [List.sum_cons]
        have := h2 b List.mem_cons_self
        have := ih fun m hm => h2 m (List.mem_cons_of_mem _ hm)
        omega
    rw [List.sum_cons] at e
    rcases List.mem_cons.mp hn with hn | hn
    · omega
    · exact sum_zero h2 (by omega) n hn
theorem cyp_mem {qs : List (Str × Str)} {zs ls : List Str} (hR : Rng qs zs ls) {p : Str × Str} (hp : p ∈ cyp ls) : p ∈ qs ∧ p.1 ∈ ls ∧ p.2 ∈ ls := by
  have hm := List.of_mem_zip hp
  refine ⟨?_, hm.1, ?_⟩
  · obtain ⟨ms, y, rfl⟩ := snoc_of (ls := ls) (by have := hR.two; omega)
    have hp2 : p ∈ cyc (ms ++ [y]) := by
      unfold cyc
      rw [← List.drop_one]
      exact hp
    obtain ⟨i0, hi0⟩ := List.mem_iff_getElem?.mp (cyc_snoc.mpr hp2)
    exact hR.pairs hi0
  · rcases List.mem_append.mp hm.2 with e | e
    · exact List.mem_of_mem_drop e
    · exact List.mem_of_mem_take e
/-- dict(list of pairs) -/
theorem merge_any {zs : List Str} (g : Str → Int) (nd : zs.Nodup) : mergeK [] (dkv zs g) = dkv zs g := by
  have go : ∀ (r a : List Str), (a ++ r).Nodup → (dkv r g).foldl (fun acc kv => putK acc kv.1 kv.2) (dkv a g) = dkv (a ++ r) g := fun r => by
    induction r with
    | nil =>
      intro a _
      rw [List.append_nil]
      rfl
    | cons x r ih =>
      intro a hn
      have hx : x ∉ a := fun z => (List.nodup_append.mp hn).2.2 x z x List.mem_cons_self rfl
      show (dkv r g).foldl _ (putK (dkv a g) (Sum.inr x) (V.int (g x))) = _
      rw [putK_new _ (keys_out (g := fun x => V.int (g x)) hx)]
      have e : dkv a g ++ [((Sum.inr x : Key), V.int (g x))] = dkv (a ++ [x]) g := by
        rw [show dkv (a ++ [x]) g = dkv a g ++ [((Sum.inr x : Key), V.int (g x))] from List.map_append]
      rw [e, ih (a ++ [x]) (by rw [List.append_assoc]; exact hn), List.append_assoc]
      rfl
  exact go zs [] nd
section
variable {X : Cx}
def rInTq (K : PySem.W.Frag) : R2 := fun x y H Q => ∃ d ds, Dp K H x d ∧ Dp K H y (.tuple ds) ∧ SeqAt.shaped d = true ∧ SeqAt.shaped (.tuple ds) = true ∧ Q (.bl (ds.any fun z => PyData.eqv z d)) H
theorem op_inTq (hu : X.A.units + 65 < cLine) : OpR X (compareOp .In) (rInTq X.K) := by
  intro pins s σ H x y v u Q I rx ry hyp
  obtain ⟨d, ds, hd, he, sd, se, q⟩ := hyp
  obtain ⟨as, r1⟩ := Dp.reads I d x v hd rx
  obtain ⟨bs, r2⟩ := Dp.reads I (.tuple ds) y u he ry
  have deep : d.depth ≤ 64 := of_decide_eq_true (Bool.and_eq_true_iff.mp sd).2
  exact SeqAt.in_tuple_reads r2 r1 (SeqAt.canLay_of_shaped se) (SeqAt.canLay_of_shaped sd) (by have := Nat.min_le_right (PyData.depthAll ds) d.depth; omega) ⟨.bl _, H, I, rfl, q⟩
end
theorem dTies_prs' {zs : List Str} : ∀ {L : SL}, (∀ p ∈ L, OkP zs p) → L.map dRow = (L.map prOf).map dPr
  | [], _ => rfl
  | p :: r, h => by
    obtain ⟨x, y, e, _⟩ := h p List.mem_cons_self
    rw [List.map_cons, List.map_cons, List.map_cons, dTies_prs' fun q hq => h q (List.mem_cons_of_mem _ hq)]
    congr 1
    show PyData.tuple (p.2.map PyData.str) = dPr (prOf p)
    unfold prOf
    rw [e]
    rfl
theorem strs_refs {ls : List Str} {as : List Addr} (h2 : 2 ≤ ls.length) (e : ls.map V.str = as.map V.ref) : False := by
  cases ls with
  | nil => exact absurd h2 (by decide)
  | cons x r =>
    cases as with
    | nil => exact nomatch e
    | cons a r2 =>
      injection e with e1 _
      exact nomatch e1
theorem LpAt.push {qs : List (Str × Str)} {zs ls : List Str} {H : Hp} {D t : Addr} {bs : List Addr} {rs : List (List Str)} (h : LpAt qs zs H D bs rs) (ht : H t = some (.lst (ls.map V.str))) (hR : Rng qs zs ls) : LpAt qs zs (upd H D (.lst (bs.map V.ref ++ [.ref t]))) D (bs ++ [t]) (rs ++ [ls]) := by
  have ne : ∀ {a : Addr} {l2 : List Str}, H a = some (.lst (l2.map V.str)) → Rng qs zs l2 → a ≠ D := fun {a l2} e r z => by
    rw [z, h.top] at e
    exact strs_refs r.two (by injection (Option.some.inj e) with e2; exact e2.symm)
  refine ⟨by rw [upd_same, List.map_append]; rfl, by rw [List.length_append, List.length_append, h.len]; rfl, fun i a l2 h1 h2 => ?_, fun l2 hl2 => ?_⟩
  · by_cases hi : i < bs.length
    · rw [List.getElem?_append_left hi] at h1
      rw [List.getElem?_append_left (by rw [← h.len]; exact hi)] at h2
      have := h.at' i a l2 h1 h2
      rw [upd_ne (ne this (h.rng l2 (List.mem_of_getElem? h2)))]
      exact this
    · have hi2 : i = bs.length := by
        have := (List.getElem?_eq_some_iff.mp h1).1
        rw [List.length_append] at this
        have e : [t].length = 1 := rfl
        omega
      subst hi2
      rw [List.getElem?_append_right (Nat.le_refl _)] at h1
      rw [h.len, List.getElem?_append_right (Nat.le_refl _)] at h2
      simp at h1 h2
      subst h1 h2
      rw [upd_ne (ne ht hR)]
      exact ht
  · rcases List.mem_append.mp hl2 with hl2 | hl2
    · exact h.rng l2 hl2
    · rw [List.mem_singleton.mp hl2]
      exact hR
theorem LpAt.app {qs : List (Str × Str)} {zs : List Str} {H : Hp} {F D E : Addr} {as bs : List Addr} {rs rs2 : List (List Str)} (h : LpAt qs zs H F as rs) (h2 : LpAt qs zs H D bs rs2) (hE : H E = some (.lst (as.map V.ref ++ bs.map V.ref))) : LpAt qs zs H E (as ++ bs) (rs ++ rs2) := by
  refine ⟨by rw [hE, List.map_append], by rw [List.length_append, List.length_append, h.len, h2.len], fun i a l2 e1 e2 => ?_, fun l2 hl2 => ?_⟩
  · by_cases hi : i < as.length
    · rw [List.getElem?_append_left hi] at e1
      rw [List.getElem?_append_left (by rw [← h.len]; exact hi)] at e2
      exact h.at' i a l2 e1 e2
    · rw [List.getElem?_append_right (by omega)] at e1
      rw [List.getElem?_append_right (by rw [← h.len]; omega), ← h.len] at e2
      exact h2.at' _ a l2 e1 e2
  · rcases List.mem_append.mp hl2 with hl2 | hl2
    · exact h.rng l2 hl2
    · exact h2.rng l2 hl2
theorem two_ring {qs : List (Str × Str)} {zs : List Str} {a b : Str} (h1 : (a, b) ∈ qs) (h2 : (b, a) ∈ qs) (cl : ∀ q ∈ qs, q.2 ∈ zs ∧ q.1 ≠ q.2 ∧ q.1 ∈ zs) : Rng qs zs [a, b] := by
  refine ⟨?_, Nat.le_refl _, fun x hx => ?_, ⟨h1, h2, trivial⟩⟩
  · have := (cl _ h1).2.1
    simp [this]
  · rcases List.mem_cons.mp hx with hx | hx
    · rw [hx]
      exact (cl _ h1).2.2
    · rw [List.mem_singleton.mp hx]
      exact (cl _ h1).1
def dIt (q : Str × Int) : PyData := .tuple [.str q.1, .int q.2]
theorem dpAll_I {K : PySem.W.Frag} {H : Hp} : ∀ {L : IL}, AtI H L → DpAll K H (rfI L) ((L.map (·.2)).map dIt)
  | [], _ => .nil
  | p :: r, h => .cons (.tup (.inl (.inl (h p List.mem_cons_self))) (.cons (.str _) (.cons (.int _) .nil))) (dpAll_I fun q hq => h q (List.mem_cons_of_mem _ hq))
theorem canLay_I : ∀ {qs : List (Str × Int)}, (∀ q ∈ qs, Nm q.1) → PyData.canLayAll0 (qs.map dIt) = true
  | [], _ => rfl
  | q :: r, h => by
    show ((PyData.strOk q.1 && (PyData.canLay0 (.int q.2) && true)) && PyData.canLayAll0 (r.map dIt)) = true
    rw [canLay_I fun p hp => h p (List.mem_cons_of_mem _ hp), show PyData.strOk q.1 = true from (h q List.mem_cons_self).ok]
    rfl
theorem depth_I : ∀ {qs : List (Str × Int)}, PyData.depthAll (qs.map dIt) ≤ 1
  | [] => Nat.zero_le _
  | q :: r => by
    show max (max 0 (max 0 0) + 1) (PyData.depthAll (r.map dIt)) ≤ 1
    have := depth_I (qs := r)
    omega
theorem wide_I : ∀ {qs : List (Str × Int)}, wideAll (qs.map dIt) ≤ 2
  | [] => Nat.zero_le _
  | q :: r => by
    show max (max 2 (max 0 (max 0 0))) (wideAll (r.map dIt)) ≤ 2
    have := wide_I (qs := r)
    omega
theorem paired_I {K : PySem.W.Frag} {H : Hp} {g : Str → Int} : ∀ {L : IL} {zs : List Str}, AtI H L → L.map (·.2) = zs.map (fun x => (x, g x)) → Paired (fun p (kv : Key × V) => SqT K H p [kV kv.1, kv.2]) (L.map (·.1)) (dkv zs g)
  | [], [], _, _ => .nil
  | [], _ :: _, _, e => nomatch e
  | _ :: _, [], _, e => nomatch e
  | p :: L, z :: zs, h, e => by
    rw [List.map_cons, List.map_cons] at e
    injection e with e1 e2
    refine .cons (.inl (.inl ?_)) (paired_I (fun q hq => h q (List.mem_cons_of_mem _ hq)) e2)
    have := h p List.mem_cons_self
    rw [e1] at this
    exact this
theorem lst_zero {zs : List Str} {qs : List (Str × Str)} {g : Str → Int} (nd : zs.Nodup) (h : Lst zs zs qs g) : ∀ x, g x = 0 := fun x => by
  have hs : Sol zs zs qs (fun _ => 0) := by
    refine ⟨fun _ => Int.le_refl _, fun i x hx hf => ?_, fun q _ h0 => absurd h0 (Int.lt_irrefl 0)⟩
    rcases hf with h0 | ⟨y, hy, hlt⟩
    · exact absurd h0 (Int.lt_irrefl 0)
    · rw [pos_at nd hy, pos_at nd hx] at hlt
      omega
  have h1 := h.least _ hs x
  have h2 := h.sol.nn x
  omega
/-- a list of pairs of a text and a number, one more -/
theorem AtI.push {H : Hp} {D t : Addr} {L : IL} {x : Str} {n : Int} (hD : H D = some (.lst (rfI L))) (h : AtI H L) (ht : H t = some (.tup [.str x, .int n])) : (upd H D (.lst (rfI L ++ [.ref t]))) D = some (.lst (rfI (L ++ [(t, (x, n))]))) ∧ AtI (upd H D (.lst (rfI L ++ [.ref t]))) (L ++ [(t, (x, n))]) := by
  have ne : ∀ {a : Addr} {u v : V}, H a = some (.tup [u, v]) → a ≠ D := fun e z => by
    rw [z, hD] at e
    exact nomatch e
  refine ⟨by rw [upd_same]; unfold rfI; rw [List.map_append]; rfl, fun p hp => ?_⟩
  rcases List.mem_append.mp hp with hp | hp
  · rw [upd_ne (ne (h p hp))]
    exact h p hp
  · rw [List.mem_singleton.mp hp]
    rw [upd_ne (ne ht)]
    exact ht
theorem rfI_len (L : IL) : (rfI L).length = L.length := List.length_map _
end HF
/-! how often books go in a row that's let -/
namespace HF
open PySem PySem.Spec PyProof.Rows L2
theorem uu_top {u : Str} {zs : List Str} (f : Str) : uu (onTop u zs) u f = 0 := by
  unfold uu up
  rw [if_neg]
  rw [decide_eq_true_iff]
  show ¬ ((pos f (onTop u zs) : Nat) : Int) < ((pos u (onTop u zs) : Nat) : Int)
  rw [pos_top]
  omega
theorem uu_under {u f : Str} {zs : List Str} (h : u ≠ f) : uu (onTop f zs) u f = 1 := by
  unfold uu up
  rw [if_pos]
  rw [decide_eq_true_iff]
  show ((pos f (onTop f zs) : Nat) : Int) < ((pos u (onTop f zs) : Nat) : Int)
  rw [pos_top, pos_rest h]
  omega
theorem uu_lets {qs : List (Str × Str)} {zs : List Str} {u f : Str} (hl : lets qs zs u = true) (hq : (u, f) ∈ qs) : uu zs u f = 1 := by
  have up1 : (pos f zs : Int) < (pos u zs : Int) := by
    unfold lets at hl
    refine of_decide_eq_true (List.all_eq_true.mp hl f ?_)
    unfold sndOf
    exact List.mem_map.mpr ⟨(u, f), List.mem_filter.mpr ⟨hq, decide_eq_true rfl⟩, rfl⟩
  unfold uu up
  rw [if_pos (decide_eq_true up1)]
theorem uu_le (zs : List Str) (u f : Str) : (uu zs u f : Int) ≤ 1 ∧ 0 ≤ (uu zs u f : Int) := by
  unfold uu
  split <;> decide
theorem row_ed {qs : List (Str × Str)} {u f : Str} (hq : (u, f) ∈ qs) (ne : u ≠ f) : ∀ (row zs : List Str), refAt qs zs row = none → ((row.count u : Nat) : Int) + (uu (lefts zs row) u f : Int) - (uu zs u f : Int) ≤ ((row.count f : Nat) : Int)
  | [], zs, _ => by
    show (0 : Int) + (uu zs u f : Int) - (uu zs u f : Int) ≤ 0
    omega
  | b :: r, zs, h => by
    obtain ⟨h1, h2⟩ := refAt_none h
    have ih := row_ed hq ne r (onTop b zs) h2
    have e : lefts zs (b :: r) = lefts (onTop b zs) r := rfl
    rw [e]
    by_cases hb : b = u
    · subst hb
      rw [List.count_cons_self, List.count_cons_of_ne ne, uu_lets h1 hq]
      rw [uu_top] at ih
      omega
    · by_cases hf : b = f
      · subst hf
        rw [List.count_cons_self, List.count_cons_of_ne hb]
        rw [uu_under ne] at ih
        have := (uu_le zs u b).2
        omega
      · rw [List.count_cons_of_ne hb, List.count_cons_of_ne hf]
        rw [uu_rest (fun e => hb e.symm) (fun e => hf e.symm)] at ih
        exact ih
theorem row_sol {qs : List (Str × Str)} {zs ws row : List Str} (h : RowTo qs zs ws row) (nd : zs.Nodup) (cl : ∀ q ∈ qs, q.2 ∈ zs ∧ q.1 ≠ q.2 ∧ q.1 ∈ zs) : Sol zs ws qs (fun x => ((row.count x : Nat) : Int)) := by
  have wnd : ws.Nodup := (h.perm nd).nodup_iff.mpr nd
  have hws : ws = ded row.reverse ++ zs.filter fun z => decide (z ∉ ded row.reverse) := by
    rw [← h.left, lefts_last]
    rfl
  have hA : ∀ x, x ∈ ded row.reverse ↔ x ∈ row := fun x => by
    rw [ded_mem, List.mem_reverse]
  refine ⟨fun x => Int.natCast_nonneg _, fun i x hx hf => ?_, fun q hq _ => ?_⟩
  · have key : x ∈ row → ∀ (j : Nat) (y : Str), j ≤ i → ws[j]? = some y → (1 : Int) ≤ ((row.count y : Nat) : Int) := fun hxr j y hj hy => by
      have hxa := (hA x).mpr hxr
      obtain ⟨k, hk⟩ := List.getElem?_of_mem hxa
      have hkl := (List.getElem?_eq_some_iff.mp hk).1
      have hk2 : ws[k]? = some x := by
        rw [hws, List.getElem?_append_left hkl]
        exact hk
      have eik : i = k := by
        rw [← pos_at wnd hx, ← pos_at wnd hk2]
      have hy2 : y ∈ ded row.reverse := by
        rw [hws, List.getElem?_append_left (by omega)] at hy
        exact List.mem_of_getElem? hy
      have := List.count_pos_iff.mpr ((hA y).mp hy2)
      omega
    rcases hf with h0 | ⟨y, hy, hlt⟩
    · have hxr : x ∈ row := List.count_pos_iff.mp (by
        have : (0 : Int) < ((row.count x : Nat) : Int) := h0
        omega)
      exact key hxr
    · by_cases hxr : x ∈ row
      · exact key hxr
      · exfalso
        have hil : (ded row.reverse).length ≤ i := by
          refine Nat.le_of_not_lt fun hlt2 => hxr ?_
          rw [hws, List.getElem?_append_left hlt2] at hx
          exact (hA x).mp (List.mem_of_getElem? hx)
        rw [hws, List.getElem?_append_right hil] at hx
        rw [hws, List.getElem?_append_right (by omega)] at hy
        have bnd : (zs.filter fun z => decide (z ∉ ded row.reverse)).Nodup := nd.filter _
        have p1 := pos_at bnd hx
        have p2 := pos_at bnd hy
        have hx2 := (List.mem_filter.mp (List.mem_of_getElem? hx)).2
        have hy2 := (List.mem_filter.mp (List.mem_of_getElem? hy)).2
        have := (pos_filter (p := fun z => decide (z ∉ ded row.reverse)) (x := x) (y := y) hx2 hy2 zs)
        omega
  · have := row_ed hq (cl q hq).2.1 row zs h.lt
    rw [h.left] at this
    rw [show gn zs ws q = (uu ws q.1 q.2 : Int) - (uu zs q.1 q.2 : Int) from gn_uu zs ws q.1 q.2]
    show ((row.count q.1 : Nat) : Int) + _ ≤ ((row.count q.2 : Nat) : Int)
    omega
theorem row_least {qs : List (Str × Str)} {zs ws row : List Str} {g : Str → Int} (h : RowTo qs zs ws row) (nd : zs.Nodup) (cl : ∀ q ∈ qs, q.2 ∈ zs ∧ q.1 ≠ q.2 ∧ q.1 ∈ zs) (hL : Lst zs ws qs g) : ∀ x, g x ≤ ((row.count x : Nat) : Int) := hL.least _ (row_sol h nd cl)
theorem sum_perm {xs ys : List Str} (h : xs.Perm ys) (f : Str → Int) : (xs.map f).sum = (ys.map f).sum := by
  induction h with
  | nil => rfl
  | cons x _ ih => rw [List.map_cons, List.map_cons, List.sum_cons, List.sum_cons, ih]
  | swap x y l =>
    rw [List.map_cons, List.map_cons, List.map_cons, List.map_cons, List.sum_cons, List.sum_cons, List.sum_cons, List.sum_cons]
    omega
  | trans _ _ h1 h2 => exact h1.trans h2
theorem betw_cnt {K : PySem.W.Frag} {H : Hp} {h o r : Addr} {zs ws : List Str} {qs : List (Str × Str)} {Q : VK} {E : XK} (tw : Two K H h o r zs ws qs) (hz12 : zs.length ≤ 12) (hld : ld zs ws qs = true)
    (k : ∀ (H' : Hp) (t l : Addr) (row : List Str) (g : Str → Int), Same H H' → H t = none → H l = none → H' t = some (.tup [.str "row", .ref l]) → H' l = some (.lst (row.map V.str)) → (∀ b ∈ row, b ∈ zs) → row.length ≤ 144 → Lst zs ws qs g → (∀ z ∈ zs, ((row.count z : Nat) : Int) = g z) → Q (.ref t) H') : spBetw K [.ref h, .ref o, .ref r] H Q E := by
  refine ⟨h, o, r, zs, ws, qs, rfl, tw, fun H' t l p g m s nt nl ht hl hp hL hm => ?_, fun H' t l ls s nt nl ht hl h1 h2 _ => ?_⟩
  · refine k H' t l _ g s nt nl ht hl (fun z hz => tw.pm.mem_iff.mp (rowOf_sub z hz)) ?_ hL fun z hz => cnt_full hL.sol tw.pm tw.nd hz hm.2
    have h1 := rowOf_len ws g m
    obtain ⟨z0, hz0, e0⟩ := hm.1
    have h2 := hL.few hp z0 hz0
    have h3 : m ≤ 12 := by omega
    have h4 : ws.length ≤ 12 := by
      rw [tw.pm.length_eq]
      exact hz12
    exact Nat.le_trans h1 (Nat.le_trans (Nat.mul_le_mul h3 h4) (by decide))
  · rw [ld_ring h1 h2] at hld
    exact nomatch hld
/-! [heap, heap, ties, row] -/
abbrev dH4 (xs ys : List Str) (L : SL) (row : List Str) : PyData := .list [.tuple (xs.map PyData.str), .tuple (ys.map PyData.str), dTies L, .list (row.map PyData.str)]
theorem h4_show (xs ys : List Str) (L : SL) (row : List Str) : (dH4 xs ys L row).showable = true := by
  show (PyData.showableAll (xs.map PyData.str) && (PyData.showableAll (ys.map PyData.str) && (PyData.showableAll (L.map dRow) && (PyData.showableAll (row.map PyData.str) && true)))) = true
  rw [show_strs, show_strs, show_rows, show_strs]
  rfl
theorem h4_nodict (xs ys : List Str) (L : SL) (row : List Str) : (dH4 xs ys L row).hasDict = false := by
  show (PyData.hasDictAll (xs.map PyData.str) || (PyData.hasDictAll (ys.map PyData.str) || (PyData.hasDictAll (L.map dRow) || (PyData.hasDictAll (row.map PyData.str) || false)))) = false
  rw [nodict_strs, nodict_strs, nodict_rows, nodict_strs]
  rfl
theorem h4_depth (xs ys : List Str) (L : SL) (row : List Str) : (dH4 xs ys L row).depth < 60 := by
  show max (PyData.depthAll (xs.map PyData.str) + 1) (max (PyData.depthAll (ys.map PyData.str) + 1) (max (PyData.depthAll (L.map dRow) + 1) (max (PyData.depthAll (row.map PyData.str) + 1) 0))) + 1 < 60
  rw [depth_strs, depth_strs, depth_strs]
  have := depth_rows L
  omega
theorem h4_fits {xs ys zs row : List Str} {L : SL} (hx : ∀ z ∈ xs, Nm z) (hy : ∀ z ∈ ys, Nm z) (hn : ∀ z ∈ zs, Nm z) (hr : ∀ z ∈ row, Nm z) (hL : ∀ p ∈ L, OkP zs p) (lx : xs.length ≤ 1000) (ly : ys.length ≤ 1000) (ll : L.length ≤ 1000) (lr : row.length ≤ 1000) : (dH4 xs ys L row).shown.length ≤ sizeLine := by
  refine PyData.shown_fits (B := 13) (by decide) (by decide) (PyData.leavesShort_of_canLay0 13 _ ?_ ?_) ?_
  · show (PyData.canLayAll0 (xs.map PyData.str) && (PyData.canLayAll0 (ys.map PyData.str) && (PyData.canLayAll0 (L.map dRow) && (PyData.canLayAll0 (row.map PyData.str) && true)))) = true
    rw [canLay_strs hx, canLay_strs hy, lay_rows hn hL, canLay_strs hr]
    rfl
  · show (PyData.intsShortAll 13 (xs.map PyData.str) && (PyData.intsShortAll 13 (ys.map PyData.str) && (PyData.intsShortAll 13 (L.map dRow) && (PyData.intsShortAll 13 (row.map PyData.str) && true)))) = true
    rw [ints_strs, ints_strs, ints_rows, ints_strs]
    rfl
  · show PyData.weightAll (xs.map PyData.str) + 1 + (PyData.weightAll (ys.map PyData.str) + 1 + (PyData.weightAll (L.map dRow) + 1 + (PyData.weightAll (row.map PyData.str) + 1 + 0))) ≤ 2 ^ 20
    have h1 := weight_strs hx
    have h1b := weight_strs hy
    have h1c := weight_strs hr
    have h2 := weight_rows hn hL
    omega
end HF
/-! pairs with which a row is let -/
namespace HF
open PySem PySem.Spec PyProof.Rows L2
theorem refAt_all {qs : List (Str × Str)} {zs row : List Str} (h : ∀ i b, row[i]? = some b → lets qs (lefts zs (row.take i)) b = true) : refAt qs zs row = none := by
  have go : ∀ n, n ≤ row.length → refAt qs zs (row.take n) = none := fun n => by
    induction n with
    | zero => exact fun _ => rfl
    | succ n ih =>
      intro hn
      have hb : row[n]? = some row[n] := List.getElem?_eq_getElem (by omega)
      exact refAt_step hb (ih (by omega)) (h n _ hb)
  have := go row.length (Nat.le_refl _)
  rwa [List.take_length] at this
/-- b lay beneath a at a going of a -/
def Rfd (zs row : List Str) (i : Nat) (a b : Str) : Prop := ∃ j, j < i ∧ row[j]? = some a ∧ b ∈ lefts zs (row.take j) ∧ pos a (lefts zs (row.take j)) < pos b (lefts zs (row.take j))
theorem lets_one {u f b : Str} {ys : List Str} : lets [(u, f)] ys b = true ↔ (b = u → (pos f ys : Int) < (pos b ys : Int)) := by
  unfold lets sndOf
  by_cases e : u = b
  · subst e
    simp
  · have e2 : b ≠ u := fun z => e z.symm
    simp [e, e2]
theorem let_one {zs row : List Str} {u f : Str} (nd : zs.Nodup) (hin : ∀ b ∈ row, b ∈ zs) (hf : f ∈ zs) (ne : u ≠ f) : refAt [(u, f)] zs row = none ↔ ¬ Rfd zs row row.length u f := by
  constructor
  · rintro h ⟨j, hj, hr, hm, hlt⟩
    have := lets_one.mp (refAt_at hr h) rfl
    omega
  · intro h
    refine refAt_all fun i b hb => lets_one.mpr fun e => ?_
    subst e
    have pm := lefts_perm (row := row.take i) nd fun z hz => hin z (List.mem_of_mem_take hz)
    have hf2 := pm.mem_iff.mpr hf
    have hu2 := pm.mem_iff.mpr (hin b (List.mem_of_getElem? hb))
    have hne : pos b (lefts zs (row.take i)) ≠ pos f (lefts zs (row.take i)) := fun e => ne (pos_inj hu2 hf2 e)
    have hil := (List.getElem?_eq_some_iff.mp hb).1
    have : ¬ pos b (lefts zs (row.take i)) < pos f (lefts zs (row.take i)) := fun hlt => h ⟨i, hil, hb, hf2, hlt⟩
    omega
theorem mem_beneath {ys : List Str} {a b : Str} (nd : ys.Nodup) : b ∈ ys.drop (pos a ys + 1) ↔ b ∈ ys ∧ pos a ys < pos b ys := by
  constructor
  · intro h
    obtain ⟨j, hj⟩ := List.getElem?_of_mem h
    rw [List.getElem?_drop] at hj
    have := pos_at nd hj
    exact ⟨List.mem_of_mem_drop h, by omega⟩
  · rintro ⟨h1, h2⟩
    have h3 := pos_get h1
    have : (ys.drop (pos a ys + 1))[pos b ys - (pos a ys + 1)]? = some b := by
      rw [List.getElem?_drop, show pos a ys + 1 + (pos b ys - (pos a ys + 1)) = pos b ys by omega]
      exact h3
    exact List.mem_of_getElem? this
/-- a dict by pairs: which it has -/
def DGB (H : Hp) (D : Addr) (R : Str → Str → Prop) (n : Nat) : Prop := ∃ kvs : List (List Key × V), H D = some (.dT kvs) ∧ kvs.length ≤ n ∧ ∀ a b, (valV kvs (kk a b)).isSome = true ↔ R a b
theorem DGB.same {H H' : Hp} {D : Addr} {R : Str → Str → Prop} {n : Nat} (d : DGB H D R n) (s : Same H H') : DGB H' D R n := by
  obtain ⟨kvs, e, r⟩ := d
  exact ⟨kvs, s _ _ e, r⟩
theorem DGB.put {H : Hp} {D t : Addr} {R : Str → Str → Prop} {n : Nat} {a b : Str} {v : V} (d : DGB H D R n) (ht : H t = some (.tup [.str a, .str b])) (few : n ≤ 2000000) : ∃ kvs, DPut H D (.ref t) v (upd H D (.dT kvs)) ∧ DGB (upd H D (.dT kvs)) D (fun x y => R x y ∨ (x = a ∧ y = b)) (n + 1) := by
  obtain ⟨kvs, e, l, hv⟩ := d
  refine ⟨putK kvs (kk a b) v, .inr ⟨kvs, kk a b, t, e, rfl, ht, by rw [sizeLine_eq]; omega, rfl⟩, _, upd_same, Nat.le_trans (length_putK _ _ _) (Nat.succ_le_succ l), fun x y => ?_⟩
  rw [valV_put]
  by_cases z : x = a ∧ y = b
  · rw [if_pos (kk_inj.mpr z)]
    exact ⟨fun _ => .inr z, fun _ => rfl⟩
  · rw [if_neg (fun q => z (kk_inj.mp q)), hv]
    exact ⟨.inl, fun h => h.resolve_right z⟩
theorem DGB.iff {H : Hp} {D : Addr} {R R' : Str → Str → Prop} {n : Nat} (d : DGB H D R n) (h : ∀ a b, R a b ↔ R' a b) : DGB H D R' n := by
  obtain ⟨kvs, e, l, hv⟩ := d
  exact ⟨kvs, e, l, fun a b => (hv a b).trans (h a b)⟩
def spTl (K : PySem.W.Frag) : Sp := fun vs H Q _ => ∃ (h a : Addr) (zs row : List Str), vs = [.ref h, .ref a] ∧ Hq K H h zs ∧ Sq K H a (row.map V.str) ∧ zs.Nodup ∧ (∀ b ∈ row, b ∈ zs) ∧ zs.length ≤ 12 ∧ row.length ≤ 400 ∧
  ∀ (H' : Hp) (t : Addr) (ps : List TPr), Same H H' → H t = none → Tp H' t (rfs ps) → (∀ p ∈ ps, AtT H' p) → ps.map (·.2) = (allP (srt zs)).filter (fun p => decide (refAt [p] zs row = none)) → Q (.ref t) H'
end HF
/-! histories: heaps and rows -/
namespace HF
open PySem PySem.Spec PyProof.Rows L2
structure HE where
  t : Addr
  h : Addr
  a : Addr
  zs : List Str
  row : List Str
def HEOk (K : PySem.W.Frag) (H : Hp) (e : HE) : Prop := Sq K H e.t [.ref e.h, .ref e.a] ∧ Hq K H e.h e.zs ∧ Sq K H e.a (e.row.map V.str)
def Hst (K : PySem.W.Frag) (H : Hp) (l : Addr) (es : List HE) : Prop := Sq K H l (es.map fun e => V.ref e.t) ∧ ∀ e ∈ es, HEOk K H e
theorem HEOk.same {K : PySem.W.Frag} {H H' : Hp} {e : HE} (h : HEOk K H e) (s : Same H H') : HEOk K H' e := ⟨sameQ s h.1, h.2.1.same s, sameQ s h.2.2⟩
theorem Hst.same {K : PySem.W.Frag} {H H' : Hp} {l : Addr} {es : List HE} (h : Hst K H l es) (s : Same H H') : Hst K H' l es := ⟨sameQ s h.1, fun e he => (h.2 e he).same s⟩
def letsP (e : HE) (p : Str × Str) : Bool := decide (refAt [p] e.zs e.row = none)
/-- what ties_let told of a history -/
def LeOk (H : Hp) (e : HE) (u : Addr × List TPr) : Prop := Tp H u.1 (rfs u.2) ∧ (∀ p ∈ u.2, AtT H p) ∧ u.2.map (·.2) = (allP (srt e.zs)).filter (letsP e)
theorem tpS {H H' : Hp} {t : Addr} {xs : List V} (h : Tp H t xs) (s : Same H H') : Tp H' t xs := by
  obtain ⟨ob, h1, h2⟩ := h
  exact ⟨ob, s _ _ h1, h2⟩
theorem LeOk.same {H H' : Hp} {e : HE} {u : Addr × List TPr} (h : LeOk H e u) (s : Same H H') : LeOk H' e u := ⟨tpS h.1 s, fun p hp => s _ _ (h.2.1 p hp), h.2.2⟩
theorem keep_l {H : Hp} {D x : Addr} {xs : List V} {o o' : HO} (e : H D = some (.lst xs)) (hx : H x = some o) (ne : ∀ ys, o ≠ .lst ys) : upd H D o' x = some o := by
  rw [upd_ne (fun z => by rw [z, e] at hx; exact ne xs (by injection hx with hx; exact hx.symm))]
  exact hx
theorem LeOk.put {H : Hp} {e : HE} {u : Addr × List TPr} {D : Addr} {xs : List V} {o' : HO} (h : LeOk H e u) (eD : H D = some (.lst xs)) : LeOk (upd H D o') e u := by
  obtain ⟨⟨ob, h1, h2⟩, h3, h4⟩ := h
  exact ⟨⟨ob, keep_l eD h1 (fun _ z => nomatch z), h2⟩, fun p hp => keep_l eD (h3 p hp) (fun _ z => nomatch z), h4⟩
theorem LeOk.dp {K : PySem.W.Frag} {H : Hp} {e : HE} {u : Addr × List TPr} (h : LeOk H e u) : Dp K H (.ref u.1) (.tuple (((allP (srt e.zs)).filter (letsP e)).map dPr)) := by
  rw [← h.2.2, List.map_map]
  exact .tup h.1.sq (dpAll_prs h.2.1)
theorem ix_at {K : PySem.W.Frag} {H : Hp} {a : Addr} {xs : List V} {i : Int} {v : V} {Q : VK} (h : Sq K H a xs) (e : atI xs i = some v) (q : Q v H) : rIx K (.ref a) (.int i) H Q := by
  rcases h with h | h
  · exact .inl ⟨a, xs, i, v, rfl, rfl, h, e, q⟩
  · exact .inr (.inl ⟨a, xs, i, v, rfl, rfl, h, e, q⟩)
def spTa (K : PySem.W.Frag) : Sp := fun vs H Q _ => ∃ (l : Addr) (es : List HE) (z0 : List Str), vs = [.ref l] ∧ Hst K H l es ∧ es ≠ [] ∧ es.length ≤ 50 ∧ (∀ e ∈ es, e.zs.Perm z0 ∧ (∀ b ∈ e.row, b ∈ e.zs) ∧ e.row.length ≤ 400) ∧ z0.Nodup ∧ z0.length ≤ 12 ∧ (∀ z ∈ z0, Nm z) ∧
  ∀ (H' : Hp) (t : Addr) (ps : List TPr), Same H H' → H t = none → Tp H' t (rfs ps) → (∀ p ∈ ps, AtT H' p) → ps.map (·.2) = (allP (srt z0)).filter (fun p => es.all fun e => letsP e p) → Q (.ref t) H'
end HF
/-! pairs of a heap, in order: ties -/
namespace HF
open PySem PySem.Spec PyProof.Rows L2
def ltS (a b : Str) : Prop := a.cps.toList < b.cps.toList
def ltP (p q : Str × Str) : Prop := ltS p.1 q.1 ∨ (p.1 = q.1 ∧ ltS p.2 q.2)
theorem srt_lt {zs : List Str} (nd : zs.Nodup) : (srt zs).Pairwise ltS := by
  have h1 := srt_rise zs
  have h2 : (srt zs).Nodup := (srt_perm zs).nodup_iff.mpr nd
  refine (h1.and h2).imp fun {a b} h => ?_
  by_cases h3 : a.cps.toList < b.cps.toList
  · exact h3
  · exact absurd (PySem.W.str_of_cps (List.le_antisymm h.1 (List.not_lt.mp h3))) h.2
theorem ltS_ne {a b : Str} (h : ltS a b) : a ≠ b := fun e => by
  subst e
  exact List.lt_irrefl _ h
theorem allP_lt {bs : List Str} (h : bs.Pairwise ltS) : (allP bs).Pairwise ltP := by
  unfold allP
  have go : ∀ cs : List Str, cs.Pairwise ltS → (cs.flatMap fun b => (bs.filter fun f => decide (b ≠ f)).map fun f => (b, f)).Pairwise ltP := fun cs => by
    induction cs with
    | nil => exact fun _ => List.Pairwise.nil
    | cons c r ih =>
      intro hc
      obtain ⟨hc1, hc2⟩ := List.pairwise_cons.mp hc
      rw [List.flatMap_cons, List.pairwise_append]
      refine ⟨List.pairwise_map.mpr ((h.filter _).imp fun z => .inr ⟨rfl, z⟩), ih hc2, fun x hx y hy => ?_⟩
      obtain ⟨f, _, rfl⟩ := List.mem_map.mp hx
      obtain ⟨b, hb, hy⟩ := List.mem_flatMap.mp hy
      obtain ⟨g, _, rfl⟩ := List.mem_map.mp hy
      exact .inl (hc1 b hb)
  exact go bs h
theorem lt_dPr {p q : Str × Str} (h : ltP p q) : PySem.W.dataLt (dPr p) (dPr q) = true := by
  unfold dPr
  rw [PySem.W.dataLt_pair (by rfl) (by rfl)]
  rcases h with h | ⟨e, h⟩
  · have : ¬ PyData.eqv (.str p.1) (.str q.1) = true := fun z => ltS_ne h (eq_of_beq (show (p.1 == q.1) = true from z))
    rw [if_neg this, PySem.W.dataLt_str]
    exact decide_eq_true h
  · have h1 : PyData.eqv (.str p.1) (.str q.1) = true := by
      show (p.1 == q.1) = true
      rw [e]
      exact beq_self_eq_true _
    have : ¬ PyData.eqv (.str p.2) (.str q.2) = true := fun z => ltS_ne h (eq_of_beq (show (p.2 == q.2) = true from z))
    rw [if_pos h1, if_neg this, PySem.W.dataLt_str]
    exact decide_eq_true h
theorem ties_true {zs : List Str} {qs : List (Str × Str)} (hp : qs.Pairwise ltP) (hc : ∀ q ∈ qs, q.1 ∈ zs ∧ q.2 ∈ zs ∧ q.1 ≠ q.2) : isTiesB zs (.tuple (qs.map dPr)) = true := by
  show ((qs.map dPr).all (isTieB zs) && riseB (qs.map dPr)) = true
  rw [Bool.and_eq_true_iff]
  constructor
  · rw [List.all_eq_true]
    intro d hd
    obtain ⟨q, hq, rfl⟩ := List.mem_map.mp hd
    obtain ⟨h1, h2, h3⟩ := hc q hq
    have inb : ∀ b ∈ zs, isTieB.inBk zs (.str b) = true := fun b hb => by
      unfold isTieB.inBk
      rw [List.any_eq_true]
      exact ⟨.str b, List.mem_map_of_mem hb, by show (b == b) = true; exact beq_self_eq_true _⟩
    show (isTieB.inBk zs (.str q.1) && (isTieB.inBk zs (.str q.2) && !PyData.eqv (.str q.1) (.str q.2))) = true
    rw [inb _ h1, inb _ h2, show PyData.eqv (.str q.1) (.str q.2) = false from by
      show (q.1 == q.2) = false
      exact beq_eq_false_iff_ne.mpr h3]
    rfl
  · unfold riseB
    rw [List.all_eq_true]
    intro i hi
    rw [List.mem_range, List.length_map] at hi
    have e1 : (qs.map dPr).getD i .none = dPr qs[i] := by rw [List.getD_eq_getElem?_getD, List.getElem?_map, List.getElem?_eq_getElem (by omega)]; rfl
    have e2 : (qs.map dPr).getD (i + 1) .none = dPr qs[i + 1] := by rw [List.getD_eq_getElem?_getD, List.getElem?_map, List.getElem?_eq_getElem (by omega)]; rfl
    rw [e1, e2]
    exact lt_dPr (List.pairwise_iff_getElem.mp hp i (i + 1) _ _ (by omega))
end HF
namespace HF
open PySem PySem.Spec PyProof.Rows L2
theorem lets_mem {qs : List (Str × Str)} {ys : List Str} {b : Str} : lets qs ys b = true ↔ ∀ q ∈ qs, q.1 = b → (pos q.2 ys : Int) < (pos b ys : Int) := by
  unfold lets sndOf
  induction qs with
  | nil => simp
  | cons q r ih =>
    by_cases e : q.1 = b
    · simp [e] at ih ⊢
      rw [← ih]
      exact fun _ => Iff.rfl
    · simp [e] at ih ⊢
      rw [← ih]
theorem refAt_each {qs : List (Str × Str)} {zs row : List Str} : refAt qs zs row = none ↔ ∀ q ∈ qs, refAt [q] zs row = none := by
  constructor
  · intro h q hq
    refine refAt_all fun i b hb => lets_mem.mpr fun q2 h2 => ?_
    rw [List.mem_singleton.mp h2]
    exact lets_mem.mp (refAt_at hb h) q hq
  · intro h
    refine refAt_all fun i b hb => lets_mem.mpr fun q hq => ?_
    exact lets_mem.mp (refAt_at hb (h q hq)) q List.mem_cons_self
theorem row_ld {qs : List (Str × Str)} {zs ws row : List Str} (h : RowTo qs zs ws row) (nd : zs.Nodup) (cl : ∀ q ∈ qs, q.2 ∈ zs ∧ q.1 ≠ q.2 ∧ q.1 ∈ zs) : ld zs ws qs = true :=
  (ld_iff nd cl).mpr fun ls g => by
    rw [← h.left]
    exact T_row g nd h.sub h.lt
theorem Lst.fewer {zs ws : List Str} {qs rs : List (Str × Str)} {g g' : Str → Int} (h : Lst zs ws qs g) (h' : Lst zs ws rs g') (sub : ∀ q ∈ qs, q ∈ rs) (x : Str) : g x ≤ g' x :=
  h.least g' ⟨h'.sol.nn, h'.sol.up, fun q hq => h'.sol.ed q (sub q hq)⟩ x
end HF
/-! the fewest goings as one number; the first of the shortest rows -/
namespace HF
open PySem PySem.Spec PyProof.Rows L2
theorem least_nat {P : Nat → Prop} : ∀ n, P n → ∃ m, P m ∧ ∀ k, P k → m ≤ k := by
  intro n
  induction n using Nat.strongRecOn with
  | _ n ih =>
    intro h
    by_cases e : ∃ k, k < n ∧ P k
    · obtain ⟨k, h1, h2⟩ := e
      exact ih k h1 h2
    · exact ⟨n, h, fun k hk => Nat.le_of_not_lt fun hl => e ⟨k, hl, hk⟩⟩
theorem lst_ex {zs ws : List Str} {qs : List (Str × Str)} {p : Str → Int} (hp : Pot zs ws qs p) : ∃ g, Lst zs ws qs g := by
  have hs := hp.sol
  have key : ∀ x, ∃ n : Nat, (∃ h, Sol zs ws qs h ∧ h x = (n : Int)) ∧ ∀ h, Sol zs ws qs h → (n : Int) ≤ h x := fun x => by
    obtain ⟨n, h1, h2⟩ := least_nat (P := fun n => ∃ h, Sol zs ws qs h ∧ h x = (n : Int)) (1 + p x).toNat ⟨_, hs, by have := hs.nn x; have this : 0 ≤ 1 + p x := this; show 1 + p x = _; omega⟩
    refine ⟨n, h1, fun h hh => ?_⟩
    have h3 := hh.nn x
    have := h2 (h x).toNat ⟨h, hh, by omega⟩
    omega
  refine ⟨fun x => ((Classical.choose (key x) : Nat) : Int), ⟨fun x => Int.natCast_nonneg _, fun i x hx hf j y hj hy => ?_, fun q hq h0 => ?_⟩, fun g' hg x => (Classical.choose_spec (key x)).2 g' hg⟩
  · obtain ⟨⟨h, hh, e⟩, _⟩ := Classical.choose_spec (key y)
    show 1 ≤ ((Classical.choose (key y) : Nat) : Int)
    rw [← e]
    exact hh.up i x hx (hf.imp (fun z => Int.lt_of_lt_of_le z ((Classical.choose_spec (key x)).2 h hh)) id) j y hj hy
  · obtain ⟨⟨h, hh, e⟩, _⟩ := Classical.choose_spec (key q.2)
    have h1 := (Classical.choose_spec (key q.1)).2 h hh
    have h2 := hh.ed q hq (Int.lt_of_lt_of_le h0 h1)
    show ((Classical.choose (key q.1) : Nat) : Int) + gn zs ws q ≤ ((Classical.choose (key q.2) : Nat) : Int)
    rw [← e]
    omega
theorem ld_ex {zs ws : List Str} {qs : List (Str × Str)} (h : ld zs ws qs = true) : ∃ p, Pot zs ws qs p := @of_decide_eq_true _ (Classical.propDecidable _) h
open Classical in
noncomputable def fw (zs ws : List Str) (qs : List (Str × Str)) : Int := if h : ∃ g, Lst zs ws qs g then tot zs (Classical.choose h) else 0
theorem fw_eq {zs ws : List Str} {qs : List (Str × Str)} {g : Str → Int} (hL : Lst zs ws qs g) : fw zs ws qs = tot zs g := by
  have h : ∃ g, Lst zs ws qs g := ⟨g, hL⟩
  unfold fw
  rw [dif_pos h, (Classical.choose_spec h).one hL]
theorem tot_le {f g : Str → Int} : ∀ {zs : List Str}, (∀ z ∈ zs, f z ≤ g z) → tot zs f ≤ tot zs g
  | [], _ => Int.le_refl _
  | a :: r, h => by
    have h1 := h a List.mem_cons_self
    have h2 := tot_le (zs := r) fun z hz => h z (List.mem_cons_of_mem _ hz)
    show f a + tot r f ≤ g a + tot r g
    omega
theorem tot_one {f g : Str → Int} : ∀ {zs : List Str}, (∀ z ∈ zs, f z ≤ g z) → tot zs g ≤ tot zs f → ∀ z ∈ zs, g z = f z
  | [], _, _ => fun z hz => nomatch hz
  | a :: r, h, e => by
    have h1 := h a List.mem_cons_self
    have h2 := tot_le (zs := r) fun z hz => h z (List.mem_cons_of_mem _ hz)
    have e2 : g a + tot r g ≤ f a + tot r f := e
    intro z hz
    rcases List.mem_cons.mp hz with rfl | hz
    · omega
    · exact tot_one (zs := r) (fun z hz => h z (List.mem_cons_of_mem _ hz)) (by omega) z hz
/-- what two heaps and ties must be -/
structure Wl (zs ws : List Str) (qs : List (Str × Str)) : Prop where
  pm : ws.Perm zs
  nd : zs.Nodup
  cl : ∀ q ∈ qs, q.2 ∈ zs ∧ q.1 ≠ q.2 ∧ q.1 ∈ zs
theorem Wl.top {zs ws : List Str} {qs : List (Str × Str)} {b : Str} (w : Wl zs ws qs) (hb : b ∈ zs) : Wl (onTop b zs) ws qs := by
  have p := onTop_perm w.nd hb
  exact ⟨w.pm.trans p.symm, p.nodup_iff.mpr w.nd, fun q hq => ⟨p.mem_iff.mpr (w.cl q hq).1, (w.cl q hq).2.1, p.mem_iff.mpr (w.cl q hq).2.2⟩⟩
theorem fw_row {zs ws : List Str} {qs : List (Str × Str)} (w : Wl zs ws qs) (h : ld zs ws qs = true) : ∃ row, RowTo qs zs ws row ∧ ((row.length : Nat) : Int) = fw zs ws qs := by
  obtain ⟨p, hp⟩ := ld_ex h
  obtain ⟨g, hL⟩ := lst_ex hp
  have top : ∀ x ∈ zs, g x ≤ ((zs.length : Nat) : Int) := hL.few hp
  have sub : ∀ b ∈ rowOf ws g zs.length, b ∈ zs := fun b hb => w.pm.mem_iff.mp (rowOf_sub b hb)
  refine ⟨rowOf ws g zs.length, ⟨sub, rowOf_let hL.sol w.pm w.nd w.cl top, rowOf_left hL.sol w.pm w.nd top⟩, ?_⟩
  rw [len_counts w.nd sub, fw_eq hL]
  exact tot_congr fun z hz => cnt_full hL.sol w.pm w.nd hz top
theorem fw_le {zs ws row : List Str} {qs : List (Str × Str)} (w : Wl zs ws qs) (h : RowTo qs zs ws row) : fw zs ws qs ≤ ((row.length : Nat) : Int) := by
  obtain ⟨p, hp⟩ := ld_ex (h.ld w.nd w.cl)
  obtain ⟨g, hL⟩ := lst_ex hp
  rw [len_counts w.nd h.sub, fw_eq hL]
  exact tot_le fun z _ => row_least h w.nd w.cl hL z
theorem fw_nn {zs ws : List Str} {qs : List (Str × Str)} (w : Wl zs ws qs) (h : ld zs ws qs = true) : 0 ≤ fw zs ws qs := by
  obtain ⟨row, _, e⟩ := fw_row w h
  omega
theorem fw_zero {zs ws : List Str} {qs : List (Str × Str)} (w : Wl zs ws qs) (h : ld zs ws qs = true) (e : fw zs ws qs = 0) : zs = ws := by
  obtain ⟨row, hr, el⟩ := fw_row w h
  cases row with
  | nil => exact hr.left
  | cons b r =>
    rw [List.length_cons] at el
    omega
theorem fw_cnt {zs ws row : List Str} {qs : List (Str × Str)} {g : Str → Int} (w : Wl zs ws qs) (h : RowTo qs zs ws row) (e : ((row.length : Nat) : Int) = fw zs ws qs) (hL : Lst zs ws qs g) : ∀ z ∈ zs, ((row.count z : Nat) : Int) = g z :=
  tot_one (fun z _ => row_least h w.nd w.cl hL z) (by rw [← len_counts w.nd h.sub, e, fw_eq hL]; exact Int.le_refl _)
theorem RowTo.tail {qs : List (Str × Str)} {zs ws r : List Str} {b : Str} (w : Wl zs ws qs) (h : RowTo qs zs ws (b :: r)) : b ∈ zs ∧ lets qs zs b = true ∧ RowTo qs (onTop b zs) ws r := by
  have hb := h.sub b List.mem_cons_self
  obtain ⟨h1, h2⟩ := refAt_none h.lt
  exact ⟨hb, h1, ⟨fun x hx => (onTop_perm w.nd hb).mem_iff.mpr (h.sub x (List.mem_cons_of_mem _ hx)), h2, h.left⟩⟩
theorem RowTo.cons {qs : List (Str × Str)} {zs ws r : List Str} {b : Str} (w : Wl zs ws qs) (hb : b ∈ zs) (hl : lets qs zs b = true) (h : RowTo qs (onTop b zs) ws r) : RowTo qs zs ws (b :: r) := by
  have h1 : RowTo qs zs (onTop b zs) [b] := ⟨fun x hx => by rw [List.mem_singleton.mp hx]; exact hb, by simp [refAt, hl], rfl⟩
  exact h1.app h w.nd
/-- the books with which a shortest row begins -/
noncomputable def nxt (qs : List (Str × Str)) (ws zs : List Str) : List Str := (srt (zs.filter (lets qs zs))).filter fun b => ld (onTop b zs) ws qs && decide (fw (onTop b zs) ws qs = fw zs ws qs - 1)
theorem nxt_mem {qs : List (Str × Str)} {ws zs : List Str} {b : Str} : b ∈ nxt qs ws zs ↔ b ∈ zs ∧ lets qs zs b = true ∧ ld (onTop b zs) ws qs = true ∧ fw (onTop b zs) ws qs = fw zs ws qs - 1 := by
  unfold nxt
  rw [List.mem_filter, (srt_perm _).mem_iff, List.mem_filter, Bool.and_eq_true, decide_eq_true_iff, and_assoc]
theorem nxt_some {qs : List (Str × Str)} {ws zs : List Str} (w : Wl zs ws qs) (h : ld zs ws qs = true) (e : nxt qs ws zs = []) : fw zs ws qs = 0 := by
  obtain ⟨row, hr, el⟩ := fw_row w h
  cases row with
  | nil => exact el.symm
  | cons b r =>
    obtain ⟨hb, hl, ht⟩ := hr.tail w
    have wt := w.top hb
    have hd := ht.ld wt.nd wt.cl
    have h1 := fw_le wt ht
    obtain ⟨r2, hr2, el2⟩ := fw_row wt hd
    have h2 := fw_le w (RowTo.cons w hb hl hr2)
    rw [List.length_cons] at el h2
    have : b ∈ nxt qs ws zs := nxt_mem.mpr ⟨hb, hl, hd, by omega⟩
    rw [e] at this
    cases this
theorem nxt_nil {qs : List (Str × Str)} {ws zs : List Str} (w : Wl zs ws qs) (e : fw zs ws qs = 0) : nxt qs ws zs = [] := by
  cases hn : nxt qs ws zs with
  | nil => rfl
  | cons b t =>
    obtain ⟨hb, _, hd, h2⟩ := nxt_mem.mp (show b ∈ nxt qs ws zs by rw [hn]; exact List.mem_cons_self)
    have := fw_nn (w.top hb) hd
    omega
/-- the row that takes the first of these each time -/
def FRow (qs : List (Str × Str)) (ws : List Str) : List Str → List Str → Prop
  | zs, [] => nxt qs ws zs = []
  | zs, b :: r => (∃ t, nxt qs ws zs = b :: t) ∧ FRow qs ws (onTop b zs) r
theorem FRow.one {qs : List (Str × Str)} {ws : List Str} : ∀ {zs a b : List Str}, FRow qs ws zs a → FRow qs ws zs b → a = b
  | _, [], [], _, _ => rfl
  | zs, [], b :: r, h1, ⟨⟨t, h2⟩, _⟩ => by
    have h1 : nxt qs ws zs = [] := h1
    rw [h1] at h2
    cases h2
  | zs, b :: r, [], ⟨⟨t, h2⟩, _⟩, h1 => by
    have h1 : nxt qs ws zs = [] := h1
    rw [h1] at h2
    cases h2
  | zs, a :: r, b :: r2, ⟨⟨t, h1⟩, h2⟩, ⟨⟨t2, h3⟩, h4⟩ => by
    rw [h1] at h3
    injection h3 with h3 h5
    subst h3
    rw [FRow.one h2 h4]
theorem FRow.to {qs : List (Str × Str)} {ws : List Str} : ∀ {row zs : List Str}, Wl zs ws qs → ld zs ws qs = true → FRow qs ws zs row → RowTo qs zs ws row ∧ ((row.length : Nat) : Int) = fw zs ws qs
  | [], zs, w, hd, h => by
    have h0 := nxt_some w hd h
    have := fw_zero w hd h0
    subst this
    exact ⟨⟨(fun b hb => nomatch hb), rfl, rfl⟩, h0.symm⟩
  | b :: r, zs, w, hd, ⟨⟨t, h1⟩, h2⟩ => by
    obtain ⟨hb, hl, hd2, hf⟩ := nxt_mem.mp (show b ∈ nxt qs ws zs by rw [h1]; exact List.mem_cons_self)
    obtain ⟨k1, k2⟩ := FRow.to (w.top hb) hd2 h2
    refine ⟨RowTo.cons w hb hl k1, ?_⟩
    rw [List.length_cons]
    omega
/-- along such a row -/
theorem FRow.drop {qs : List (Str × Str)} {ws : List Str} : ∀ {a b zs : List Str}, FRow qs ws zs (a ++ b) → FRow qs ws (lefts zs a) b
  | [], _, _, h => h
  | x :: r, b, zs, ⟨_, h⟩ => FRow.drop (a := r) h
theorem FRow.back {qs : List (Str × Str)} {ws : List Str} : ∀ {a b zs : List Str}, FRow qs ws zs (a ++ b) → Wl zs ws qs → ld zs ws qs = true → Wl (lefts zs a) ws qs ∧ ld (lefts zs a) ws qs = true
  | [], _, _, _, w, hd => ⟨w, hd⟩
  | x :: r, b, zs, ⟨⟨t, h1⟩, h2⟩, w, hd => by
    obtain ⟨hb, hl, hd2, hf⟩ := nxt_mem.mp (show x ∈ nxt qs ws zs by rw [h1]; exact List.mem_cons_self)
    exact FRow.back (a := r) h2 (w.top hb) hd2
end HF
namespace HF
open PySem PySem.Spec PyProof.Rows L2
def HsB (H : Hp) (S : Addr) (es : List HE) : Prop := H S = some (.lst ((es.map (·.t)).map V.ref)) ∧ ∀ e ∈ es, H e.t = some (.tup [.ref e.h, .ref e.a]) ∧ Tp H e.h (e.zs.map V.str) ∧ H e.a = some (.lst (e.row.map V.str)) ∧ e.a ≠ S
theorem HsB.same {H H' : Hp} {S : Addr} {es : List HE} (h : HsB H S es) (s : Same H H') : HsB H' S es := ⟨s _ _ h.1, fun e he => ⟨s _ _ (h.2 e he).1, tpS (h.2 e he).2.1 s, s _ _ (h.2 e he).2.2.1, (h.2 e he).2.2.2⟩⟩
theorem bx_tp2 {H : Hp} {p F : Addr} {c : Int} {xs : List V} (hb : Bx H p c) (h : H F = some (.tup xs)) : F ≠ p := fun e => by
  obtain ⟨a, b, e1, _⟩ := hb
  rw [e, e1] at h
  exact nomatch h
theorem HsB.oth {H H' : Hp} {S p : Addr} {c : Int} {es : List HE} (h : HsB H S es) (o : Oth p H H') (hb : Bx H p c) : HsB H' S es :=
  ⟨o _ _ h.1 (bx_refs hb h.1), fun e he => ⟨o _ _ (h.2 e he).1 (bx_tp2 hb (h.2 e he).1), (h.2 e he).2.1.oth o ((h.2 e he).2.1.ne hb), o _ _ (h.2 e he).2.2.1 (bx_strs hb (h.2 e he).2.2.1), (h.2 e he).2.2.2⟩⟩
theorem HsB.push {H : Hp} {S : Addr} {es : List HE} {e : HE} (h : HsB H S es) (h1 : H e.t = some (.tup [.ref e.h, .ref e.a])) (h2 : Tp H e.h (e.zs.map V.str)) (h3 : H e.a = some (.lst (e.row.map V.str))) (h4 : e.a ≠ S) : HsB (upd H S (.lst ((es.map (·.t)).map V.ref ++ [.ref e.t]))) S (es ++ [e]) := by
  refine ⟨by rw [upd_same, List.map_append, List.map_append]; rfl, fun e2 he => ?_⟩
  have hh : H e2.t = some (.tup [.ref e2.h, .ref e2.a]) ∧ Tp H e2.h (e2.zs.map V.str) ∧ H e2.a = some (.lst (e2.row.map V.str)) ∧ e2.a ≠ S := by
    rcases List.mem_append.mp he with he | he
    · exact h.2 e2 he
    · rw [List.mem_singleton.mp he]
      exact ⟨h1, h2, h3, h4⟩
  obtain ⟨k1, ⟨ob, k2, k3⟩, k4, k5⟩ := hh
  exact ⟨keep_l h.1 k1 (fun _ z => nomatch z), ⟨ob, keep_l h.1 k2 (fun _ z => nomatch z), k3⟩, by rw [upd_ne k5]; exact k4, k5⟩
theorem HsB.hst {K : PySem.W.Frag} {H : Hp} {S : Addr} {es : List HE} (h : HsB H S es) : Hst K H S es := by
  refine ⟨.inl (.inl (.inl ?_)), fun e he => ⟨.inr (.inl (.inl (h.2 e he).1)), .inr (h.2 e he).2.1, .inl (.inl (.inl (h.2 e he).2.2.1))⟩⟩
  have := h.1
  rw [List.map_map] at this
  exact this
theorem Ties.perm {zs ys : List Str} {H : Hp} {r : Addr} {L : SL} (h : Ties zs H r L) (pm : ys.Perm zs) : Ties ys H r L := by
  obtain ⟨k1, k2, k3⟩ := h
  refine ⟨k1, fun p hp => ⟨(k2 p hp).1, ?_⟩, k3⟩
  obtain ⟨u, v, e1, e2, e3, e4⟩ := (k2 p hp).2
  exact ⟨u, v, e1, pm.mem_iff.mpr e2, pm.mem_iff.mpr e3, e4⟩
theorem rfs_refs (ps : List TPr) : rfs ps = (ps.map (·.1)).map V.ref := by
  unfold rfs
  rw [List.map_map]
  rfl
theorem tpPq {K : PySem.W.Frag} {H : Hp} {t : Addr} {ps : List TPr} (h : Tp H t (rfs ps)) (hp : ∀ p ∈ ps, AtT H p) : PqT K H t (ps.map (·.2)) := by
  refine ⟨ps.map (·.1), by rw [← rfs_refs]; exact h.sq, by rw [List.length_map, List.length_map], fun i a q e f => ?_⟩
  rw [List.getElem?_map] at e f
  obtain ⟨p, e1, rfl⟩ := Option.map_eq_some_iff.mp e
  rw [e1] at f
  cases f
  exact .inl (.inl (hp p (List.mem_of_getElem? e1)))
theorem LPs.oth {H H' : Hp} {l p : Addr} {c : Int} {ps : List TPr} (h : LPs H l ps) (o : Oth p H H') (hb : Bx H p c) : LPs H' l ps := by
  refine ⟨o _ _ h.1 (by have := h.1; rw [rfs_refs] at this; exact bx_refs hb this), fun q hq => o _ _ (h.2 q hq) (bx_tp2 hb (h.2 q hq))⟩
end HF
/-! set(a tuple of pairs), sorted(a list of pairs of texts) -/
namespace HF
open PySem PySem.Spec PyProof.Rows L2
section
variable {P : Program} {w : World} {A : Around} {E : Value → Shared → Prop} {s : Shared}
theorem call_set_tp {l : Addr} {items : Array Value} (ks : SL) {Q : Value → Shared → Prop} (hh : A.handled = none) (hl : s.heap.IsTuple l items) (hit : items.toList = ks.map fun p => Value.ref p.1)
    (tups : ∀ p ∈ ks, IsS P w s.heap p.2 p.1) (few : ks.length ≤ 306) (hu : A.units + 3 < cLine)
    (hQ : ∀ (h' : Heap) (tk : Nat) L es ep t, SR P w h' s.heap.objs.size L es ep t → Gt ks ks.length L → (∀ b o, s.heap.get? b = some o → h'.get? b = some o) → Q (.ref s.heap.objs.size) { s with heap := h', toks := tk }) :
    wpAny (model P w) A (call (.type "set") [.ref l]) Q E s := by
  have many : items.size = ks.length := by
    have q := congrArg List.length hit
    rw [Array.length_toList, List.length_map] at q
    exact q
  obtain ⟨c, tl, hmro⟩ := F.called_set.mro
  have hmade := F.called_set.made
  have hsub := F.called_set.sub
  refine wpAny_call (codeAny_of_tree ?_)
  show wpAny _ _ (callAny (.type "set") _) _ _ _
  refine wpAny_pure ⟨Code.quiet_builtin _ (by decide +kernel), codeAny_builtin F.entry_type_call ?_⟩
  rw [Around.under_plain (weight_type_call_type "set" [.ref l] []) rfl]
  have h1 := F.called_set.notType
  have h2 := F.called_set.canCreate
  have hct := F.typeCall_set_1 (.ref l)
  repeat (any_goals (first | assumption | wp_step))
  refine codeAny_mono (code_set_led1 (.ref l) (E := E) (Q₁ := fun obj s₁ => obj = .ref s.heap.objs.size ∧ s₁ = { s with heap := s.heap.push (bareSet w) }) ⟨rfl, rfl⟩) fun r s₁ hr => ?_
  cases r with
  | error e => exact hr
  | ok fl =>
    cases fl with
    | ret obj =>
      obtain ⟨rfl, rfl⟩ := hr
      have atS : (s.heap.push (bareSet w)).get? s.heap.objs.size = some (bareSet w) := Heap.get?_push_size _ rfl
      have hT : Shared.TypeIs { s with heap := s.heap.push (bareSet w) } (.ref s.heap.objs.size) "set" := ⟨_, atS, rfl⟩
      have hli := F.called_set.init.lookup
      have hbi := F.called_set.init.bind (.ref s.heap.objs.size)
      repeat (any_goals (first | assumption | wp_step))
      refine codeAny_mono (codeAny_call_builtin (R := wants (fun r s₂ => r = .none ∧ ∃ h' tk L es ep t, s₂ = { s with heap := h', toks := tk } ∧ SR P w h' s.heap.objs.size L es ep t ∧ Gt ks ks.length L ∧ (∀ b o, s.heap.get? b = some o → h'.get? b = some o)) E) F.called_set.init.plain F.entry_set_init (check_set_init_1 hT ?_)) fun r₂ s₂ hr₂ => ?_
      · obtain ⟨⟨ocls, odict, odata, oslots⟩, hol, hcl, nl, hdl⟩ := hl
        simp only at hcl hdl
        subst hcl hdl
        have hol1 : (s.heap.push (bareSet w)).get? l = some { cls := .type "tuple", dict := odict, data := .seq items nl, slots := oslots } := Heap.get?_push_of_some _ hol
        have hsls := F.sub_tuple_set
        have hslf := F.sub_tuple_frozenset
        have hne : (Value.type "tuple" == Value.type "dict") = false := by decide
        have hl1 : (s.heap.push (bareSet w)).IsTuple l items := ⟨_, hol1, rfl, nl, rfl⟩
        unfold Builtin.«set.__init__» noKeywords Builtin.Frozenset.updateFrom
        generalize hPI : pyIter = PI
        wp_walk
        subst hPI
        refine wpAny_pyIter_tuple hl1 (wpAny_bind (wpAny_runValue ?_))
        have ltl : l < s.heap.objs.size := Heap.lt_size hol
        have sz1 : (s.heap.push (bareSet w)).objs.size = s.heap.objs.size + 1 := Heap.size_push ..
        have hval : ∀ (i : Nat) (v : Value), items[i]? = some v → ∃ p, ks[i]? = some p ∧ v = .ref p.1 := fun i v hv => by
          have q : items.toList[i]? = some v := by
            rw [Array.getElem?_toList]
            exact hv
          rw [hit, List.getElem?_map] at q
          obtain ⟨p, hp, e⟩ := Option.map_eq_some_iff.mp q
          exact ⟨p, hp, e.symm⟩
        have beyond : ∀ b, s.heap.objs.size ≤ b → s.heap.get? b = none := fun b hb => by
          cases q : s.heap.get? b with
          | none => rfl
          | some o => exact absurd (Nat.lt_of_lt_of_le (Heap.lt_size q) hb) (Nat.lt_irrefl _)
        refine update_s ((Walks.tuple (by simp [hh]) _ l (by rw [sz1]; exact Nat.ne_of_lt (Nat.lt_succ_of_lt ltl)) items).toS) s.heap.objs.size
          (by rw [sz1]; simp only [List.mem_cons, List.not_mem_nil, or_false, not_or]; exact ⟨Nat.ne_of_lt (Nat.lt_succ_self _), Nat.ne_of_gt ltl⟩) ks many few hval s.heap tups (beyond _ (Nat.le_refl _))
          (fun b hb => beyond b (by rw [List.mem_singleton.mp hb, sz1]; exact Nat.le_succ _)) hu (items.size - 0) 0 _ (by omega) (Nat.zero_le _)
          ⟨⟨_, Heap.get?_push_size _ rfl, rfl, rfl⟩, (hl1.push _)⟩ (fun b o e => Heap.get?_push_of_some _ (Heap.get?_push_of_some _ e)) ?hS0 ?hR
        case hS0 =>
          exact ⟨[], #[], 0, _, SR.bare (Heap.get?_push_of_some _ atS), Gt.none ks⟩
        case hR =>
          rintro ⟨h', g2, d', tk', os'⟩ L es ep t mv hS' g' kp
          have eg : g2 = s.gens := mv.gens
          have ed : d' = s.drawn := mv.drawn
          have eo : os' = s.os := mv.os
          subst eg ed eo
          show wpAny _ _ _ _ _ _
          refine wpAny_pure ?_
          show wpAny _ _ (ret Value.none) _ _ _
          rw [many] at g'
          exact wpAny_pure ⟨rfl, h', tk', L, es, ep, t, rfl, hS', g', kp⟩
      · cases r₂ with
        | error e => exact hr₂
        | ok fl₂ =>
          cases fl₂ with
          | ret r =>
            obtain ⟨rfl, h', tk, L, es, ep, t, rfl, hS', g', kp⟩ := hr₂
            repeat (any_goals (first | assumption | wp_step))
            exact hQ _ _ _ _ _ _ hS' g' kp
          | _ => exact hr₂.elim
    | _ => exact hr.elim
end
section
variable {X : Cx}
/-- set(xs), xs a tuple of tuples of texts -/
def rSetT (K : PySem.W.Frag) (P : Program) (w : World) : List V → Hp → VK → Prop := fun us H Q => ∃ (l : Addr) (ks : SL), us = [V.ref l] ∧ SqT K H l (ks.map fun p => V.ref p.1) ∧ (∀ p ∈ ks, SqT K H p.1 (p.2.map V.str)) ∧ ks.length ≤ 306 ∧
  ∀ a L, H a = none → (∀ p ∈ L, p ∈ ks) → (∀ p ∈ ks, p.2 ∈ L.map (·.2)) → (L.map (·.2)).Nodup → L.length ≤ ks.length → Q (.ref a) (upd H a (SetO P w a L))
theorem cr_setT (hc : X.calm = true) (hu : X.A.units + 64 < cLine) : CallR X (.type "set") (rSetT X.K X.prog X.w) := by
  intro pins st σ H us ws Q I rel hyp
  obtain ⟨l, ks, rfl, hl, ht, few, q⟩ := hyp
  rw [Vals.ref1 rel]
  obtain ⟨its, rv, pl, hz⟩ := I.tuple hl
  refine call_set_tp (P := X.prog) (w := X.w) ks (I.ok.hd hc) pl (by simpa using refs_vals rv) (fun p hp => isS_of I (ht p hp)) few (by omega) fun h1 tk L es ep t R g kp => ?_
  exact ⟨.ref st.heap.objs.size, _, I.laid (t' := tk) kp (Nat.le_refl _) (SetO.new R.s0), rfl, q _ L (I.hok.fresh (Nat.le_refl _)) (fun p hp => List.mem_of_mem_take (g.sub p hp)) (fun p hp => g.all p (by rw [List.take_length]; exact hp)) R.nd g.few⟩
abbrev encP (p : TPr) : PyData := .tuple [.str p.2.1, .str p.2.2]
theorem alike_P (L : List TPr) : PySem.W.AllAlike (L.map encP) := fun x hx y hy => by
  obtain ⟨a, _, rfl⟩ := List.mem_map.mp hx
  obtain ⟨b, _, rfl⟩ := List.mem_map.mp hy
  rfl
theorem sortable_P (L : List TPr) : PySem.W.Sortable (L.map encP) := .inl fun x hx => by
  obtain ⟨a, _, rfl⟩ := List.mem_map.mp hx
  exact ⟨_, _, rfl⟩
theorem str_same {a b : Str} (h : a.cps.toList = b.cps.toList) : a = b := by
  cases a with
  | mk x => cases b with
    | mk y =>
      have : x = y := Array.toList_inj.mp h
      rw [this]
theorem str_le_of {x y : Str} (h : (!PySem.W.dataLt (.str y) (.str x)) = true) : x.cps.toList ≤ y.cps.toList := by
  rw [PySem.W.dataLt_str, PySem.W.not_lt_str] at h
  exact of_decide_eq_true h
/-- rising, maybe alike -/
def leP (p q : Str × Str) : Prop := p.1.cps.toList < q.1.cps.toList ∨ (p.1 = q.1 ∧ p.2.cps.toList ≤ q.2.cps.toList)
theorem le_P {p q : TPr} (h : PySem.W.dataLe false encP p q = true) : leP p.2 q.2 := by
  have h1 : (!PySem.W.dataLt (encP q) (encP p)) = true := h
  rw [PySem.W.dataLt_pair (by rfl) (by rfl)] at h1
  by_cases e : PyData.eqv (.str q.2.1) (.str p.2.1) = true
  · have e2 : q.2.1 = p.2.1 := by
      have : (q.2.1 == p.2.1) = true := e
      exact eq_of_beq this
    rw [if_pos e] at h1
    refine .inr ⟨e2.symm, ?_⟩
    by_cases e3 : PyData.eqv (.str q.2.2) (.str p.2.2) = true
    · have e4 : q.2.2 = p.2.2 := by
        have : (q.2.2 == p.2.2) = true := e3
        exact eq_of_beq this
      rw [e4]
      exact List.le_refl _
    · rw [if_neg e3] at h1
      exact str_le_of h1
  · rw [if_neg e] at h1
    have h2 := str_le_of h1
    rcases Decidable.em (p.2.1.cps.toList < q.2.1.cps.toList) with hl | hl
    · exact .inl hl
    · exfalso
      have h3 : q.2.1.cps.toList ≤ p.2.1.cps.toList := List.not_lt.mp hl
      have h4 : p.2.1.cps.toList = q.2.1.cps.toList := List.le_antisymm h2 h3
      refine e ?_
      have : q.2.1 = p.2.1 := str_same h4.symm
      rw [this]
      show (p.2.1 == p.2.1) = true
      exact beq_self_eq_true _
theorem each_P : ∀ (L : List TPr), PySem.W.EachIs (fun v (p : TPr) => v = Value.ref p.1) (L.map fun p => Value.ref p.1) L
  | [] => .nil
  | p :: r => .cons rfl (each_P r)
theorem eachP_out : ∀ {out : List Value} {L : List TPr}, PySem.W.EachIs (fun v (p : TPr) => v = Value.ref p.1) out L → out = L.map fun p => Value.ref p.1
  | _, _, .nil => rfl
  | _, _, .cons h t => by rw [h, eachP_out t]; rfl
theorem valsP : ∀ (L : List TPr), Vals (rfs L) (L.map fun p => Value.ref p.1)
  | [] => .nil
  | p :: ks => .cons rfl (valsP ks)
theorem refsP : ∀ {L : List TPr} {us : List Value}, Vals (rfs L) us → us = L.map fun p => Value.ref p.1
  | [], _, .nil => rfl
  | p :: ks, _, .cons r t => by
    cases r
    rw [refsP t]
    rfl
theorem eachP_reads {pins : List (Addr × Obj)} {σ : L2.St} {H : Hp} {s : Shared} (I : Inv X pins σ H s) : ∀ {L : List TPr}, (∀ p ∈ L, AtT H p) → PySem.W.EachIs (fun v p => ∃ as, Reads s.heap v (encP p) as) (L.map fun p => Value.ref p.1) L
  | [], _ => .nil
  | p :: r, h => .cons (Dp.reads I (encP p) (.ref p.1) (.ref p.1) (AtT.dp (h p List.mem_cons_self)) rfl) (eachP_reads I fun q hq => h q (List.mem_cons_of_mem _ hq))
/-- sorted(l), l a list of pairs of texts -/
def rSortP2 (K : PySem.W.Frag) : List V → Hp → VK → Prop := fun us H Q => ∃ (l : Addr) (L : List TPr), us = [V.ref l] ∧ LPs H l L ∧ L.length ≤ 1000 ∧
  ∀ (L' : List TPr) (p : Addr), L'.Perm L → (L'.map (·.2)).Pairwise leP → H p = none → Q (.ref p) (upd H p (.lst (rfs L')))
theorem cr_sortP2 (hu : X.A.units + 64 < cLine) : CallR X (.builtin "sorted") (rSortP2 X.K) := by
  intro pins st σ H us ws Q I rel hyp
  obtain ⟨l, L, rfl, ⟨hl0, hat⟩, few, q⟩ := hyp
  have hl : SqL X.K H l (rfs L) := .inl (.inl hl0)
  rw [Vals.ref1 rel]
  obtain ⟨its, rv, pl, hz⟩ := I.list hl
  have e := refsP rv
  subst e
  refine PySem.W.sorted_data (enc := encP) (bs := L) pl.isList (each_P L) (eachP_reads I hat) (alike_P L) (sortable_P L) (by rw [sizeLine_eq]; omega) (fun b _ => by show X.A.units + 2 + 1 < cLine; omega) fun out hout eo => ?_
  obtain ⟨ep, he⟩ := PyProof.Rows.sortedAll_at st.heap (L.map fun p => Value.ref p.1) (List.toArray out)
  have pm := List.mergeSort_perm L (PySem.W.dataLe false encP)
  have hz2 : (rfs (L.mergeSort (PySem.W.dataLe false encP))).length ≤ sizeLine := by
    rw [rfs_len, pm.length_eq, sizeLine_eq]
    omega
  have hv : Vals (rfs (L.mergeSort (PySem.W.dataLe false encP))) out := by
    rw [eachP_out eo]
    exact valsP _
  refine ⟨.ref _, _, I.laid (t' := st.toks) (o := .lst (rfs (L.mergeSort (PySem.W.dataLe false encP)))) (fun _ _ => PyProof.Rows.sortedAll_old) (Nat.le_succ _) ⟨hz2, out, ep, hv, he⟩, rfl, q _ _ pm ?_ (I.hok.fresh (Nat.le_succ _))⟩
  exact List.pairwise_map.mpr ((PySem.W.sort_pairwise (PySem.W.sortLe_total (PyProof.Rows.listOrd PyProof.Rows.itemOrd) false fun b : TPr => PySem.W.keyToks (encP b)) L).imp fun h => le_P h)
end
/-- two rising lists of the same pairs are one -/
theorem leP_anti {p q : Str × Str} (h1 : leP p q) (h2 : leP q p) : p = q := by
  have lt_irr : ∀ {a : List Nat}, ¬ a < a := fun {a} => List.lt_irrefl a
  rcases h1 with h1 | ⟨e1, h1⟩
  · rcases h2 with h2 | ⟨e2, _⟩
    · exact absurd (List.lt_trans h1 h2) lt_irr
    · rw [e2] at h1
      exact absurd h1 lt_irr
  · rcases h2 with h2 | ⟨_, h2⟩
    · rw [e1] at h2
      exact absurd h2 lt_irr
    · have h4 := List.le_antisymm h1 h2
      have : p.2 = q.2 := str_same h4
      exact Prod.ext e1 this
theorem leP_one {xs ys : List (Str × Str)} (pm : xs.Perm ys) (h1 : xs.Pairwise leP) (h2 : ys.Pairwise leP) : xs = ys :=
  pm.eq_of_pairwise (fun a b _ _ => leP_anti) h1 h2
theorem ltP_le {p q : Str × Str} (h : ltP p q) : leP p q := by
  rcases h with h | ⟨e, h⟩
  · exact .inl h
  · exact .inr ⟨e, List.le_of_lt h⟩
end HF
/-! friends both ways -/
namespace HF
open PySem PySem.Spec PyProof.Rows L2
def Sym (qs : List (Str × Str)) : Prop := ∀ q ∈ qs, (q.2, q.1) ∈ qs
theorem Ch.rev {qs : List (Str × Str)} (hs : Sym qs) : ∀ {l : List Str}, Ch qs l → Ch qs l.reverse
  | [], _ => trivial
  | [a], _ => trivial
  | a :: b :: r, h => by
    have ih := Ch.rev hs (l := b :: r) h.2
    rw [List.reverse_cons, List.reverse_cons, List.append_assoc]
    rw [List.reverse_cons] at ih
    exact Ch.app (u := r.reverse) (x := b) (v := [a]) ih ⟨hs (a, b) h.1, trivial⟩
theorem Rng.rev {qs : List (Str × Str)} {zs ls : List Str} (hs : Sym qs) (h : Rng qs zs ls) : Rng qs zs ls.reverse := by
  obtain ⟨h1, h2, h3, h4⟩ := h
  cases ls with
  | nil => exact absurd h2 (by decide)
  | cons x r =>
    have h5 : Rng qs zs ([x] ++ r.reverse) := by
      have pm : ([x] ++ r.reverse).Perm (x :: r) := (List.reverse_perm r).cons x
      refine ⟨pm.nodup_iff.mpr h1, by rw [pm.length_eq]; exact h2, fun y hy => h3 y (pm.mem_iff.mp hy), ?_⟩
      have h6 := Ch.rev hs h4
      have e : ((x :: r) ++ (x :: r).take 1).reverse = ([x] ++ r.reverse) ++ ([x] ++ r.reverse).take 1 := by simp
      rwa [e] at h6
    rw [List.reverse_cons]
    exact h5.rot
theorem ld_sym1 {qs : List (Str × Str)} {zs ws : List Str} (hs : Sym qs) (nd : zs.Nodup) (pm : ws.Perm zs) (cl : ∀ q ∈ qs, q.2 ∈ zs ∧ q.1 ≠ q.2 ∧ q.1 ∈ zs) (h : ld zs ws qs = true) : ld ws zs qs = true := by
  have wnd := pm.nodup_iff.mpr nd
  have wcl : ∀ q ∈ qs, q.2 ∈ ws ∧ q.1 ≠ q.2 ∧ q.1 ∈ ws := fun q hq => ⟨pm.mem_iff.mpr (cl q hq).1, (cl q hq).2.1, pm.mem_iff.mpr (cl q hq).2.2⟩
  refine (ld_iff wnd wcl).mpr fun ls hr => ?_
  have hr2 : Rng qs zs ls := hr.perm pm.symm
  have h1 := (ld_iff nd cl).mp h ls.reverse (hr2.rev hs)
  have h2 := T_rev hr2.nd hr2.sub hr2.two
  have h3 := T_rev hr.nd hr.sub hr.two
  omega
theorem ld_sym {qs : List (Str × Str)} {zs ws : List Str} (hs : Sym qs) (nd : zs.Nodup) (pm : ws.Perm zs) (cl : ∀ q ∈ qs, q.2 ∈ zs ∧ q.1 ≠ q.2 ∧ q.1 ∈ zs) : ld zs ws qs = ld ws zs qs := by
  have wnd := pm.nodup_iff.mpr nd
  have wcl : ∀ q ∈ qs, q.2 ∈ ws ∧ q.1 ≠ q.2 ∧ q.1 ∈ ws := fun q hq => ⟨pm.mem_iff.mpr (cl q hq).1, (cl q hq).2.1, pm.mem_iff.mpr (cl q hq).2.2⟩
  rw [Bool.eq_iff_iff]
  exact ⟨ld_sym1 hs nd pm cl, ld_sym1 hs wnd pm.symm wcl⟩
theorem T_two {zs : List Str} {a b : Str} (ha : a ∈ zs) (hb : b ∈ zs) (ne : a ≠ b) : T zs [a, b] = 1 := by
  have h := T_rev (zs := zs) (ls := [a, b]) (by simp [ne]) (fun y hy => by
    rcases List.mem_cons.mp hy with rfl | hy
    · exact ha
    · rw [List.mem_singleton.mp hy]
      exact hb) (Nat.le_refl 2)
  have e1 : T zs [a, b] = uu zs a b + (uu zs b a + 0) := rfl
  have e2 : T zs [a, b].reverse = uu zs b a + (uu zs a b + 0) := rfl
  have e3 : [a, b].length = 2 := rfl
  omega
/-- rising, as the drawn ties are -/
theorem le_S {p q : Addr × List Str} {a b c d : Str} (e1 : p.2 = [a, b]) (e2 : q.2 = [c, d]) (h : PySem.W.dataLe false encS p q = true) : leP (a, b) (c, d) := by
  refine le_P (p := (p.1, (a, b))) (q := (q.1, (c, d))) ?_
  have h1 : (!PySem.W.dataLt (encS q) (encS p)) = true := h
  show (!PySem.W.dataLt (encP (q.1, (c, d))) (encP (p.1, (a, b)))) = true
  have f1 : encS p = encP (p.1, (a, b)) := by
    show PyData.tuple (p.2.map PyData.str) = _
    rw [e1]
    rfl
  have f2 : encS q = encP (q.1, (c, d)) := by
    show PyData.tuple (q.2.map PyData.str) = _
    rw [e2]
    rfl
  rw [← f1, ← f2]
  exact h1
theorem ties_le {zs : List Str} {L : SL} (hp : ∀ p ∈ L, OkP zs p) (h : L.Pairwise (fun p q => PySem.W.dataLe false encS p q = true)) : (L.map prOf).Pairwise leP := by
  rw [List.pairwise_map]
  refine List.Pairwise.imp_of_mem (fun {p q} hpm hqm hl => ?_) h
  obtain ⟨a, b, e1, _⟩ := hp p hpm
  obtain ⟨c, d, e2, _⟩ := hp q hqm
  have f1 : prOf p = (a, b) := by
    unfold prOf
    rw [e1]
  have f2 : prOf q = (c, d) := by
    unfold prOf
    rw [e2]
  rw [f1, f2]
  exact le_S e1 e2 hl
def swq (q : Str × Str) : Str × Str := (q.2, q.1)
/-- turned about, and rising, they are the same -/
theorem swq_same {qs ps : List (Str × Str)} (hs : Sym qs) (nd : qs.Nodup) (hq : qs.Pairwise leP) (pm : ps.Perm (qs.map swq)) (hp : ps.Pairwise leP) : ps = qs := by
  refine leP_one (pm.trans ?_) hp hq
  have inj : (qs.map swq).Nodup := List.pairwise_map.mpr (nd.imp fun {a b} h e => h (by
    unfold swq at e
    injection e with e1 e2
    exact Prod.ext e2 e1))
  refine (List.perm_ext_iff_of_nodup inj nd).mpr fun q => ⟨fun h => ?_, fun h => ?_⟩
  · obtain ⟨p, hp, rfl⟩ := List.mem_map.mp h
    exact hs p hp
  · exact List.mem_map.mpr ⟨(q.2, q.1), hs q h, rfl⟩
end HF
/-! heaps of some of the books: what leads, and how often they go -/
namespace HF
open PySem PySem.Spec PyProof.Rows L2
theorem uu_filter {p : Str → Bool} {a b : Str} (ha : p a = true) (hb : p b = true) (zs : List Str) : uu (zs.filter p) a b = uu zs a b := by
  have h := pos_filter hb ha zs
  have e2 : up (zs.filter p) (a, b) = up zs (a, b) := by
    unfold up
    rw [Bool.eq_iff_iff, decide_eq_true_iff, decide_eq_true_iff]
    show ((pos b (zs.filter p) : Nat) : Int) < ((pos a (zs.filter p) : Nat) : Int) ↔ ((pos b zs : Nat) : Int) < ((pos a zs : Nat) : Int)
    omega
  unfold uu
  rw [e2]
theorem C_filter {p : Str → Bool} {zs : List Str} : ∀ {l : List Str}, (∀ x ∈ l, p x = true) → C (zs.filter p) l = C zs l
  | [], _ => rfl
  | [a], _ => rfl
  | a :: c :: r, h => by
    show uu (zs.filter p) a c + C (zs.filter p) (c :: r) = uu zs a c + C zs (c :: r)
    rw [uu_filter (h a List.mem_cons_self) (h c (List.mem_cons_of_mem _ List.mem_cons_self)), C_filter fun x hx => h x (List.mem_cons_of_mem _ hx)]
theorem T_filter {p : Str → Bool} {zs ls : List Str} (h : ∀ x ∈ ls, p x = true) : T (zs.filter p) ls = T zs ls :=
  C_filter fun x hx => by
    rcases List.mem_append.mp hx with hx | hx
    · exact h x hx
    · exact h x (List.mem_of_mem_take hx)
theorem gn_filter {p : Str → Bool} {zs ws : List Str} {q : Str × Str} (h1 : p q.1 = true) (h2 : p q.2 = true) : gn (zs.filter p) (ws.filter p) q = gn zs ws q := by
  show gn (zs.filter p) (ws.filter p) (q.1, q.2) = gn zs ws (q.1, q.2)
  rw [gn_uu, gn_uu, uu_filter h1 h2, uu_filter h1 h2]
theorem drop_step (f : Nat → Nat) : ∀ d i, f (i + d) < f i → ∃ m, i ≤ m ∧ m < i + d ∧ f (m + 1) < f m
  | 0, i, h => absurd h (Nat.lt_irrefl _)
  | d + 1, i, h => by
    by_cases e : f (i + d) < f i
    · obtain ⟨m, h1, h2, h3⟩ := drop_step f d i e
      exact ⟨m, h1, by omega, h3⟩
    · exact ⟨i + d, by omega, by omega, by
        have : f (i + d + 1) < f i := h
        omega⟩
theorem Sol.filter {zs ws : List Str} {qs rs : List (Str × Str)} {g : Str → Int} {p : Str → Bool} (h : Sol zs ws qs g) (wnd : ws.Nodup) (hr : ∀ q ∈ rs, q ∈ qs ∧ p q.1 = true ∧ p q.2 = true) : Sol (zs.filter p) (ws.filter p) rs g := by
  refine ⟨h.nn, fun i x hx hf j y hj hy => ?_, fun q hq h0 => ?_⟩
  · have fnd : (ws.filter p).Nodup := wnd.filter _
    have mx := List.mem_filter.mp (List.mem_of_getElem? hx)
    have my := List.mem_filter.mp (List.mem_of_getElem? hy)
    have px := pos_at fnd hx
    have py := pos_at fnd hy
    have hle : pos y ws ≤ pos x ws := by
      have := pos_filter mx.2 my.2 ws
      omega
    rcases hf with h0 | ⟨z, hz, hlt⟩
    · exact h.up (pos x ws) x (pos_get mx.1) (.inl h0) (pos y ws) y hle (pos_get my.1)
    · have mz := List.mem_filter.mp (List.mem_of_getElem? hz)
      have pz := pos_at fnd hz
      have h1 : pos x ws < pos z ws := (pos_filter mx.2 mz.2 ws).mp (by omega)
      have h2 : pos z zs < pos x zs := (pos_filter mz.2 mx.2 zs).mp hlt
      have hzl := pos_lt mz.1
      obtain ⟨m, m1, m2, m3⟩ := drop_step (fun k => match ws[k]? with | some u => pos u zs | none => 0) (pos z ws - pos x ws) (pos x ws) (by
        have e : pos x ws + (pos z ws - pos x ws) = pos z ws := by omega
        rw [e, pos_get mz.1, pos_get mx.1]
        exact h2)
      have hm : ws[m]? = some ws[m] := List.getElem?_eq_getElem (by omega)
      have hm1 : ws[m + 1]? = some ws[m + 1] := List.getElem?_eq_getElem (by omega)
      rw [hm, hm1] at m3
      exact h.up m _ hm (.inr ⟨_, hm1, m3⟩) (pos y ws) y (by omega) (pos_get my.1)
  · obtain ⟨k1, k2, k3⟩ := hr q hq
    rw [gn_filter k2 k3]
    exact h.ed q k1 h0
theorem Ch.mono {qs rs : List (Str × Str)} (h : ∀ q ∈ rs, q ∈ qs) : ∀ {l : List Str}, Ch rs l → Ch qs l
  | [], _ => trivial
  | [a], _ => trivial
  | a :: b :: r, k => ⟨h _ k.1, Ch.mono h (l := b :: r) k.2⟩
theorem cl_filter {zs : List Str} {qs rs : List (Str × Str)} {p : Str → Bool} (cl : ∀ q ∈ qs, q.2 ∈ zs ∧ q.1 ≠ q.2 ∧ q.1 ∈ zs) (hr : ∀ q ∈ rs, q ∈ qs ∧ p q.1 = true ∧ p q.2 = true) : ∀ q ∈ rs, q.2 ∈ zs.filter p ∧ q.1 ≠ q.2 ∧ q.1 ∈ zs.filter p := fun q hq => by
  obtain ⟨k1, k2, k3⟩ := hr q hq
  exact ⟨List.mem_filter.mpr ⟨(cl q k1).1, k3⟩, (cl q k1).2.1, List.mem_filter.mpr ⟨(cl q k1).2.2, k2⟩⟩
theorem ld_filter {zs ws : List Str} {qs rs : List (Str × Str)} {p : Str → Bool} (nd : zs.Nodup) (cl : ∀ q ∈ qs, q.2 ∈ zs ∧ q.1 ≠ q.2 ∧ q.1 ∈ zs) (hr : ∀ q ∈ rs, q ∈ qs ∧ p q.1 = true ∧ p q.2 = true) (h : ld zs ws qs = true) : ld (zs.filter p) (ws.filter p) rs = true := by
  refine (ld_iff (nd.filter _) (cl_filter cl hr)).mpr fun ls g => ?_
  have hp : ∀ x ∈ ls, p x = true := fun x hx => (List.mem_filter.mp (g.sub x hx)).2
  have g2 : Rng qs zs ls := ⟨g.nd, g.two, fun x hx => (List.mem_filter.mp (g.sub x hx)).1, Ch.mono (fun q hq => (hr q hq).1) g.ch⟩
  rw [T_filter hp, T_filter hp]
  exact (ld_iff nd cl).mp h ls g2
theorem Ch.part {qs q0 q1 : List (Str × Str)} {one two : List Str} (hq : ∀ q ∈ qs, q ∈ q0 ∨ q ∈ q1) (c0 : ∀ q ∈ q0, q.2 ∈ one ∧ q.1 ∈ one) (c1 : ∀ q ∈ q1, q.1 ∈ two) (dis : ∀ x ∈ one, x ∉ two) : ∀ {l : List Str} {a : Str}, a ∈ one → Ch qs (a :: l) → (∀ x ∈ a :: l, x ∈ one) ∧ Ch q0 (a :: l)
  | [], a, ha, _ => ⟨fun x hx => by rw [List.mem_singleton.mp hx]; exact ha, trivial⟩
  | b :: r, a, ha, k => by
    have k1 : (a, b) ∈ q0 := by
      rcases hq _ k.1 with h | h
      · exact h
      · exact absurd (c1 _ h) (dis a ha)
    obtain ⟨i1, i2⟩ := Ch.part hq c0 c1 dis (c0 _ k1).1 k.2
    refine ⟨fun x hx => ?_, k1, i2⟩
    rcases List.mem_cons.mp hx with rfl | hx
    · exact ha
    · exact i1 x hx
/-- two heaps without a book in common, with their ties -/
structure Pt (one two : List Str) (q0 q1 qs : List (Str × Str)) : Prop where
  c0 : ∀ q ∈ q0, q.2 ∈ one ∧ q.1 ≠ q.2 ∧ q.1 ∈ one
  c1 : ∀ q ∈ q1, q.2 ∈ two ∧ q.1 ≠ q.2 ∧ q.1 ∈ two
  dis : ∀ x ∈ one, x ∉ two
  mem : ∀ q, q ∈ qs ↔ q ∈ q0 ∨ q ∈ q1
def inL (one : List Str) (x : Str) : Bool := decide (x ∈ one)
theorem Pt.cl {one two zs : List Str} {q0 q1 qs : List (Str × Str)} (h : Pt one two q0 q1 qs) (pm : zs.Perm (one ++ two)) : ∀ q ∈ qs, q.2 ∈ zs ∧ q.1 ≠ q.2 ∧ q.1 ∈ zs := fun q hq => by
  rw [pm.mem_iff, pm.mem_iff]
  rcases (h.mem q).mp hq with k | k
  · exact ⟨List.mem_append_left _ (h.c0 q k).1, (h.c0 q k).2.1, List.mem_append_left _ (h.c0 q k).2.2⟩
  · exact ⟨List.mem_append_right _ (h.c1 q k).1, (h.c1 q k).2.1, List.mem_append_right _ (h.c1 q k).2.2⟩
theorem Pt.r0 {one two : List Str} {q0 q1 qs : List (Str × Str)} (h : Pt one two q0 q1 qs) : ∀ q ∈ q0, q ∈ qs ∧ inL one q.1 = true ∧ inL one q.2 = true := fun q hq => ⟨(h.mem q).mpr (.inl hq), decide_eq_true (h.c0 q hq).2.2, decide_eq_true (h.c0 q hq).1⟩
theorem Pt.r1 {one two : List Str} {q0 q1 qs : List (Str × Str)} (h : Pt one two q0 q1 qs) : ∀ q ∈ q1, q ∈ qs ∧ inL two q.1 = true ∧ inL two q.2 = true := fun q hq => ⟨(h.mem q).mpr (.inr hq), decide_eq_true (h.c1 q hq).2.2, decide_eq_true (h.c1 q hq).1⟩
theorem ld_parts {one two zs ws : List Str} {q0 q1 qs : List (Str × Str)} (h : Pt one two q0 q1 qs) (nd : zs.Nodup) (pm : zs.Perm (one ++ two)) : ld zs ws qs = (ld (zs.filter (inL one)) (ws.filter (inL one)) q0 && ld (zs.filter (inL two)) (ws.filter (inL two)) q1) := by
  have cl := h.cl pm
  rw [Bool.eq_iff_iff, Bool.and_eq_true]
  refine ⟨fun k => ⟨ld_filter nd cl h.r0 k, ld_filter nd cl h.r1 k⟩, fun ⟨k0, k1⟩ => ?_⟩
  refine (ld_iff nd cl).mpr fun ls g => ?_
  have gt := g.two
  have gs := g.sub
  have gn := g.nd
  have gc := g.ch
  cases ls with
  | nil => exact absurd gt (by decide)
  | cons x r =>
    have e : (x :: r) ++ (x :: r).take 1 = x :: (r ++ [x]) := rfl
    rw [e] at gc
    have hx := pm.mem_iff.mp (gs x List.mem_cons_self)
    rcases List.mem_append.mp hx with hx | hx
    · obtain ⟨i1, i2⟩ := Ch.part (fun q hq => (h.mem q).mp hq) (fun q hq => ⟨(h.c0 q hq).1, (h.c0 q hq).2.2⟩) (fun q hq => (h.c1 q hq).2.2) h.dis hx gc
      have hp : ∀ y ∈ x :: r, y ∈ one := fun y hy => i1 y (by
        rcases List.mem_cons.mp hy with rfl | hy
        · exact List.mem_cons_self
        · exact List.mem_cons_of_mem _ (List.mem_append_left _ hy))
      have hp2 : ∀ y ∈ x :: r, inL one y = true := fun y hy => decide_eq_true (hp y hy)
      have := (ld_iff (nd.filter _) (cl_filter cl h.r0)).mp k0 (x :: r) ⟨gn, gt, fun y hy => List.mem_filter.mpr ⟨gs y hy, hp2 y hy⟩, i2⟩
      rwa [T_filter hp2, T_filter hp2] at this
    · obtain ⟨i1, i2⟩ := Ch.part (fun q hq => ((h.mem q).mp hq).symm) (fun q hq => ⟨(h.c1 q hq).1, (h.c1 q hq).2.2⟩) (fun q hq => (h.c0 q hq).2.2) (fun y hy hz => h.dis y hz hy) hx gc
      have hp : ∀ y ∈ x :: r, y ∈ two := fun y hy => i1 y (by
        rcases List.mem_cons.mp hy with rfl | hy
        · exact List.mem_cons_self
        · exact List.mem_cons_of_mem _ (List.mem_append_left _ hy))
      have hp2 : ∀ y ∈ x :: r, inL two y = true := fun y hy => decide_eq_true (hp y hy)
      have := (ld_iff (nd.filter _) (cl_filter cl h.r1)).mp k1 (x :: r) ⟨gn, gt, fun y hy => List.mem_filter.mpr ⟨gs y hy, hp2 y hy⟩, i2⟩
      rwa [T_filter hp2, T_filter hp2] at this
theorem filt_app {p : Str → Bool} {a b : List Str} (ha : ∀ x ∈ a, p x = true) (hb : ∀ x ∈ b, p x = false) : (a ++ b).filter p = a := by
  rw [List.filter_append, List.filter_eq_self.mpr ha, List.filter_eq_nil_iff.mpr (fun x hx => by rw [hb x hx]; decide), List.append_nil]
theorem filt_app2 {p : Str → Bool} {a b : List Str} (ha : ∀ x ∈ a, p x = false) (hb : ∀ x ∈ b, p x = true) : (a ++ b).filter p = b := by
  rw [List.filter_append, List.filter_eq_self.mpr hb, List.filter_eq_nil_iff.mpr (fun x hx => by rw [ha x hx]; decide), List.nil_append]
/-- with fewer books no more goings -/
theorem lst_filter {zs ws : List Str} {qs rs : List (Str × Str)} {g g' : Str → Int} {p : Str → Bool} (h : Lst zs ws qs g) (wnd : ws.Nodup) (hr : ∀ q ∈ rs, q ∈ qs ∧ p q.1 = true ∧ p q.2 = true) (h' : Lst (zs.filter p) (ws.filter p) rs g') : ∀ x, g' x ≤ g x :=
  h'.least _ (h.sol.filter wnd hr)
section
variable {one two f0 f1 : List Str} {q0 q1 qs : List (Str × Str)} {g g0 g1 : Str → Int}
/-- where a lower one goes, all upper ones go -/
theorem low_up (h : Pt one two q0 q1 qs) (nd : (one ++ two).Nodup) (p0 : f0.Perm one) (p1 : f1.Perm two) (hL : Lst (one ++ two) (f0 ++ f1) qs g) (h1 : Lst two f1 q1 g1) {b : Str} (hb : b ∈ two) (hg : 0 < g1 b) : ∀ y ∈ one, 1 ≤ g y := fun y hy => by
  have wpm : (f0 ++ f1).Perm (one ++ two) := p0.append p1
  have wnd : (f0 ++ f1).Nodup := wpm.nodup_iff.mpr nd
  have n0 : ∀ x ∈ one, inL two x = false := fun x hx => decide_eq_false (h.dis x hx)
  have n1 : ∀ x ∈ two, inL two x = true := fun x hx => decide_eq_true hx
  have e1 : (one ++ two).filter (inL two) = two := filt_app2 n0 n1
  have e2 : (f0 ++ f1).filter (inL two) = f1 := filt_app2 (fun x hx => n0 x (p0.mem_iff.mp hx)) (fun x hx => n1 x (p1.mem_iff.mp hx))
  have le := lst_filter hL wnd h.r1 (g' := g1) (by rw [e1, e2]; exact h1) b
  have hbf : b ∉ f0 := fun hz => h.dis b (p0.mem_iff.mp hz) hb
  have hbm : b ∈ f0 ++ f1 := List.mem_append_right _ (p1.mem_iff.mpr hb)
  have hym : y ∈ f0 := p0.mem_iff.mpr hy
  refine hL.sol.up (pos b (f0 ++ f1)) b (pos_get hbm) (.inl (by omega)) (pos y (f0 ++ f1)) y ?_ (pos_get (List.mem_append_left _ hym))
  rw [pos_app_in hym, pos_app_out hbf]
  have := pos_lt hym
  omega
/-- where none of the lower ones goes, the upper ones go as they do alone -/
theorem low_no (h : Pt one two q0 q1 qs) (nd : (one ++ two).Nodup) (p0 : f0.Perm one) (e1 : f1 = two) (h0 : Lst one f0 q0 g0) : Sol (one ++ two) (f0 ++ f1) qs (fun x => if x ∈ one then g0 x else 0) := by
  subst e1
  have nd0 : one.Nodup := (List.nodup_append.mp nd).1
  have nd1 : f1.Nodup := (List.nodup_append.mp nd).2.1
  have fnd : f0.Nodup := p0.nodup_iff.mpr nd0
  refine ⟨fun x => ?_, fun i x hx hf j y hj hy => ?_, fun q hq hp => ?_⟩
  · show 0 ≤ if x ∈ one then g0 x else 0
    split
    · exact h0.sol.nn x
    · exact Int.le_refl _
  · have hfl : f0.length = one.length := p0.length_eq
    have key : i < f0.length ∧ Fp one f0 g0 i x := by
      rcases hf with h0x | ⟨z, hz, hlt⟩
      · have h0x : 0 < if x ∈ one then g0 x else 0 := h0x
        by_cases hxo : x ∈ one
        · rw [if_pos hxo] at h0x
          have hxf := p0.mem_iff.mpr hxo
          have : i = pos x f0 := by
            have := pos_at (p0.append (.refl f1) |>.nodup_iff.mpr nd) hx
            rw [pos_app_in hxf] at this
            omega
          exact ⟨by rw [this]; exact pos_lt hxf, .inl h0x⟩
        · rw [if_neg hxo] at h0x
          exact absurd h0x (Int.lt_irrefl _)
      · by_cases hi : i + 1 < f0.length
        · rw [List.getElem?_append_left hi] at hz
          rw [List.getElem?_append_left (by omega)] at hx
          have hxo := p0.mem_iff.mp (List.mem_of_getElem? hx)
          have hzo := p0.mem_iff.mp (List.mem_of_getElem? hz)
          rw [pos_app_in hxo, pos_app_in hzo] at hlt
          exact ⟨by omega, .inr ⟨z, hz, hlt⟩⟩
        · exfalso
          rw [List.getElem?_append_right (by omega)] at hz
          have hz1 := List.mem_of_getElem? hz
          have hzo : z ∉ one := fun e => h.dis z e hz1
          rw [pos_app_out hzo, pos_at nd1 hz] at hlt
          by_cases hi2 : i < f0.length
          · rw [List.getElem?_append_left hi2] at hx
            have hxo := p0.mem_iff.mp (List.mem_of_getElem? hx)
            rw [pos_app_in hxo] at hlt
            have := pos_lt hxo
            omega
          · rw [List.getElem?_append_right (by omega)] at hx
            have hx1 := List.mem_of_getElem? hx
            have hxo : x ∉ one := fun e => h.dis x e hx1
            rw [pos_app_out hxo, pos_at nd1 hx] at hlt
            omega
    obtain ⟨hi, hf2⟩ := key
    rw [List.getElem?_append_left hi] at hx
    rw [List.getElem?_append_left (by omega)] at hy
    have hyo := p0.mem_iff.mp (List.mem_of_getElem? hy)
    show 1 ≤ if y ∈ one then g0 y else 0
    rw [if_pos hyo]
    exact h0.sol.up i x hx hf2 j y hj hy
  · have hp : 0 < if q.1 ∈ one then g0 q.1 else 0 := hp
    show (if q.1 ∈ one then g0 q.1 else 0) + gn (one ++ f1) (f0 ++ f1) q ≤ if q.2 ∈ one then g0 q.2 else 0
    by_cases h1 : q.1 ∈ one
    · rw [if_pos h1] at hp ⊢
      have hq0 : q ∈ q0 := by
        rcases (h.mem q).mp hq with k | k
        · exact k
        · exact absurd (h.c1 q k).2.2 (h.dis _ h1)
      have h2 := (h.c0 q hq0).1
      rw [if_pos h2]
      have n0 : ∀ x ∈ one, inL one x = true := fun x hx => decide_eq_true hx
      have n1 : ∀ x ∈ f1, inL one x = false := fun x hx => decide_eq_false fun e => h.dis x e hx
      have e1 : (one ++ f1).filter (inL one) = one := filt_app n0 n1
      have e2 : (f0 ++ f1).filter (inL one) = f0 := filt_app (fun x hx => n0 x (p0.mem_iff.mp hx)) n1
      have e3 := gn_filter (p := inL one) (zs := one ++ f1) (ws := f0 ++ f1) (n0 _ h1) (n0 _ h2)
      rw [e1, e2] at e3
      rw [← e3]
      exact h0.sol.ed q hq0 hp
    · rw [if_neg h1] at hp
      exact absurd hp (Int.lt_irrefl _)
end
theorem le_back {p q : Addr × List Str} {a b c d : Str} (e1 : p.2 = [a, b]) (e2 : q.2 = [c, d]) (h : leP (a, b) (c, d)) : PySem.W.dataLe false encS p q = true := by
  show (!PySem.W.dataLt (encS q) (encS p)) = true
  have f1 : encS p = encP (p.1, (a, b)) := by
    show PyData.tuple (p.2.map PyData.str) = _
    rw [e1]
    rfl
  have f2 : encS q = encP (q.1, (c, d)) := by
    show PyData.tuple (q.2.map PyData.str) = _
    rw [e2]
    rfl
  have nlt : ∀ {x y : Str}, x.cps.toList ≤ y.cps.toList → PySem.W.dataLt (.str y) (.str x) = false := fun {x y} hl => by
    have h1 : (!PySem.W.dataLt (.str y) (.str x)) = true := by
      rw [PySem.W.dataLt_str, PySem.W.not_lt_str]
      exact decide_eq_true hl
    cases hx : PySem.W.dataLt (.str y) (.str x) with
    | false => rfl
    | true => rw [hx] at h1; exact nomatch h1
  rw [f1, f2, PySem.W.dataLt_pair (by rfl) (by rfl)]
  rcases h with h | ⟨e, h⟩
  · have ne : ¬ PyData.eqv (.str c) (.str a) = true := fun z => by
      have z2 : (c == a) = true := z
      have : c = a := eq_of_beq z2
      have h : a.cps.toList < c.cps.toList := h
      rw [this] at h
      exact List.lt_irrefl _ h
    rw [if_neg ne, nlt (List.le_of_lt h)]
    rfl
  · have e : a = c := e
    subst e
    have ye : PyData.eqv (.str a) (.str a) = true := by
      show (a == a) = true
      exact beq_self_eq_true _
    rw [if_pos ye]
    by_cases z : PyData.eqv (.str d) (.str b) = true
    · rw [if_pos z]
      rfl
    · rw [if_neg z, nlt h]
      rfl
theorem ties_of_ps {zs : List Str} {H : Hp} {r : Addr} {ps : List TPr} (h : Tp H r (rfs ps)) (hp : ∀ p ∈ ps, AtT H p) (ok : ∀ q ∈ ps.map (·.2), q.2 ∈ zs ∧ q.1 ≠ q.2 ∧ q.1 ∈ zs) (nd : (ps.map (·.2)).Nodup) (le : (ps.map (·.2)).Pairwise leP) : Ties zs H r (ps.map fun p => (p.1, [p.2.1, p.2.2])) ∧ (ps.map fun p => (p.1, [p.2.1, p.2.2])).map prOf = ps.map (·.2) := by
  refine ⟨⟨?_, fun x hx => ?_, ?_, ?_⟩, ?_⟩
  · have e : rf (ps.map fun p => (p.1, [p.2.1, p.2.2])) = rfs ps := by
      unfold rfs
      rw [rf, List.map_map]
      rfl
    rw [e]
    exact h
  · obtain ⟨p, hpm, rfl⟩ := List.mem_map.mp hx
    have k := ok p.2 (List.mem_map_of_mem hpm)
    exact ⟨hp p hpm, p.2.1, p.2.2, rfl, k.2.2, k.1, k.2.1⟩
  · rw [List.map_map]
    refine List.pairwise_map.mpr ((List.pairwise_map.mp nd).imp fun {a b} hne e => hne ?_)
    have e : [a.2.1, a.2.2] = [b.2.1, b.2.2] := e
    injection e with e1 e2
    injection e2 with e2 _
    exact Prod.ext e1 e2
  · refine List.pairwise_map.mpr ((List.pairwise_map.mp le).imp fun {a b} hl => ?_)
    exact le_back rfl rfl hl
  · rw [List.map_map]
    rfl
end HF
namespace HF
open PySem PySem.Spec PyProof.Rows L2
section
variable {P : Program} {w : World} {K : PySem.W.Frag} {mg : Str → Option Value} {base : Heap}
abbrev sRis : Stmt := topS 6
abbrev nRis : List Str := ["pairs", "book", "friend"]
theorem scRis : FnScope nRis ["pairs"] (defScope sRis) := ⟨rfl, rfl, rfl, by decide +kernel, rfl, by decide +kernel, by decide +kernel⟩
/-- pairs in a list or a tuple -/
def Pqs (K : PySem.W.Frag) (H : Hp) (l : Addr) (qs : List (Str × Str)) : Prop := ∃ as : List Addr, Sq K H l (as.map V.ref) ∧ as.length = qs.length ∧ ∀ (i : Nat) (a : Addr) (q : Str × Str), as[i]? = some a → qs[i]? = some q → Sq K H a [.str q.1, .str q.2]
theorem Pqs.ofT {H : Hp} {l : Addr} {qs : List (Str × Str)} (h : PqT K H l qs) : Pqs K H l qs := by
  obtain ⟨as, h1, h2, h3⟩ := h
  exact ⟨as, .inr h1, h2, fun i a q e f => .inr (h3 i a q e f)⟩
theorem Pqs.ofL {H : Hp} {l : Addr} {ps : List TPr} (h : LPs H l ps) : Pqs K H l (ps.map (·.2)) := by
  refine ⟨ps.map (·.1), ?_, by rw [List.length_map, List.length_map], fun i a q e f => ?_⟩
  · rw [← rfs_refs]
    exact .inl (.inl (.inl h.1))
  · rw [List.getElem?_map] at e f
    obtain ⟨p, e1, rfl⟩ := Option.map_eq_some_iff.mp e
    rw [e1] at f
    cases f
    exact .inr (.inl (.inl (h.2 p (List.mem_of_getElem? e1))))
def spRis (K : PySem.W.Frag) (g : Str × Str → Str × Str) : Sp := fun vs H Q _ => ∃ (l : Addr) (qs : List (Str × Str)), vs = [.ref l] ∧ Pqs K H l qs ∧ qs.length ≤ 900 ∧
  ∀ (H' : Hp) (t : Addr) (ps : List TPr), Same H H' → H t = none → Tp H' t (rfs ps) → (∀ p ∈ ps, AtT H' p) → (ps.map (·.2)).Perm (qs.map g) → (ps.map (·.2)).Pairwise leP → Q (.ref t) H'
theorem ok_Ris {f : Addr} {fd : FuncData} {k : Nat} (F : Fun K "rising_ties" "rising_ties" sRis f fd) (mT : mg "tuple" = none) (mS : mg "sorted" = none) : FnOk P w K mg base CX0 (k + 1) f fd ["pairs"] (spRis K id) := by
  refine F.ok scRis (fun vs H Q E h => ?_) (fun cdv A outer s H vs Q E hr h => ?_)
  · obtain ⟨l, qs, rfl, _⟩ := h
    rfl
  · obtain ⟨l, qs, rfl, ⟨as, ha1, ha2, ha3⟩, hl, q⟩ := h
    refine ⟨_, pss_one (ps_ret (pe_callTy call_tupleF (by rfl) mT (by decide +kernel) (pa_cons (pe_callB (cr_sortP2 hr.units) (by rfl) mS (by decide +kernel) (pa_cons
      (pe_lc (own := [("book", 1), ("friend", 2)]) (g := gSeq K 2 (gCons (gName 1) (gCons (gName 2) gNil))) (tt := tYes) rfl scRis.nd (pi_seq (pv 0)) (blkOk_by (N := nRis) (sc := defScope sRis) (by decide +kernel)) (fun _ _ _ _ _ => pg_seq rfl (pgs_cons (pg_name (i := 1) scRis.nd rfl (.inl rfl)) (pgs_cons (pg_name (i := 2) scRis.nd rfl (.inl rfl)) pgs_nil))) (fun _ _ _ _ _ => pts_nil) (fun _ _ _ _ _ => pe_tup (pa_cons (pv 1) (pa_cons (pv 2) pa_nil)))) pa_nil)) pa_nil))), ?_⟩
    refine ⟨.ref l, rfl, l, rfl, iseq ha1 fun J wk D nD => lc_it wk (fun i H4 => Same H H4 ∧ ∃ us, LPs H4 D us ∧ us.map (·.2) = qs.take i) ⟨same_upd nD, [], ⟨upd_same, fun p hp => by cases hp⟩, rfl⟩ (fun i H4 _ h => Kp.of h.1) ?_ ?_⟩
    · rintro i x H4 H5 hi ⟨s4, us, hus, eus⟩ ⟨rfl, hx⟩
      rw [List.getElem?_map] at hx
      obtain ⟨a, ha, rfl⟩ := Option.map_eq_some_iff.mp hx
      rw [List.length_map] at hi
      have hq : qs[i]? = some qs[i] := List.getElem?_eq_getElem (by omega)
      have hat := ha3 i a _ ha hq
      generalize qs[i] = pq at *
      have hul : us.length = i := by
        have e := congrArg List.length eus
        rw [List.length_map, List.length_take] at e
        omega
      refine ⟨a, _, rfl, sameQ s4 hat, rfl, _, _, rfl, _, _, rfl, rfl, rfl, ?_⟩
      refine ⟨.str pq.1, rfl, .str pq.2, rfl, (by decide : (2 : Nat) ≤ sizeLine), fun t nt => ?_⟩
      have st := same_upd (o := .tup [.str pq.1, .str pq.2]) nt
      have ht : (upd H5 t (.tup [.str pq.1, .str pq.2])) t = some (.tup [.str pq.1, .str pq.2]) := upd_same
      generalize (upd H5 t (.tup [.str pq.1, .str pq.2])) = H6 at *
      have hu6 := hus.same st
      refine ⟨_, hu6.1, by rw [rfs_len, sizeLine_eq]; omega, same_put (s4.trans st) nD, _, hu6.push ht, ?_⟩
      rw [List.map_append, eus, List.take_add_one, hq]
      rfl
    · rintro H4 ⟨s4, us, hus, eus⟩
      rw [List.length_map, ha2, List.take_length] at eus
      have hul : us.length = qs.length := by
        have e := congrArg List.length eus
        rw [List.length_map] at e
        exact e
      refine ⟨D, us, rfl, hus, by omega, fun L' p1 pm pw np1 => ?_⟩
      have s5 := same_upd (o := .lst (rfs L')) np1
      have h5 : (upd H4 p1 (.lst (rfs L'))) p1 = some (.lst (rfs L')) := upd_same
      generalize (upd H4 p1 (.lst (rfs L'))) = H5 at *
      refine ⟨p1, _, rfl, .inl (.inl h5), fun t ob nt e1 e2 => ?_⟩
      have st := same_upd (o := .frz ob (.tup (rfs L'))) nt
      have sa := s4.trans s5
      refine q _ t L' (sa.trans st) (sa.free nt) ⟨ob, upd_same, e1, e2⟩ (fun p hp => st _ _ (s5 _ _ (hus.2 p (pm.mem_iff.mp hp)))) ?_ pw
      rw [List.map_id, ← eus]
      exact pm.map _
theorem Pqs.same {H H' : Hp} {l : Addr} {qs : List (Str × Str)} (h : Pqs K H l qs) (s : Same H H') : Pqs K H' l qs := by
  obtain ⟨as, h1, h2, h3⟩ := h
  exact ⟨as, sameQ s h1, h2, fun i a q e f => sameQ s (h3 i a q e f)⟩
abbrev sPil : Stmt := topS 10
abbrev nPil : List Str := ["upper", "lower", "upper_heap", "upper_ties", "lower_heap", "lower_ties", "shared", "book"]
theorem scPil : FnScope nPil ["upper", "lower"] (defScope sPil) := ⟨rfl, rfl, rfl, by decide +kernel, rfl, by decide +kernel, by decide +kernel⟩
/-- a heap and ties, as a pair -/
def spPil (K : PySem.W.Frag) : Sp := fun vs H Q _ => ∃ (u v h0 r0 h1 r1 : Addr) (zs ws : List Str) (q0 q1 : List (Str × Str)), vs = [.ref u, .ref v] ∧ Sq K H u [.ref h0, .ref r0] ∧ Sq K H v [.ref h1, .ref r1] ∧ Hq K H h0 zs ∧ Hq K H h1 ws ∧ Pqs K H r0 q0 ∧ Pqs K H r1 q1 ∧ (∀ x ∈ zs, x ∉ ws) ∧ zs.length ≤ 100 ∧ ws.length ≤ 100 ∧ q0.length ≤ 400 ∧ q1.length ≤ 400 ∧
  ∀ (H' : Hp) (t th tt : Addr) (ps : List TPr), Same H H' → H' t = some (.tup [.ref th, .ref tt]) → Tp H' th ((zs ++ ws).map V.str) → Tp H' tt (rfs ps) → (∀ p ∈ ps, AtT H' p) → (ps.map (·.2)).Perm (q0 ++ q1) → (ps.map (·.2)).Pairwise leP → Q (.ref t) H'
theorem ok_Pil {f fR : Addr} {fd dR : FuncData} {k : Nat} (F : Fun K "piled" "piled" sPil f fd) (FR : Fun K "rising_ties" "rising_ties" sRis fR dR) (bR : Binds K dR ["pairs"] []) (gR : mg "rising_ties" = some (.ref fR)) (mT : mg "tuple" = none) (mS : mg "sorted" = none) (mL : mg "list" = none) : FnOk P w K mg base CX0 (k + 2) f fd ["upper", "lower"] (spPil K) := by
  have GR : FnOk P w K mg base CX0 (k + 1) fR dR ["pairs"] (spRis K id) := ok_Ris FR mT mS
  refine F.ok scPil (fun vs H Q E h => ?_) (fun cdv A outer s H vs Q E hr h => ?_)
  · obtain ⟨u, v, h0, r0, h1, r1, zs, ws, q0, q1, rfl, _⟩ := h
    rfl
  · obtain ⟨u, v, h0, r0, h1, r1, zs, ws, q0, q1, rfl, hu, hv, hz, hw, ⟨as, ha1, ha2, ha3⟩, ⟨bs, hb1, hb2, hb3⟩, dis, lz, lw, l0, l1, q⟩ := h
    refine ⟨_, pss_cons (ps_asg (pv 0) (pg_seq rfl (pgs_cons (pg_name (i := 2) scPil.nd rfl (.inl rfl)) (pgs_cons (pg_name (i := 3) scPil.nd rfl (.inl rfl)) pgs_nil))))
      (pss_cons (ps_asg (pv 1) (pg_seq rfl (pgs_cons (pg_name (i := 4) scPil.nd rfl (.inr rfl)) (pgs_cons (pg_name (i := 5) scPil.nd rfl (.inl rfl)) pgs_nil))))
      (pss_cons (ps_set (i := 6) scPil.nd rfl (.inl rfl) (pe_callB (cr_srt hr.units) (by rfl) mS (by decide +kernel) (pa_cons (pe_lc (own := [("book", 7)]) (g := gName 7) rfl scPil.nd (pi_seq (pv 2)) (blkOk_by (N := nPil) (sc := defScope sPil) (by decide +kernel)) (fun _ _ _ _ _ => pg_name (i := 7) scPil.nd rfl (.inl rfl)) (fun _ _ _ _ _ => pts_one (pt_cmpR (r := rIn K false) op_in_seq (pv 7) (pv 4) rfl)) (fun _ _ _ _ _ => pv 7)) pa_nil)))
      (pss_cons (ps_if (pt_truth (pv 6) (fun _ => rfl)) pss_never pss_nil)
      (pss_one (ps_ret (pe_tup (pa_cons (pe_op (r := rCatTp K) op_catTp (pe_callTy call_tupQ (by rfl) mT (by decide +kernel) (pa_cons (pv 2) pa_nil)) (pe_callTy call_tupQ (by rfl) mT (by decide +kernel) (pa_cons (pv 4) pa_nil)))
        (pa_cons (pe_call GR hr (by rfl) gR FR.kp bR .nil pass0 (pa_cons (pe_op op_cat (pe_callTy call_list_of (by rfl) mL (by decide +kernel) (pa_cons (pv 3) pa_nil)) (pe_callTy call_list_of (by rfl) mL (by decide +kernel) (pa_cons (pv 5) pa_nil))) pa_nil)) pa_nil)))))))), ?_⟩
    refine ⟨.ref u, rfl, u, _, rfl, hu, rfl, _, _, rfl, _, _, rfl, rfl, ?_⟩
    refine ⟨.ref v, rfl, v, _, rfl, hv, rfl, _, _, rfl, _, _, rfl, rfl, ?_⟩
    refine ⟨.ref h0, rfl, h0, rfl, iseq hz.sq fun J wk D nD => lc_it wk (fun i H4 => Same H H4 ∧ H4 D = some (.lst [])) ⟨same_upd nD, upd_same⟩ (fun i H4 _ h => Kp.of h.1) ?_ ?_⟩
    · rintro i x H4 H5 hi ⟨s4, hD⟩ ⟨rfl, hx⟩
      rw [List.getElem?_map] at hx
      obtain ⟨b, hb, rfl⟩ := Option.map_eq_some_iff.mp hx
      refine ⟨rfl, .str b, rfl, .ref h1, rfl, h1, _, rfl, sameQ s4 hw.sq, rfl, strs_flat _, _, rfl, ?_⟩
      rw [if_neg (by decide), inV_strs, decide_eq_false (dis b (List.mem_of_getElem? hb))]
      exact iteF ⟨s4, hD⟩
    rintro H4 ⟨s4, hD⟩
    have hD0 : H4 D = some (.lst (([] : List Str).map V.str)) := hD
    refine ⟨D, [], rfl, .inl (.inl (.inl hD0)), by decide, fun p1 np1 => ?_⟩
    have s5 : Same H4 (upd H4 p1 (.lst ((srt []).map V.str))) := same_upd np1
    have h5 : (upd H4 p1 (.lst ((srt []).map V.str))) p1 = some (.lst []) := by
      rw [upd_same]
      have : srt [] = [] := List.length_eq_zero_iff.mp (by rw [srt_len]; rfl)
      rw [this]
      rfl
    generalize (upd H4 p1 (.lst ((srt []).map V.str))) = H5 at *
    refine ⟨.ref p1, rfl, _, .inl ⟨_, .inl (.inl h5), rfl⟩, iteF ?_⟩
    have s15 := s4.trans s5
    refine ⟨.ref h0, rfl, h0, zs, rfl, hz.same s15, fun H6 t6 s6 ht6 => ?_⟩
    have s16 := s15.trans s6
    refine ⟨.ref h1, rfl, h1, ws, rfl, hw.same s16, fun H7 t7 s7 ht7 => ?_⟩
    have s17 := s16.trans s7
    refine ⟨t6, t7, _, _, rfl, rfl, tpS ht6 s7, ht7, by rw [List.length_map, List.length_map, sizeLine_eq]; omega, fun th H8 s8 hth => ?_⟩
    rw [← List.map_append] at hth
    have s18 := s17.trans s8
    refine ⟨.ref r0, rfl, r0, _, rfl, sameQ s18 ha1, fun l8 nl8 => ?_⟩
    have s_9 : Same H8 (upd H8 l8 (.lst (as.map V.ref))) := same_upd nl8
    have h_l8 : (upd H8 l8 (.lst (as.map V.ref))) l8 = some (.lst (as.map V.ref)) := upd_same
    generalize (upd H8 l8 (.lst (as.map V.ref))) = H9 at *
    have s19 := s18.trans s_9
    refine ⟨.ref r1, rfl, r1, _, rfl, sameQ s19 hb1, fun l9 nl9 => ?_⟩
    have s_10 : Same H9 (upd H9 l9 (.lst (bs.map V.ref))) := same_upd nl9
    have h_l9 : (upd H9 l9 (.lst (bs.map V.ref))) l9 = some (.lst (bs.map V.ref)) := upd_same
    generalize (upd H9 l9 (.lst (bs.map V.ref))) = H10 at *
    refine ⟨l8, l9, _, _, rfl, rfl, s_10 _ _ h_l8, h_l9, by rw [List.length_map, List.length_map, sizeLine_eq]; omega, fun lc nlc => ?_⟩
    have s_11 : Same H10 (upd H10 lc (.lst (as.map V.ref ++ bs.map V.ref))) := same_upd nlc
    have h_lc : (upd H10 lc (.lst (as.map V.ref ++ bs.map V.ref))) lc = some (.lst ((as ++ bs).map V.ref)) := by
      rw [upd_same, List.map_append]
    generalize (upd H10 lc (.lst (as.map V.ref ++ bs.map V.ref))) = H11 at *
    have s1b := (s19.trans s_10).trans s_11
    have hpq : Pqs K H11 lc (q0 ++ q1) := by
      refine ⟨as ++ bs, .inl (.inl (.inl h_lc)), by rw [List.length_append, List.length_append, ha2, hb2], fun i a q2 e g => ?_⟩
      rw [List.getElem?_append] at e g
      rw [ha2] at e
      split at e
      · rename_i hi
        rw [if_pos hi] at g
        exact sameQ s1b (ha3 i a q2 e g)
      · rename_i hi
        rw [if_neg hi] at g
        exact sameQ s1b (hb3 _ a q2 e g)
    refine ⟨lc, q0 ++ q1, rfl, hpq, by rw [List.length_append]; omega, fun H12 tt ps s12 ntt htt hps pm pw => ?_⟩
    rw [List.map_id] at pm
    refine ⟨(by decide : (2 : Nat) ≤ sizeLine), fun t nt => ?_⟩
    have s13 : Same H12 (upd H12 t (.tup [.ref th, .ref tt])) := same_upd nt
    have s8d := (((s_9.trans s_10).trans s_11).trans s12).trans s13
    exact q _ t th tt ps ((s1b.trans s12).trans s13) upd_same (tpS hth s8d) (tpS htt s13) (fun p hp => s13 _ _ (hps p hp)) pm pw
abbrev sOnl : Stmt := topS 11
abbrev nOnl : List Str := ["heap", "ties", "books", "lain", "book", "friend"]
theorem scOnl : FnScope nOnl ["heap", "ties", "books"] (defScope sOnl) := ⟨rfl, rfl, rfl, by decide +kernel, rfl, by decide +kernel, by decide +kernel⟩
def bothIn (bs : List Str) (q : Str × Str) : Bool := inL bs q.1 && inL bs q.2
def spOnl (K : PySem.W.Frag) : Sp := fun vs H Q _ => ∃ (h r b : Addr) (zs bs : List Str) (qs : List (Str × Str)), vs = [.ref h, .ref r, .ref b] ∧ Hq K H h zs ∧ Pqs K H r qs ∧ Sq K H b (bs.map V.str) ∧ zs.length ≤ 100 ∧ qs.length ≤ 400 ∧
  ∀ (H' : Hp) (t th tt : Addr) (ps : List TPr), Same H H' → H' t = some (.tup [.ref th, .ref tt]) → Tp H' th ((zs.filter (inL bs)).map V.str) → Tp H' tt (rfs ps) → (∀ p ∈ ps, AtT H' p) → (ps.map (·.2)).Perm (qs.filter (bothIn bs)) → (ps.map (·.2)).Pairwise leP → Q (.ref t) H'
theorem ok_Onl {f fR : Addr} {fd dR : FuncData} {k : Nat} (F : Fun K "only" "only" sOnl f fd) (FR : Fun K "rising_ties" "rising_ties" sRis fR dR) (bR : Binds K dR ["pairs"] []) (gR : mg "rising_ties" = some (.ref fR)) (mT : mg "tuple" = none) (mS : mg "sorted" = none) : FnOk P w K mg base CX0 (k + 2) f fd ["heap", "ties", "books"] (spOnl K) := by
  have GR : FnOk P w K mg base CX0 (k + 1) fR dR ["pairs"] (spRis K id) := ok_Ris FR mT mS
  refine F.ok scOnl (fun vs H Q E h => ?_) (fun cdv A outer s H vs Q E hr h => ?_)
  · obtain ⟨h, r, b, zs, bs, qs, rfl, _⟩ := h
    rfl
  · obtain ⟨h, r, b, zs, bs, qs, rfl, hz, ⟨as, ha1, ha2, ha3⟩, hb, lz, lq, q⟩ := h
    refine ⟨_, pss_cons (ps_set (i := 3) scOnl.nd rfl (.inl rfl) (pe_callTy call_tupleF (by rfl) mT (by decide +kernel) (pa_cons (pe_lc (own := [("book", 4)]) (g := gName 4) rfl scOnl.nd (pi_seq (pv 0)) (blkOk_by (N := nOnl) (sc := defScope sOnl) (by decide +kernel)) (fun _ _ _ _ _ => pg_name (i := 4) scOnl.nd rfl (.inl rfl)) (fun _ _ _ _ _ => pts_one (pt_cmpR (r := rIn K false) op_in_seq (pv 4) (pv 2) rfl)) (fun _ _ _ _ _ => pv 4)) pa_nil)))
      (pss_one (ps_ret (pe_tup (pa_cons (pv 3) (pa_cons (pe_call GR hr (by rfl) gR FR.kp bR .nil pass0 (pa_cons
        (pe_lc (own := [("book", 4), ("friend", 5)]) (g := gSeq K 2 (gCons (gName 4) (gCons (gName 5) gNil))) rfl scOnl.nd (pi_seq (pv 1)) (blkOk_by (N := nOnl) (sc := defScope sOnl) (by decide +kernel)) (fun _ _ _ _ _ => pg_seq rfl (pgs_cons (pg_name (i := 4) scOnl.nd rfl (.inl rfl)) (pgs_cons (pg_name (i := 5) scOnl.nd rfl (.inl rfl)) pgs_nil))) (fun _ _ _ _ _ => pts_one (PW.pt (pw_and (pt_cmpR (r := rIn K false) op_in_seq (pv 4) (pv 2) rfl) (pw_and1 (pt_cmpR (r := rIn K false) op_in_seq (pv 5) (pv 2) rfl))))) (fun _ _ _ _ _ => pe_tup (pa_cons (pv 4) (pa_cons (pv 5) pa_nil)))) pa_nil)) pa_nil))))), ?_⟩
    refine ⟨.ref h, rfl, h, rfl, iseq hz.sq fun J wk D nD => lc_it wk (fun i H4 => Same H H4 ∧ H4 D = some (.lst (((zs.take i).filter (inL bs)).map V.str))) ⟨same_upd nD, upd_same⟩ (fun i H4 _ h => Kp.of h.1) ?_ ?_⟩
    · rintro i x H4 H5 hi ⟨s4, hD⟩ ⟨rfl, hx⟩
      rw [List.getElem?_map] at hx
      obtain ⟨z, hz2, rfl⟩ := Option.map_eq_some_iff.mp hx
      rw [List.length_map] at hi
      refine ⟨rfl, .str z, rfl, .ref b, rfl, b, _, rfl, sameQ s4 hb, rfl, strs_flat _, _, rfl, ?_⟩
      rw [if_neg (by decide), inV_strs, List.take_add_one, hz2, List.filter_append]
      cases hc : decide (z ∈ bs) with
      | false =>
        have hc2 : inL bs z = false := hc
        exact iteF ⟨s4, by rw [hD]; simp [hc2]⟩
      | true =>
        have hc2 : inL bs z = true := hc
        refine iteT ⟨.str z, rfl, _, hD, ?_, same_put s4 nD, ?_⟩
        · have := List.length_filter_le (inL bs) (zs.take i)
          rw [List.length_take] at this
          rw [List.length_map, sizeLine_eq]
          omega
        · rw [upd_same, List.map_append]
          simp [hc2]
    rintro H4 ⟨s4, hD⟩
    rw [List.length_map, List.take_length] at hD
    refine ⟨D, _, rfl, .inl (.inl hD), fun th ob nth e1 e2 => ?_⟩
    have s5 : Same H4 (upd H4 th (.frz ob (.tup ((zs.filter (inL bs)).map V.str)))) := same_upd nth
    have h5 : Tp (upd H4 th (.frz ob (.tup ((zs.filter (inL bs)).map V.str)))) th ((zs.filter (inL bs)).map V.str) := ⟨ob, upd_same, e1, e2⟩
    generalize (upd H4 th (.frz ob (.tup ((zs.filter (inL bs)).map V.str)))) = H5 at *
    have s15 := s4.trans s5
    refine ⟨.ref th, rfl, .ref r, rfl, r, rfl, iseq (sameQ s15 ha1) fun J2 wk2 D2 nD2 => lc_it wk2 (fun i H6 => Same H5 H6 ∧ ∃ us, LPs H6 D2 us ∧ us.length ≤ i ∧ us.map (·.2) = (qs.take i).filter (bothIn bs)) ⟨same_upd nD2, [], ⟨upd_same, fun p hp => by cases hp⟩, Nat.le_refl _, rfl⟩ (fun i H6 _ h => Kp.of h.1) ?_ ?_⟩
    · rintro i x H6 H7 hi ⟨s6, us, hus, hul, eus⟩ ⟨rfl, hx⟩
      rw [List.getElem?_map] at hx
      obtain ⟨a, ha, rfl⟩ := Option.map_eq_some_iff.mp hx
      rw [List.length_map] at hi
      have hq : qs[i]? = some qs[i] := List.getElem?_eq_getElem (by omega)
      have hat := ha3 i a _ ha hq
      generalize qs[i] = pq at *
      have s16 := s15.trans s6
      refine ⟨a, _, rfl, sameQ s16 hat, rfl, _, _, rfl, _, _, rfl, rfl, rfl, ?_⟩
      refine ⟨.str pq.1, rfl, .ref b, rfl, b, _, rfl, sameQ s16 hb, rfl, strs_flat _, _, rfl, ?_⟩
      rw [if_neg (by decide), inV_strs, List.take_add_one, hq, List.filter_append, ← eus]
      cases hc : decide (pq.1 ∈ bs) with
      | false =>
        have hc2 : inL bs pq.1 = false := hc
        exact iteF (iteF ⟨s6, us, hus, by omega, by simp [bothIn, hc2]⟩)
      | true =>
        have hc2 : inL bs pq.1 = true := hc
        refine iteT ⟨.str pq.2, rfl, .ref b, rfl, b, _, rfl, sameQ s16 hb, rfl, strs_flat _, _, rfl, ?_⟩
        rw [if_neg (by decide), inV_strs]
        cases hd : decide (pq.2 ∈ bs) with
        | false =>
          have hd2 : inL bs pq.2 = false := hd
          exact iteF ⟨s6, us, hus, by omega, by simp [bothIn, hc2, hd2]⟩
        | true =>
          have hd2 : inL bs pq.2 = true := hd
          refine iteT ⟨.str pq.1, rfl, .str pq.2, rfl, (by decide : (2 : Nat) ≤ sizeLine), fun t nt => ?_⟩
          have st := same_upd (o := .tup [.str pq.1, .str pq.2]) nt
          have ht : (upd H7 t (.tup [.str pq.1, .str pq.2])) t = some (.tup [.str pq.1, .str pq.2]) := upd_same
          generalize (upd H7 t (.tup [.str pq.1, .str pq.2])) = H8 at *
          have hu8 := hus.same st
          exact ⟨_, hu8.1, by rw [rfs_len, sizeLine_eq]; omega, same_put (s6.trans st) nD2, _, hu8.push ht, by rw [List.length_append]; simp only [List.length_cons, List.length_nil]; omega, by rw [List.map_append]; simp [bothIn, hc2, hd2]⟩
    rintro H6 ⟨s6, us, hus, hul, eus⟩
    rw [List.length_map] at hul
    rw [List.length_map, ha2, List.take_length] at eus
    refine ⟨D2, us.map (·.2), rfl, Pqs.ofL hus, by rw [List.length_map]; omega, fun H7 tt ps s7 ntt htt hps pm pw => ?_⟩
    rw [List.map_id, eus] at pm
    refine ⟨(by decide : (2 : Nat) ≤ sizeLine), fun t nt => ?_⟩
    have s8 : Same H7 (upd H7 t (.tup [.ref th, .ref tt])) := same_upd nt
    have s58 := (s6.trans s7).trans s8
    exact q _ t th tt ps (s15.trans s58) upd_same (tpS h5 s58) (tpS htt s8) (fun p hp => s8 _ _ (hps p hp)) pm pw
end
end HF
/-! histories as data -/
namespace HF
open PySem PySem.Spec PyProof.Rows L2
def dHE (e : HE) : PyData := .tuple [.tuple (e.zs.map PyData.str), .list (e.row.map PyData.str)]
def dHs (es : List HE) : PyData := .list (es.map dHE)
theorem fine_he {e : HE} (h1 : ∀ z ∈ e.zs, Nm z) (h2 : ∀ z ∈ e.row, Nm z) (l1 : e.zs.length ≤ 12) (l2 : e.row.length ≤ 100) : Fine 2 1000 800 (dHE e) := by
  have f1 : Fine 1 1000 84 (.tuple (e.zs.map PyData.str)) := (Fine.tuple (fine_strs (m := 0) (w := 1000) h1) (by rw [List.length_map]; omega)).mono (by decide) (by decide) (by omega)
  have f2 : Fine 1 1000 700 (.list (e.row.map PyData.str)) := (Fine.list (fine_strs (m := 0) (w := 1000) h2) (by rw [List.length_map]; omega)).mono (by decide) (by decide) (by omega)
  exact (Fine.tuple (FineL.cons f1 (FineL.cons f2 FineL.nil)) (by decide : (2 : Nat) ≤ 1000)).mono (by decide) (by decide) (by decide : 84 + 1 + (700 + 1 + 0) ≤ 800)
theorem fine_hs {es : List HE} (h : ∀ e ∈ es, (∀ z ∈ e.zs, Nm z) ∧ (∀ z ∈ e.row, Nm z) ∧ e.zs.length ≤ 12 ∧ e.row.length ≤ 100) (hl : es.length ≤ 100) : Fine 3 1000 100000 (dHs es) := by
  have := FineL.of (m := 2) (w := 1000) (W := 800) (ds := es.map dHE) fun d hd => by
    obtain ⟨e, he, rfl⟩ := List.mem_map.mp hd
    obtain ⟨a, b, c, d⟩ := h e he
    exact fine_he a b c d
  rw [List.length_map] at this
  exact (Fine.list this (by rw [List.length_map]; omega)).mono (by decide) (by decide) (by omega)
theorem fine_prs {qs : List (Str × Str)} (h : ∀ q ∈ qs, Nm q.1 ∧ Nm q.2) (hl : qs.length ≤ 1000) : Fine 2 1000 (15 * qs.length) (.tuple (qs.map dPr)) := by
  have := FineL.of (m := 1) (w := 1000) (W := 14) (ds := qs.map dPr) fun d hd => by
    obtain ⟨q, hq, rfl⟩ := List.mem_map.mp hd
    obtain ⟨a, b⟩ := h q hq
    exact (Fine.tuple (FineL.cons (fine_str (m := 0) a) (FineL.cons (fine_str b) FineL.nil)) (by decide : (2 : Nat) ≤ 1000)).mono (by decide) (by decide) (by decide : 6 + 1 + (6 + 1 + 0) ≤ 14)
  rw [List.length_map] at this
  exact (Fine.tuple this (by rw [List.length_map]; omega)).mono (by decide) (by decide) (by omega)
theorem HsB.dp {K : PySem.W.Frag} {H : Hp} {S : Addr} {es : List HE} (h : HsB H S es) : Dp K H (.ref S) (dHs es) := by
  refine .lst (.inl (.inl h.1)) ?_
  have hh := h.2
  clear h
  induction es with
  | nil => exact .nil
  | cons e r ih =>
    obtain ⟨k1, k2, k3, _⟩ := hh e List.mem_cons_self
    exact .cons (.tup (.inl (.inl k1)) (.cons (.tup k2.sq (dp_strs _)) (.cons (.lst (.inl (.inl k3)) (dp_strs _)) .nil))) (ih fun x hx => hh x (List.mem_cons_of_mem _ hx))
theorem nw_strs2 {H H' : Hp} : ∀ {zs : List Str} {xs : List V}, NwAll H H' xs (lsAll (zs.map PyData.str)) → xs = zs.map V.str
  | [], _, h => by
    cases h
    rfl
  | z :: r, _, h => by
    cases h with
    | cons h1 h2 =>
      cases h1
      rw [nw_strs2 h2]
      rfl
theorem hst_nw {K : PySem.W.Frag} {H H' : Hp} : ∀ {es : List HE} {xs : List V}, NwAll H H' xs (lsAll (es.map dHE)) → ∃ fs : List HE, xs = fs.map (fun e => V.ref e.t) ∧ (∀ e ∈ fs, HEOk K H' e) ∧ fs.map (fun e => (e.zs, e.row)) = es.map (fun e => (e.zs, e.row))
  | [], _, h => by
    cases h
    exact ⟨[], rfl, (fun e he => nomatch he), rfl⟩
  | e :: r, _, h => by
    cases h with
    | cons h1 h2 =>
      obtain ⟨fs, rfl, f1, f2⟩ := hst_nw (K := K) h2
      cases h1 with
      | lst n1 g1 a1 =>
        rename_i t ys
        cases a1 with
        | cons b1 b2 =>
          cases b2 with
          | cons c1 c2 =>
            cases c2
            cases b1 with
            | lst n2 g2 a2 =>
              rename_i hh zs'
              cases c1 with
              | lst n3 g3 a3 =>
                rename_i aa rs'
                have e1 := nw_strs2 a2
                have e2 := nw_strs2 a3
                subst e1 e2
                refine ⟨⟨t, hh, aa, e.zs, e.row⟩ :: fs, rfl, fun x hx => ?_, by rw [List.map_cons, List.map_cons, f2]⟩
                rcases List.mem_cons.mp hx with rfl | hx
                · exact ⟨.inl (.inl (.inl g1)), .inl (.inl (.inl g2)), .inl (.inl (.inl g3))⟩
                · exact f1 x hx
theorem all_lets {es fs : List HE} (h : fs.map (fun e => (e.zs, e.row)) = es.map (fun e => (e.zs, e.row))) (p : Str × Str) : (fs.all fun e => letsP e p) = es.all fun e => letsP e p := by
  have g : ∀ xs : List HE, (xs.all fun e => letsP e p) = (xs.map (fun e => (e.zs, e.row))).all fun z => decide (refAt [p] z.1 z.2 = none) := fun xs => by
    rw [List.all_map]
    rfl
  rw [g, g, h]
end HF
/-! texts of heaps and ties -/
namespace HF
open PySem PySem.Spec PyProof.Rows L2
abbrev bl1 : Str := " "
abbrev gt1 : Str := ">"
abbrev mn1 : Str := "-"
theorem lt_no {l : List Nat} (h : Lt l) {c : Nat} (hc : c < 97) : c ∉ l := fun hm => by
  have := h c hm
  omega
theorem nm_no {z : Str} (h : Nm z) {c : Nat} (hc : c < 97) : c ∉ TL.tl z := lt_no h.2.2 hc
/-- a tie as a word -/
def wd (q : Str × Str) : Str := q.1 ++ gt1 ++ q.2
theorem wd_join (q : Str × Str) : Txt.join gt1 [q.1, q.2] = wd q := by
  rw [TL.join_eq]
  rfl
theorem tl_wd (q : Str × Str) : TL.tl (wd q) = TL.tl q.1 ++ (62 :: TL.tl q.2) := by
  unfold wd
  rw [TL.tl_append, TL.tl_append, List.append_assoc]
  rfl
theorem split_wd {q : Str × Str} (h : Nm q.1 ∧ Nm q.2) : Txt.split (wd q) gt1 = [q.1, q.2] := by
  rw [← wd_join]
  refine TL.split_join (s := 62) (S := []) (by decide +kernel) (by decide +kernel) (by simp) fun p hp => ?_
  rcases List.mem_cons.mp hp with rfl | hp
  · exact nm_no h.1 (by decide)
  · rw [List.mem_singleton.mp hp]
    exact nm_no h.2 (by decide)
theorem split_heap {zs : List Str} (hne : zs ≠ []) (h : ∀ z ∈ zs, Nm z) : Txt.split (Txt.join bl1 zs) bl1 = zs :=
  TL.split_join (s := 32) (S := []) (by decide +kernel) (by decide +kernel) hne fun p hp => nm_no (h p hp) (by decide)
theorem split_ties {qs : List (Str × Str)} (hne : qs ≠ []) (h : ∀ q ∈ qs, Nm q.1 ∧ Nm q.2) : Txt.split (Txt.join bl1 (qs.map wd)) bl1 = qs.map wd := by
  refine TL.split_join (s := 32) (S := []) (by decide +kernel) (by decide +kernel) (fun e => hne (List.map_eq_nil_iff.mp e)) fun p hp => ?_
  obtain ⟨q, hq, rfl⟩ := List.mem_map.mp hp
  rw [tl_wd]
  intro hm
  rcases List.mem_append.mp hm with hm | hm
  · exact nm_no (h q hq).1 (by decide) hm
  · rcases List.mem_cons.mp hm with hm | hm
    · exact absurd hm (by decide)
    · exact nm_no (h q hq).2 (by decide) hm
/-- words by blanks, a sign for none -/
def byB (ys : List Str) : Str := if ys = [] then mn1 else Txt.join bl1 ys
theorem len_tl (x : Str) : x.length = (TL.tl x).length := by
  show x.cps.size = x.cps.toList.length
  rw [Array.length_toList]
theorem wd_len {q : Str × Str} (h : Nm q.1 ∧ Nm q.2) : 3 ≤ (wd q).length ∧ (wd q).length ≤ 13 := by
  rw [len_tl, tl_wd, List.length_append, List.length_cons]
  have h1 := h.1
  have h2 := h.2
  have a1 : 1 ≤ (TL.tl q.1).length := h1.1
  have a2 : (TL.tl q.1).length ≤ 6 := h1.2.1
  have b1 : 1 ≤ (TL.tl q.2).length := h2.1
  have b2 : (TL.tl q.2).length ≤ 6 := h2.2.1
  omega
theorem ties_not {qs : List (Str × Str)} (hne : qs ≠ []) (h : ∀ q ∈ qs, Nm q.1 ∧ Nm q.2) : Txt.join bl1 (qs.map wd) ≠ mn1 := fun e => by
  have h1 := split_ties hne h
  rw [e] at h1
  have h2 : Txt.split mn1 bl1 = [mn1] := by
    have := TL.split_join (y := bl1) (s := 32) (S := []) (by decide +kernel) (by decide +kernel) (parts := [mn1]) (by simp) (fun p hp => by
      rw [List.mem_singleton.mp hp]
      decide +kernel)
    rw [TL.join_eq] at this
    exact this
  rw [h2] at h1
  cases qs with
  | nil => exact hne rfl
  | cons q r =>
    rw [List.map_cons] at h1
    injection h1 with h3 h4
    have h5 := (wd_len (h q List.mem_cons_self)).1
    rw [← h3] at h5
    have h6 : (mn1 : Str).length = 1 := by decide +kernel
    omega
theorem joinL_len (S : List Nat) : ∀ ps : List (List Nat), (TL.joinL S ps).length ≤ (ps.map List.length).sum + ps.length * S.length
  | [] => Nat.zero_le _
  | [p] => by
    show p.length ≤ (p.length + 0) + 1 * S.length
    omega
  | p :: q :: r => by
    have ih := joinL_len S (q :: r)
    show (p ++ (S ++ TL.joinL S (q :: r))).length ≤ (p.length + ((q :: r).map List.length).sum) + ((q :: r).length + 1) * S.length
    rw [List.length_append, List.length_append, Nat.succ_mul]
    omega
theorem joinL_mem (S : List Nat) {c : Nat} : ∀ {ps : List (List Nat)}, c ∈ TL.joinL S ps → c ∈ S ∨ ∃ p ∈ ps, c ∈ p
  | [], h => nomatch h
  | [p], h => .inr ⟨p, List.mem_cons_self, h⟩
  | p :: q :: r, h => by
    have h : c ∈ p ++ (S ++ TL.joinL S (q :: r)) := h
    rcases List.mem_append.mp h with h | h
    · exact .inr ⟨p, List.mem_cons_self, h⟩
    · rcases List.mem_append.mp h with h | h
      · exact .inl h
      · rcases joinL_mem S h with h | ⟨x, hx, h⟩
        · exact .inl h
        · exact .inr ⟨x, List.mem_cons_of_mem _ hx, h⟩
theorem sum_le {ys : List Nat} {m : Nat} (h : ∀ y ∈ ys, y ≤ m) : ys.sum ≤ ys.length * m := by
  induction ys with
  | nil => simp
  | cons y r ih =>
    rw [List.sum_cons, List.length_cons, Nat.succ_mul]
    have h1 := h y List.mem_cons_self
    have h2 := ih fun z hz => h z (List.mem_cons_of_mem _ hz)
    omega
theorem byB_len {ys : List Str} (h : ∀ y ∈ ys, y.length ≤ 13) (hl : ys.length ≤ 1000) : (byB ys).length ≤ 14001 := by
  unfold byB
  split
  · have h6 : (mn1 : Str).length = 1 := by decide +kernel
    omega
  · rw [len_tl, TL.join_eq, TL.tl_join]
    have h1 := joinL_len (TL.tl bl1) (ys.map TL.tl)
    have h2 : ((ys.map TL.tl).map List.length).sum ≤ ys.length * 13 := by
      have := sum_le (ys := (ys.map TL.tl).map List.length) (m := 13) (fun y hy => by
        obtain ⟨l, hl, rfl⟩ := List.mem_map.mp hy
        obtain ⟨z, hz, rfl⟩ := List.mem_map.mp hl
        have := h z hz
        rw [len_tl] at this
        exact this)
      rw [List.length_map, List.length_map] at this
      exact this
    rw [List.length_map] at h1
    have h3 : (TL.tl bl1).length = 1 := by decide +kernel
    rw [h3] at h1
    omega
theorem sum_len {ys : List Str} (h : ∀ y ∈ ys, y.length ≤ 13) (hl : ys.length ≤ 1000) : (ys.map (·.length)).sum + ys.length * (bl1 : Str).length ≤ 16777216 := by
  have h1 := sum_le (ys := ys.map (·.length)) (m := 13) (fun y hy => by
    obtain ⟨z, hz, rfl⟩ := List.mem_map.mp hy
    exact h z hz)
  rw [List.length_map] at h1
  have h3 : (bl1 : Str).length = 1 := by decide +kernel
  rw [h3]
  omega
theorem byB_ok {ys : List Str} (h : ∀ y ∈ ys, PyData.strOk y = true) : PyData.strOk (byB ys) = true := by
  unfold byB
  split
  · decide +kernel
  · unfold PyData.strOk
    rw [← Array.all_toList, List.all_eq_true]
    intro c hc
    have hc : c ∈ TL.tl (Txt.join bl1 ys) := hc
    rw [TL.join_eq, TL.tl_join] at hc
    rcases joinL_mem _ hc with hc | ⟨l, hl, hc⟩
    · have : TL.tl bl1 = [32] := by decide +kernel
      rw [this, List.mem_singleton] at hc
      rw [hc]
      decide
    · obtain ⟨z, hz, rfl⟩ := List.mem_map.mp hl
      have h1 := h z hz
      unfold PyData.strOk at h1
      rw [← Array.all_toList, List.all_eq_true] at h1
      exact h1 c hc
theorem wrd_ok {q : Str × Str} (h : Nm q.1 ∧ Nm q.2) : PyData.strOk (wd q) = true := by
  unfold PyData.strOk
  rw [← Array.all_toList, List.all_eq_true]
  intro c hc
  have hc : c ∈ TL.tl (wd q) := hc
  rw [tl_wd] at hc
  have lt : ∀ {z : Str}, Nm z → c ∈ TL.tl z → c < 0x110000 := fun hz hm => by
    have := hz.2.2 c hm
    omega
  refine decide_eq_true ?_
  rcases List.mem_append.mp hc with hc | hc
  · exact lt h.1 hc
  · rcases List.mem_cons.mp hc with hc | hc
    · rw [hc]
      decide
    · exact lt h.2 hc
/-- pairs in a list or a tuple -/
def Pqw (K : PySem.W.Frag) (H : Hp) (l : Addr) (qs : List (Str × Str)) : Prop := ∃ as : List Addr, Sq K H l (as.map V.ref) ∧ as.length = qs.length ∧ ∀ (i : Nat) (a : Addr) (q : Str × Str), as[i]? = some a → qs[i]? = some q → Sq K H a [.str q.1, .str q.2]
theorem Pqw.of {K : PySem.W.Frag} {H : Hp} {l : Addr} {qs : List (Str × Str)} (h : PqA K H l qs) : Pqw K H l qs := by
  rcases h with ⟨as, h1, h2, h3⟩ | ⟨as, h1, h2, h3⟩
  · exact ⟨as, .inr h1, h2, fun i a q e f => .inr (h3 i a q e f)⟩
  · exact ⟨as, .inl h1, h2, fun i a q e f => .inl (h3 i a q e f)⟩
/-- tuple(a list) -/
def rTupF (K : PySem.W.Frag) : List V → Hp → VK → Prop := fun us H Q => ∃ p ys, us = [.ref p] ∧ SqL K H p ys ∧ ∀ l ob, H l = none → ob.cls = .type "tuple" → ob.dict = none → Q (.ref l) (upd H l (.frz ob (.tup ys)))
theorem asg_cut {te : TE} {i : Nat} {u : TS} {D : Ends} {σ : L2.St} {H : Hp} (R : V → Hp → Prop) (h2 : ∀ v H1, R v H1 → u D (σ.set i (some v)) H1) (h1 : (∀ v H1, R v H1 → u D (σ.set i (some v)) H1) → te σ H (fun v H1 => u D (σ.set i (some v)) H1)) : tSeq (tAsg te (gName i)) u D σ H := h1 h2
theorem byB_nil : byB [] = mn1 := if_pos rfl
theorem byB_ne {ys : List Str} (h : ys ≠ []) : byB ys = Txt.join bl1 ys := if_neg h
theorem heap_yes {zs : List Str} (hne : zs ≠ []) (hnd : zs.Nodup) (hnm : ∀ z ∈ zs, Nm z) : isHeapB (.tuple (zs.map PyData.str)) = true := by
  show (!(zs.map PyData.str).isEmpty && ((zs.map PyData.str).all isName && decide (((zs.map PyData.str).map strD).Nodup))) = true
  have e : (zs.map PyData.str).map strD = zs := by
    rw [List.map_map]
    exact List.map_id' zs
  rw [e, decide_eq_true hnd]
  have h1 : (zs.map PyData.str).all isName = true := List.all_eq_true.mpr fun d hd => by
    obtain ⟨z, hz, rfl⟩ := List.mem_map.mp hd
    exact isNm_iff.mpr (hnm z hz)
  rw [h1]
  cases zs with
  | nil => exact absurd rfl hne
  | cons _ _ => rfl
def tJoin (ts : List TE) : TE := fun σ H Q => tJs ts Str.empty σ H fun out H1 => Q (.str out) H1
theorem pe_joinedD {X : Cx} {v1 v2 : Expr} {rest : List Expr} {ts : List TE} {pos : Pos} (h : PJ X (v1 :: v2 :: rest) ts) : PE X (.JoinedStr (v1 :: v2 :: rest) pos) (tJoin ts) := pe_joined h
theorem lt_of_le {p q : Str × Str} (h : leP p q) (ne : p ≠ q) : ltP p q := by
  rcases h with h | ⟨e, h⟩
  · exact .inl h
  · refine .inr ⟨e, ?_⟩
    rcases Decidable.em (p.2.cps.toList < q.2.cps.toList) with hl | hl
    · exact hl
    · exact absurd (Prod.ext e (str_same (List.le_antisymm h (List.not_lt.mp hl)))) ne
theorem Ties.data {zs : List Str} {H : Hp} {r : Addr} {L : SL} (hT : Ties zs H r L) : dTies L = .tuple ((L.map prOf).map dPr) := by
  show PyData.tuple _ = _
  congr 1
  rw [List.map_map]
  refine List.map_congr_left fun a ha => ?_
  obtain ⟨x, y, h1, _⟩ := (hT.2.1 a ha).2
  have f1 : prOf a = (x, y) := by
    unfold prOf
    rw [h1]
  show _ = dPr (prOf a)
  rw [f1]
  show PyData.tuple (a.2.map PyData.str) = _
  rw [h1]
  rfl
theorem Ties.nodup {zs : List Str} {H : Hp} {r : Addr} {L : SL} (hT : Ties zs H r L) : (L.map prOf).Nodup := by
  refine List.pairwise_map.mpr (List.Pairwise.imp_of_mem (fun {a b} ha hb hab e => hab ?_) (List.pairwise_map.mp hT.2.2.1))
  obtain ⟨x, y, h1, _⟩ := (hT.2.1 a ha).2
  obtain ⟨z, u, h2, _⟩ := (hT.2.1 b hb).2
  have f1 : prOf a = (x, y) := by
    unfold prOf
    rw [h1]
  have f2 : prOf b = (z, u) := by
    unfold prOf
    rw [h2]
  rw [f1, f2] at e
  injection e with e5 e6
  rw [h1, h2, e5, e6]
theorem Ties.rise {zs : List Str} {H : Hp} {r : Addr} {L : SL} (hT : Ties zs H r L) : (L.map prOf).Pairwise ltP := by
  have h1 := ties_le (fun p hp => (hT.2.1 p hp).2) hT.2.2.2
  have h2 : (L.map prOf).Pairwise (· ≠ ·) := hT.nodup
  exact h1.imp₂ (fun a b x y => lt_of_le x y) h2
theorem lay_words : ∀ {ys : List Str}, (∀ y ∈ ys, PyData.strOk y = true) → PyData.canLayAll0 (ys.map PyData.str) = true
  | [], _ => rfl
  | y :: r, h => by
    show (PyData.strOk y && PyData.canLayAll0 (r.map PyData.str)) = true
    rw [h y List.mem_cons_self, lay_words fun z hz => h z (List.mem_cons_of_mem _ hz)]
    rfl
theorem dep_words : ∀ ys : List Str, PyData.depthAll (ys.map PyData.str) = 0
  | [] => rfl
  | y :: r => by
    show max 0 (PyData.depthAll (r.map PyData.str)) = 0
    rw [dep_words r]
    rfl
theorem shp_words {ys : List Str} (h : ∀ y ∈ ys, PyData.strOk y = true) : SeqAt.shaped (.list (ys.map PyData.str)) = true := by
  show (PyData.canLayAll0 (ys.map PyData.str) && decide (PyData.depthAll (ys.map PyData.str) + 1 ≤ 64)) = true
  rw [lay_words h, dep_words]
  rfl
end HF
/-! repr of a list with a dict of texts by texts in it -/
namespace HF
open PySem PySem.Spec PyProof.Rows L2
/-- without lists and dicts -/
def flatD : PyData → Bool
  | .none | .bool _ | .int _ | .str _ => true
  | .tuple xs => flatAll xs
  | .list _ | .dict _ => false
where flatAll : List PyData → Bool
  | [] => true
  | x :: xs => flatD x && flatAll xs
mutual
theorem reads_flat {h : Heap} : ∀ {v : Value} {d : PyData} {as : List Addr}, Reads h v d as → flatD d = true → as = []
  | _, _, _, .none, _ => rfl
  | _, _, _, .bool _, _ => rfl
  | _, _, _, .int _ _, _ => rfl
  | _, _, _, .str _ _, _ => rfl
  | _, _, _, .list _ _ _ _, e => nomatch e
  | _, _, _, .tuple _ _ _ r, e => readsAll_flat r e
  | _, _, _, .dict _ _ _ _ _, e => nomatch e
theorem readsAll_flat {h : Heap} : ∀ {vs : List Value} {ds : List PyData} {as : List Addr}, ReadsAll h vs ds as → flatD.flatAll ds = true → as = []
  | _, _, _, .nil, _ => rfl
  | _, _, _, .cons r rs, e => by
    have e2 := Bool.and_eq_true_iff.mp e
    rw [reads_flat r e2.1, readsAll_flat rs e2.2]
    rfl
end
theorem ReadsAll.app {h : Heap} : ∀ {vs ws : List Value} {ds es : List PyData} {as bs : List Addr}, ReadsAll h vs ds as → ReadsAll h ws es bs → ReadsAll h (vs ++ ws) (ds ++ es) (as ++ bs)
  | _, _, _, _, _, _, .nil, r => r
  | _, _, _, _, _, _, .cons a t, r => by
    rw [List.append_assoc]
    exact .cons a (ReadsAll.app t r)
/-- a dict of texts by texts -/
abbrev dkS (ks : List (Str × Str)) : List (Key × V) := ks.map fun k => ((Sum.inr k.1 : Key), V.str k.2)
abbrev dSS (ks : List (Str × Str)) : PyData := .dict (ks.map fun k => (PyData.str k.1, PyData.str k.2))
theorem pairs_read {P : Program} {w : World} {h : Heap} : ∀ {ks : List (Str × Str)} {vs : List (Key × Value)} {es : List DictEntry}, KV (dkS ks) vs → Pairs (mixKind P w) es vs → ReadsAll h (es.map (·.key)) ((ks.map fun k => (PyData.str k.1, PyData.str k.2)).map (·.1)) [] ∧ ReadsAll h (es.map (·.val)) ((ks.map fun k => (PyData.str k.1, PyData.str k.2)).map (·.2)) []
  | [], _, _, .nil, .nil => ⟨.nil, .nil⟩
  | k :: ks, _ :: _, en :: _, .cons r rs, .cons p1 p2 ps => by
    obtain ⟨i1, i2⟩ := pairs_read (h := h) rs ps
    obtain ⟨r1, r2⟩ := r
    rw [← r1] at p1
    have p1 : keyIs (Sum.inr k.1) en.key = true := p1
    obtain ⟨t, e⟩ : ∃ t, en.key = Value.str k.1 t := by
      rcases keyIs_shape p1 with ⟨i, t, e1, _⟩ | ⟨x, t, e1, e2⟩
      · exact nomatch e1
      · injection e1 with e1
        exact ⟨t, e1 ▸ e2⟩
    obtain ⟨t2, e2⟩ := r2
    refine ⟨?_, ?_⟩
    · rw [List.map_cons, List.map_cons, List.map_cons, e]
      exact ReadsAll.cons (as := []) (.str _ _) i1
    · rw [List.map_cons, List.map_cons, List.map_cons, p2, e2]
      exact ReadsAll.cons (as := []) (.str _ _) i2
section
variable {X : Cx}
/-- a list written out: no module table -/
def tLstN (t : TA) : TE := fun σ H Q => t σ H fun xs H1 => xs.length ≤ sizeLine ∧ ∀ l, H1 l = none → l ≠ sysModules → Q (.ref l) (upd H1 l (.lst xs))
theorem pe_lstN {es : List Expr} {t : TA} {pos : Pos} (h : PA X es t) : PE X (.List es pos) (tLstN t) := by
  refine ⟨fun pins s σ H Q I hq => ?_⟩
  refine wpAny_List_spliced (thn (h.run pos pins s σ H _ I hq) fun us s1 ⟨xs, H1, I1, r, z, q⟩ => ⟨by rw [← r.length]; exact z, ?_⟩)
  have hf : H1 s1.heap.objs.size = none := I1.hok.fresh (Nat.le_refl _)
  refine ⟨.ref s1.heap.objs.size, upd H1 s1.heap.objs.size (.lst xs), I1.laid (t' := s1.toks) (fun b u e => Heap.get?_push_of_some _ e) (Nat.le_refl _) ?_, rfl, q _ hf (Nat.ne_of_gt I1.big)⟩
  exact ⟨z, us, 0, r, Heap.get?_push_size _ rfl⟩
/-- repr([.., a dict]) -/
def rRepM (K : PySem.W.Frag) : List V → Hp → VK → Prop := fun us H Q => ∃ (a D : Addr) (xs : List V) (ds : List PyData) (ks : List (Str × Str)), us = [.ref a] ∧ H a = some (.lst (xs ++ [.ref D])) ∧ a ≠ sysModules ∧ DpAll K H xs ds ∧ flatD.flatAll ds = true ∧ H D = some (.dK (dkS ks)) ∧
  (PyData.list (ds ++ [dSS ks])).showable = true ∧ (PyData.list (ds ++ [dSS ks])).depth < 60 ∧ (PyData.list (ds ++ [dSS ks])).shown.length ≤ sizeLine ∧ Q (.str (PyData.list (ds ++ [dSS ks])).shown) H
theorem call_reprM (hg : X.A.guards = some []) (hu : X.A.units + 64 < cLine) : CallR X (.builtin "repr") (rRepM X.K) := by
  intro pins st σ H us ws Q I rel hyp
  obtain ⟨a, D, xs, ds, ks, rfl, ha, hna, hd, hfl, hD, hs, hdep, hz, q⟩ := hyp
  obtain ⟨wv, rfl, rw1⟩ := vals1 rel
  cases rw1
  obtain ⟨_, its, n, hv, hg2⟩ := I.hok a _ ha
  obtain ⟨_, hnD, vs, kv, o, es, ep, o1, o2, o3, _, prs, _⟩ := dk_of I.hok hD
  obtain ⟨u1, u2, rfl, v1, v2⟩ := StX.vals_split hv
  obtain ⟨as, r1⟩ := Dp.readsAll I ds _ _ hd v1
  have eas := readsAll_flat r1 hfl
  subst eas
  obtain ⟨k1, k2⟩ := pairs_read (h := st.heap) kv prs
  have rD : Reads st.heap (.ref D) (dSS ks) (D :: [] ++ []) := .dict o1 o2.1 o3 k1 k2
  have r2 : ReadsAll st.heap u2 [dSS ks] ((D :: [] ++ []) ++ []) := by
    cases v2 with
    | cons rr tt =>
      cases tt
      cases rr
      exact .cons rD .nil
  have rL : Reads st.heap (.ref a) (.list (ds ++ [dSS ks])) (a :: ([] ++ ((D :: [] ++ []) ++ []))) := .list hg2 rfl rfl (by simpa using ReadsAll.app r1 r2)
  refine repr_of_reads' rL hs (fun _ hm => ?_) hg (by omega) (fun _ _ e => e) (fun h1 u tk kp => ⟨.str _, H, I.kept (t' := tk) kp, ⟨u, rfl⟩, q⟩) hz
  have hm : sysModules ∈ [a, D] := hm
  rcases List.mem_cons.mp hm with e | hm
  · exact hna e.symm
  · have e := List.mem_singleton.mp hm
    rw [← e] at hnD
    exact absurd hnD (by simp)
end
end HF
namespace HF
open PySem PySem.Spec PyProof.Rows L2
section
variable {P : Program} {w : World} {K : PySem.W.Frag} {mg : Str → Option Value} {base : Heap}
abbrev sTrn : Stmt := topS 9
abbrev nTrn : List Str := ["ties", "book", "friend"]
theorem scTrn : FnScope nTrn ["ties"] (defScope sTrn) := ⟨rfl, rfl, rfl, by decide +kernel, rfl, by decide +kernel, by decide +kernel⟩
theorem ok_Trn {f fR : Addr} {fd dR : FuncData} {k : Nat} (F : Fun K "turned" "turned" sTrn f fd) (FR : Fun K "rising_ties" "rising_ties" sRis fR dR) (bR : Binds K dR ["pairs"] []) (gR : mg "rising_ties" = some (.ref fR)) (mT : mg "tuple" = none) (mS : mg "sorted" = none) : FnOk P w K mg base CX0 (k + 2) f fd ["ties"] (spRis K swq) := by
  have GR : FnOk P w K mg base CX0 (k + 1) fR dR ["pairs"] (spRis K id) := ok_Ris FR mT mS
  refine F.ok scTrn (fun vs H Q E h => ?_) (fun cdv A outer s H vs Q E hr h => ?_)
  · obtain ⟨l, qs, rfl, _⟩ := h
    rfl
  · obtain ⟨l, qs, rfl, ⟨as, ha1, ha2, ha3⟩, hl, q⟩ := h
    refine ⟨_, pss_one (ps_ret (pe_call GR hr (by rfl) gR FR.kp bR .nil pass0 (pa_cons
      (pe_lc (own := [("book", 1), ("friend", 2)]) (g := gSeq K 2 (gCons (gName 1) (gCons (gName 2) gNil))) (tt := tYes) rfl scTrn.nd (pi_seq (pv 0)) (blkOk_by (N := nTrn) (sc := defScope sTrn) (by decide +kernel)) (fun _ _ _ _ _ => pg_seq rfl (pgs_cons (pg_name (i := 1) scTrn.nd rfl (.inl rfl)) (pgs_cons (pg_name (i := 2) scTrn.nd rfl (.inl rfl)) pgs_nil))) (fun _ _ _ _ _ => pts_nil) (fun _ _ _ _ _ => pe_tup (pa_cons (pv 2) (pa_cons (pv 1) pa_nil)))) pa_nil))), ?_⟩
    refine ⟨.ref l, rfl, l, rfl, iseq ha1 fun J wk D nD => lc_it wk (fun i H4 => Same H H4 ∧ ∃ us, LPs H4 D us ∧ us.map (·.2) = (qs.take i).map swq) ⟨same_upd nD, [], ⟨upd_same, fun p hp => by cases hp⟩, rfl⟩ (fun i H4 _ h => Kp.of h.1) ?_ ?_⟩
    · rintro i x H4 H5 hi ⟨s4, us, hus, eus⟩ ⟨rfl, hx⟩
      rw [List.getElem?_map] at hx
      obtain ⟨a, ha, rfl⟩ := Option.map_eq_some_iff.mp hx
      rw [List.length_map] at hi
      have hq : qs[i]? = some qs[i] := List.getElem?_eq_getElem (by omega)
      have hat := ha3 i a _ ha hq
      generalize qs[i] = pq at *
      have hul : us.length = i := by
        have e := congrArg List.length eus
        rw [List.length_map, List.length_map, List.length_take] at e
        omega
      refine ⟨a, _, rfl, sameQ s4 hat, rfl, _, _, rfl, _, _, rfl, rfl, rfl, ?_⟩
      refine ⟨.str pq.2, rfl, .str pq.1, rfl, (by decide : (2 : Nat) ≤ sizeLine), fun t nt => ?_⟩
      have st := same_upd (o := .tup [.str pq.2, .str pq.1]) nt
      have ht : (upd H5 t (.tup [.str pq.2, .str pq.1])) t = some (.tup [.str pq.2, .str pq.1]) := upd_same
      generalize (upd H5 t (.tup [.str pq.2, .str pq.1])) = H6 at *
      have hu6 := hus.same st
      refine ⟨_, hu6.1, by rw [rfs_len, sizeLine_eq]; omega, same_put (s4.trans st) nD, _, hu6.push ht, ?_⟩
      rw [List.map_append, eus, List.take_add_one, hq, List.map_append]
      rfl
    · rintro H4 ⟨s4, us, hus, eus⟩
      rw [List.length_map, ha2, List.take_length] at eus
      refine ⟨D, us.map (·.2), rfl, Pqs.ofL hus, by rw [eus, List.length_map]; exact hl, fun H5 t ps s5 nt ht hps pm pw => ?_⟩
      rw [List.map_id, eus] at pm
      exact q _ t ps (s4.trans s5) (s4.free nt) ht hps pm pw
abbrev sCal : Stmt := topS 8
abbrev nCal : List Str := ["heap", "ties", "names", "lain", "book", "friend"]
theorem scCal : FnScope nCal ["heap", "ties", "names"] (defScope sCal) := ⟨rfl, rfl, rfl, by decide +kernel, rfl, by decide +kernel, by decide +kernel⟩
/-- by other names -/
def DS (H : Hp) (D : Addr) (zs : List Str) (f : Str → Str) : Prop := H D = some (.dK (dkS (zs.map fun x => (x, f x))))
theorem DS.get {H : Hp} {D : Addr} {zs : List Str} {f : Str → Str} {x : Str} (d : DS H D zs f) (hx : x ∈ zs) : DGet H D (.str x) (some (.str (f x))) := by
  have h := DGet.k (k := (Sum.inr x : Key)) (show H D = some (.dK (dkS (zs.map fun x => (x, f x)))) from d)
  have e : valV (dkS (zs.map fun x => (x, f x))) (Sum.inr x) = some (V.str (f x)) := by
    clear d h
    induction zs with
    | nil => cases hx
    | cons z r ih =>
      by_cases ez : z = x
      · subst ez
        simp [dkS, valV]
      · have hr : x ∈ r := by
          rcases List.mem_cons.mp hx with h | h
          · exact absurd h.symm ez
          · exact h
        have := ih hr
        simp [dkS, valV, ez] at this ⊢
        exact this
  rw [e] at h
  exact h
def spCal (K : PySem.W.Frag) : Sp := fun vs H Q _ => ∃ (h r D : Addr) (zs : List Str) (qs : List (Str × Str)) (f : Str → Str), vs = [.ref h, .ref r, .ref D] ∧ Hq K H h zs ∧ Pqs K H r qs ∧ DS H D zs f ∧ (∀ q ∈ qs, q.1 ∈ zs ∧ q.2 ∈ zs) ∧ zs.length ≤ 100 ∧ qs.length ≤ 400 ∧
  ∀ (H' : Hp) (t th tt : Addr) (ps : List TPr), Same H H' → H' t = some (.tup [.ref th, .ref tt]) → Tp H' th ((zs.map f).map V.str) → Tp H' tt (rfs ps) → (∀ p ∈ ps, AtT H' p) → (ps.map (·.2)).Perm (qs.map fun q => (f q.1, f q.2)) → (ps.map (·.2)).Pairwise leP → Q (.ref t) H'
theorem ok_Cal {f fR : Addr} {fd dR : FuncData} {k : Nat} (F : Fun K "called" "called" sCal f fd) (FR : Fun K "rising_ties" "rising_ties" sRis fR dR) (bR : Binds K dR ["pairs"] []) (gR : mg "rising_ties" = some (.ref fR)) (mT : mg "tuple" = none) (mS : mg "sorted" = none) : FnOk P w K mg base CX0 (k + 2) f fd ["heap", "ties", "names"] (spCal K) := by
  have GR : FnOk P w K mg base CX0 (k + 1) fR dR ["pairs"] (spRis K id) := ok_Ris FR mT mS
  refine F.ok scCal (fun vs H Q E h => ?_) (fun cdv A outer s H vs Q E hr h => ?_)
  · obtain ⟨h, r, D, zs, qs, g, rfl, _⟩ := h
    rfl
  · obtain ⟨h, r, D0, zs, qs, g, rfl, hz, ⟨as, ha1, ha2, ha3⟩, hD0, hcl, lz, lq, q⟩ := h
    refine ⟨_, pss_cons (ps_set (i := 3) scCal.nd rfl (.inl rfl) (pe_callTy call_tupleF (by rfl) mT (by decide +kernel) (pa_cons (pe_lc (own := [("book", 4)]) (g := gName 4) (tt := tYes) rfl scCal.nd (pi_seq (pv 0)) (blkOk_by (N := nCal) (sc := defScope sCal) (by decide +kernel)) (fun _ _ _ _ _ => pg_name (i := 4) scCal.nd rfl (.inl rfl)) (fun _ _ _ _ _ => pts_nil) (fun _ _ _ _ _ => pe_dget (u1 hr.units) (pv 2) (pv 4) (fun _ _ => rfl))) pa_nil)))
      (pss_one (ps_ret (pe_tup (pa_cons (pv 3) (pa_cons (pe_call GR hr (by rfl) gR FR.kp bR .nil pass0 (pa_cons
        (pe_lc (own := [("book", 4), ("friend", 5)]) (g := gSeq K 2 (gCons (gName 4) (gCons (gName 5) gNil))) (tt := tYes) rfl scCal.nd (pi_seq (pv 1)) (blkOk_by (N := nCal) (sc := defScope sCal) (by decide +kernel)) (fun _ _ _ _ _ => pg_seq rfl (pgs_cons (pg_name (i := 4) scCal.nd rfl (.inl rfl)) (pgs_cons (pg_name (i := 5) scCal.nd rfl (.inl rfl)) pgs_nil))) (fun _ _ _ _ _ => pts_nil) (fun _ _ _ _ _ => pe_tup (pa_cons (pe_dget (u1 hr.units) (pv 2) (pv 4) (fun _ _ => rfl)) (pa_cons (pe_dget (u1 hr.units) (pv 2) (pv 5) (fun _ _ => rfl)) pa_nil)))) pa_nil)) pa_nil))))), ?_⟩
    refine ⟨.ref h, rfl, h, rfl, iseq hz.sq fun J wk D nD => lc_it wk (fun i H4 => Same H H4 ∧ H4 D = some (.lst (((zs.take i).map g).map V.str))) ⟨same_upd nD, upd_same⟩ (fun i H4 _ h => Kp.of h.1) ?_ ?_⟩
    · rintro i x H4 H5 hi ⟨s4, hD⟩ ⟨rfl, hx⟩
      rw [List.getElem?_map] at hx
      obtain ⟨z, hz2, rfl⟩ := Option.map_eq_some_iff.mp hx
      rw [List.length_map] at hi
      have hDx : DS H5 D0 zs g := s4 _ _ hD0
      refine ⟨rfl, .ref D0, rfl, .str z, rfl, D0, _, rfl, hDx.get (List.mem_of_getElem? hz2), _, hD, ?_, same_put s4 nD, ?_⟩
      · rw [List.length_map, List.length_map, List.length_take, sizeLine_eq]
        omega
      · rw [upd_same, List.take_add_one, hz2, List.map_append, List.map_append]
        rfl
    rintro H4 ⟨s4, hD⟩
    rw [List.length_map, List.take_length] at hD
    refine ⟨D, _, rfl, .inl (.inl hD), fun th ob nth e1 e2 => ?_⟩
    have s5 : Same H4 (upd H4 th (.frz ob (.tup ((zs.map g).map V.str)))) := same_upd nth
    have h5 : Tp (upd H4 th (.frz ob (.tup ((zs.map g).map V.str)))) th ((zs.map g).map V.str) := ⟨ob, upd_same, e1, e2⟩
    generalize (upd H4 th (.frz ob (.tup ((zs.map g).map V.str)))) = H5 at *
    have s15 := s4.trans s5
    refine ⟨.ref th, rfl, .ref r, rfl, r, rfl, iseq (sameQ s15 ha1) fun J2 wk2 D2 nD2 => lc_it wk2 (fun i H6 => Same H5 H6 ∧ ∃ us, LPs H6 D2 us ∧ us.length ≤ i ∧ us.map (·.2) = (qs.take i).map fun q => (g q.1, g q.2)) ⟨same_upd nD2, [], ⟨upd_same, fun p hp => by cases hp⟩, Nat.le_refl _, rfl⟩ (fun i H6 _ h => Kp.of h.1) ?_ ?_⟩
    · rintro i x H6 H7 hi ⟨s6, us, hus, hul, eus⟩ ⟨rfl, hx⟩
      rw [List.getElem?_map] at hx
      obtain ⟨a, ha, rfl⟩ := Option.map_eq_some_iff.mp hx
      rw [List.length_map] at hi
      have hq : qs[i]? = some qs[i] := List.getElem?_eq_getElem (by omega)
      have hat := ha3 i a _ ha hq
      have hc := hcl _ (List.mem_of_getElem? hq)
      generalize qs[i] = pq at *
      have s16 := s15.trans s6
      have hDx : DS H7 D0 zs g := s16 _ _ hD0
      refine ⟨a, _, rfl, sameQ s16 hat, rfl, _, _, rfl, _, _, rfl, rfl, rfl, ?_⟩
      refine ⟨.ref D0, rfl, .str pq.1, rfl, D0, _, rfl, hDx.get hc.1, .ref D0, rfl, .str pq.2, rfl, D0, _, rfl, hDx.get hc.2, (by decide : (2 : Nat) ≤ sizeLine), fun t nt => ?_⟩
      have st := same_upd (o := .tup [.str (g pq.1), .str (g pq.2)]) nt
      have ht : (upd H7 t (.tup [.str (g pq.1), .str (g pq.2)])) t = some (.tup [.str (g pq.1), .str (g pq.2)]) := upd_same
      generalize (upd H7 t (.tup [.str (g pq.1), .str (g pq.2)])) = H8 at *
      have hu8 := hus.same st
      refine ⟨_, hu8.1, by rw [rfs_len, sizeLine_eq]; omega, same_put (s6.trans st) nD2, _, hu8.push ht, by rw [List.length_append]; simp only [List.length_cons, List.length_nil]; omega, ?_⟩
      rw [List.map_append, eus, List.take_add_one, hq, List.map_append]
      rfl
    rintro H6 ⟨s6, us, hus, hul, eus⟩
    rw [List.length_map] at hul
    rw [List.length_map, ha2, List.take_length] at eus
    refine ⟨D2, us.map (·.2), rfl, Pqs.ofL hus, by rw [List.length_map]; omega, fun H7 tt ps s7 ntt htt hps pm pw => ?_⟩
    rw [List.map_id, eus] at pm
    refine ⟨(by decide : (2 : Nat) ≤ sizeLine), fun t nt => ?_⟩
    have s8 : Same H7 (upd H7 t (.tup [.ref th, .ref tt])) := same_upd nt
    have s58 := (s6.trans s7).trans s8
    exact q _ t th tt ps (s15.trans s58) upd_same (tpS h5 s58) (tpS htt s8) (fun p hp => s8 _ _ (hps p hp)) pm pw
abbrev sSh : Stmt := initOf (topS 4)
theorem scSh : FnScope ["self", "book"] ["self", "book"] (defScope sSh) := ⟨rfl, rfl, rfl, by decide +kernel, rfl, by decide +kernel, by decide +kernel⟩
abbrev XSh (K : PySem.W.Frag) (mg : Str → Option Value) (C : Addr) := XT K mg "Shared" "Shared.__init__" sSh "book" "RuntimeError" "RuntimeError.__new__" "RuntimeError.__init__" bmRE C
theorem ok_Sh {C : Addr} {k : Nat} (t : XSh K mg C) (mB : mg "RuntimeError" = none) : FnOk P w K mg base CX0 (k + 1) t.fI t.dI ["self", "book"] (spXI C "book") := by
  refine t.F.ok scSh (fun vs H Q E h => ?_) (fun cdv A outer s H vs Q E hr h => ?_)
  · obtain ⟨a, v, rfl, _⟩ := h
    rfl
  · obtain ⟨a, v, rfl, ha, q⟩ := h
    refine ⟨_, pss_cons (ps_expr (pe_binit (B := "RuntimeError") (newId := "RuntimeError.__new__") (initId := "RuntimeError.__init__") (bmB := bmRE) (by rfl) mB (by decide +kernel) (by decide) (by decide) (by kernel_rfl) (by decide +kernel) (by decide +kernel) t.vV (pa_cons (pv 0) (pa_cons pe_str pa_nil))))
      (pss_one (ps_xst (B := "RuntimeError") (newId := "RuntimeError.__new__") (initId := "RuntimeError.__init__") (bmB := bmRE) (pv 0) (pv 1))), ?_⟩
    refine ⟨.ref a, rfl, a, C, _, rfl, (by decide : (1 : Nat) ≤ 1000), t.T, ha, v, rfl, .ref a, rfl, a, C, rfl, t.T, t.no, ha, fun dx n1 n2 => ?_⟩
    exact q dx n1 n2
theorem xd_sameS {H : Hp} {a dx C : Addr} {v : V} {f : Str} (na : H a = none) (nd : (upd H a (exo a C none)) dx = none) (ne : dx ≠ a) :
    Same H (upd (del (upd (upd (upd H a (exo a C none)) dx (exd dx [(f, v)])) a (exo a C (some dx))) a) dx (.xd [(f, v)])) := by
  rw [upd_ne ne] at nd
  intro z o ez
  have n1 : z ≠ dx := ne_of_none ez nd
  have n2 : z ≠ a := ne_of_none ez na
  rw [upd_ne n1, del_ne n2, upd_ne n2, upd_ne n1, upd_ne n2]
  exact ez
def spPilX (K : PySem.W.Frag) (CS : Addr) : Sp := fun vs H Q E => ∃ (u v h0 r0 h1 r1 : Addr) (zs ws : List Str) (q0 q1 : List (Str × Str)), vs = [.ref u, .ref v] ∧ Sq K H u [.ref h0, .ref r0] ∧ Sq K H v [.ref h1, .ref r1] ∧ Hq K H h0 zs ∧ Hq K H h1 ws ∧ Pqs K H r0 q0 ∧ Pqs K H r1 q1 ∧ zs.length ≤ 100 ∧ ws.length ≤ 100 ∧ q0.length ≤ 400 ∧ q1.length ≤ 400 ∧
  (srt (zs.filter (inL ws)) = [] → ∀ (H' : Hp) (t th tt : Addr) (ps : List TPr), Same H H' → H' t = some (.tup [.ref th, .ref tt]) → Tp H' th ((zs ++ ws).map V.str) → Tp H' tt (rfs ps) → (∀ p ∈ ps, AtT H' p) → (ps.map (·.2)).Perm (q0 ++ q1) → (ps.map (·.2)).Pairwise leP → Q (.ref t) H') ∧
  (∀ (m : Str) (r : List Str), srt (zs.filter (inL ws)) = m :: r → ∀ (H' : Hp) (dd : Addr), Same H H' → H' dd = some (.xd [(("book" : Str), .str m)]) → E (.ref CS) (some dd) H')
theorem ok_PilX {f fR CS : Addr} {fd dR : FuncData} {k : Nat} (F : Fun K "piled" "piled" sPil f fd) (tS : XSh K mg CS) (mRE : mg "RuntimeError" = none) (FR : Fun K "rising_ties" "rising_ties" sRis fR dR) (bR : Binds K dR ["pairs"] []) (gR : mg "rising_ties" = some (.ref fR)) (mT : mg "tuple" = none) (mS : mg "sorted" = none) (mL : mg "list" = none) : FnOk P w K mg base (L2.CX P w) (k + 3) f fd ["upper", "lower"] (spPilX K CS) := by
  have GR : FnOk P w K mg base CX0 (k + 1) fR dR ["pairs"] (spRis K id) := ok_Ris FR mT mS
  have GS : FnOk P w K mg base CX0 (k + 1) tS.fI tS.dI ["self", "book"] (spXI CS "book") := ok_Sh tS mRE
  refine F.okX scPil (fun vs H Q E h => ?_) (fun cdv A outer s H vs Q E hr h => ?_)
  · obtain ⟨u, v, h0, r0, h1, r1, zs, ws, q0, q1, rfl, _⟩ := h
    rfl
  · obtain ⟨u, v, h0, r0, h1, r1, zs, ws, q0, q1, rfl, hu, hv, hz, hw, ⟨as, ha1, ha2, ha3⟩, ⟨bs, hb1, hb2, hb3⟩, lz, lw, l0, l1, q, qE⟩ := h
    have rr1 := hr.mono (show k + 1 ≤ k + 2 by omega)
    refine ⟨_, pss_cons (ps_asg (pv 0) (pg_seq rfl (pgs_cons (pg_name (i := 2) scPil.nd rfl (.inl rfl)) (pgs_cons (pg_name (i := 3) scPil.nd rfl (.inl rfl)) pgs_nil))))
      (pss_cons (ps_asg (pv 1) (pg_seq rfl (pgs_cons (pg_name (i := 4) scPil.nd rfl (.inr rfl)) (pgs_cons (pg_name (i := 5) scPil.nd rfl (.inl rfl)) pgs_nil))))
      (pss_cons (ps_set (i := 6) scPil.nd rfl (.inl rfl) (pe_callB (cr_srt hr.units) (by rfl) mS (by decide +kernel) (pa_cons (pe_lc (own := [("book", 7)]) (g := gName 7) rfl scPil.nd (pi_seq (pv 2)) (blkOk_by (N := nPil) (sc := defScope sPil) (by decide +kernel)) (fun _ _ _ _ _ => pg_name (i := 7) scPil.nd rfl (.inl rfl)) (fun _ _ _ _ _ => pts_one (pt_cmpR (r := rIn K false) op_in_seq (pv 7) (pv 4) rfl)) (fun _ _ _ _ _ => pv 7)) pa_nil)))
      (pss_cons (ps_if (pt_truth (pv 6) (fun _ => rfl)) (pss_one (ps_raise rfl (takes_of rfl rfl rfl rfl) (pmk_x tS.T tS.iC tS.tI GS hr tS.b .nil pass0 (by rfl) tS.gC (by exact (pa_cons (pe_ix (r := rIxL K) ix_list (pv 6) pe_int (fun _ _ => rfl)) pa_nil))))) pss_nil)
      (pss_one (ps_ret (pe_tup (pa_cons (pe_op (r := rCatTp K) op_catTp (pe_callTy call_tupQ (by rfl) mT (by decide +kernel) (pa_cons (pv 2) pa_nil)) (pe_callTy call_tupQ (by rfl) mT (by decide +kernel) (pa_cons (pv 4) pa_nil)))
        (pa_cons (pe_call GR rr1 (by rfl) gR FR.kp bR .nil pass0 (pa_cons (pe_op op_cat (pe_callTy call_list_of (by rfl) mL (by decide +kernel) (pa_cons (pv 3) pa_nil)) (pe_callTy call_list_of (by rfl) mL (by decide +kernel) (pa_cons (pv 5) pa_nil))) pa_nil)) pa_nil)))))))), ?_⟩
    refine ⟨.ref u, rfl, u, _, rfl, hu, rfl, _, _, rfl, _, _, rfl, rfl, ?_⟩
    refine ⟨.ref v, rfl, v, _, rfl, hv, rfl, _, _, rfl, _, _, rfl, rfl, ?_⟩
    refine ⟨.ref h0, rfl, h0, rfl, iseq hz.sq fun J wk D nD => lc_it wk (fun i H4 => Same H H4 ∧ H4 D = some (.lst (((zs.take i).filter (inL ws)).map V.str))) ⟨same_upd nD, upd_same⟩ (fun i H4 _ h => Kp.of h.1) ?_ ?_⟩
    · rintro i x H4 H5 hi ⟨s4, hD⟩ ⟨rfl, hx⟩
      rw [List.getElem?_map] at hx
      obtain ⟨b, hb, rfl⟩ := Option.map_eq_some_iff.mp hx
      rw [List.length_map] at hi
      refine ⟨rfl, .str b, rfl, .ref h1, rfl, h1, _, rfl, sameQ s4 hw.sq, rfl, strs_flat _, _, rfl, ?_⟩
      rw [if_neg (by decide), inV_strs, List.take_add_one, hb, List.filter_append]
      cases hc : decide (b ∈ ws) with
      | false =>
        have hc2 : inL ws b = false := hc
        exact iteF ⟨s4, by rw [hD]; simp [hc2]⟩
      | true =>
        have hc2 : inL ws b = true := hc
        refine iteT ⟨.str b, rfl, _, hD, ?_, same_put s4 nD, ?_⟩
        · have := List.length_filter_le (inL ws) (zs.take i)
          rw [List.length_take] at this
          rw [List.length_map, sizeLine_eq]
          omega
        · rw [upd_same, List.map_append]
          simp [hc2]
    rintro H4 ⟨s4, hD⟩
    rw [List.length_map, List.take_length] at hD
    refine ⟨D, _, rfl, .inl (.inl (.inl hD)), Nat.le_trans (List.length_filter_le _ _) (by omega), fun p1 np1 => ?_⟩
    have s5 : Same H4 (upd H4 p1 (.lst ((srt (zs.filter (inL ws))).map V.str))) := same_upd np1
    have h5 : (upd H4 p1 (.lst ((srt (zs.filter (inL ws))).map V.str))) p1 = some (.lst ((srt (zs.filter (inL ws))).map V.str)) := upd_same
    generalize (upd H4 p1 (.lst ((srt (zs.filter (inL ws))).map V.str))) = H5 at *
    refine ⟨.ref p1, rfl, _, .inl ⟨_, .inl (.inl h5), rfl⟩, ?_⟩
    have s15 := s4.trans s5
    cases hm : srt (zs.filter (inL ws)) with
    | cons m r =>
      rw [hm] at h5
      refine iteT ⟨.ref p1, rfl, p1, _, 0, .str m, rfl, rfl, .inl (.inl h5), atI_nat (j := 0) rfl, (by decide : (1 : Nat) ≤ 1000), fun a na => ⟨a, .str m, rfl, upd_same, fun dx n1 n2 => ⟨rfl, dx, [(("book" : Str), .str m)], upd_same, ?_, ?_, ?_⟩⟩⟩
      · rw [upd_ne n2, upd_same]
      · rw [upd_ne n2] at n1
        exact n1
      · have sx := xd_sameS (f := "book") (v := .str m) na n1 n2
        exact qE m r hm _ dx (s15.trans sx) upd_same
    | nil =>
    refine iteF ?_
    have q := q hm
    refine ⟨.ref h0, rfl, h0, zs, rfl, hz.same s15, fun H6 t6 s6 ht6 => ?_⟩
    have s16 := s15.trans s6
    refine ⟨.ref h1, rfl, h1, ws, rfl, hw.same s16, fun H7 t7 s7 ht7 => ?_⟩
    have s17 := s16.trans s7
    refine ⟨t6, t7, _, _, rfl, rfl, tpS ht6 s7, ht7, by rw [List.length_map, List.length_map, sizeLine_eq]; omega, fun th H8 s8 hth => ?_⟩
    rw [← List.map_append] at hth
    have s18 := s17.trans s8
    refine ⟨.ref r0, rfl, r0, _, rfl, sameQ s18 ha1, fun l8 nl8 => ?_⟩
    have s_9 : Same H8 (upd H8 l8 (.lst (as.map V.ref))) := same_upd nl8
    have h_l8 : (upd H8 l8 (.lst (as.map V.ref))) l8 = some (.lst (as.map V.ref)) := upd_same
    generalize (upd H8 l8 (.lst (as.map V.ref))) = H9 at *
    have s19 := s18.trans s_9
    refine ⟨.ref r1, rfl, r1, _, rfl, sameQ s19 hb1, fun l9 nl9 => ?_⟩
    have s_10 : Same H9 (upd H9 l9 (.lst (bs.map V.ref))) := same_upd nl9
    have h_l9 : (upd H9 l9 (.lst (bs.map V.ref))) l9 = some (.lst (bs.map V.ref)) := upd_same
    generalize (upd H9 l9 (.lst (bs.map V.ref))) = H10 at *
    refine ⟨l8, l9, _, _, rfl, rfl, s_10 _ _ h_l8, h_l9, by rw [List.length_map, List.length_map, sizeLine_eq]; omega, fun lc nlc => ?_⟩
    have s_11 : Same H10 (upd H10 lc (.lst (as.map V.ref ++ bs.map V.ref))) := same_upd nlc
    have h_lc : (upd H10 lc (.lst (as.map V.ref ++ bs.map V.ref))) lc = some (.lst ((as ++ bs).map V.ref)) := by
      rw [upd_same, List.map_append]
    generalize (upd H10 lc (.lst (as.map V.ref ++ bs.map V.ref))) = H11 at *
    have s1b := (s19.trans s_10).trans s_11
    have hpq : Pqs K H11 lc (q0 ++ q1) := by
      refine ⟨as ++ bs, .inl (.inl (.inl h_lc)), by rw [List.length_append, List.length_append, ha2, hb2], fun i a q2 e g => ?_⟩
      rw [List.getElem?_append] at e g
      rw [ha2] at e
      split at e
      · rename_i hi
        rw [if_pos hi] at g
        exact sameQ s1b (ha3 i a q2 e g)
      · rename_i hi
        rw [if_neg hi] at g
        exact sameQ s1b (hb3 _ a q2 e g)
    refine ⟨lc, q0 ++ q1, rfl, hpq, by rw [List.length_append]; omega, fun H12 tt ps s12 ntt htt hps pm pw => ?_⟩
    rw [List.map_id] at pm
    refine ⟨(by decide : (2 : Nat) ≤ sizeLine), fun t nt => ?_⟩
    have s13 : Same H12 (upd H12 t (.tup [.ref th, .ref tt])) := same_upd nt
    have s8d := (((s_9.trans s_10).trans s_11).trans s12).trans s13
    exact q _ t th tt ps ((s1b.trans s12).trans s13) upd_same (tpS hth s8d) (tpS htt s13) (fun p hp => s13 _ _ (hps p hp)) pm pw
structure KinS (K : PySem.W.Frag) (CB CN CS CU : Addr) : Prop where
  xS : PySem.W.exmAny K (.ref CS) [.ref CB, .ref CN, .ref CS, .ref CU] = some true
  ss : PySem.W.kitOne K (.ref CS) (.ref CS) = some true
  sr : PySem.W.kitOne K (.ref CS) (.type "RuntimeError") = some true
abbrev sTol : Stmt := topS 21
abbrev nTol : List Str := ["_law_one", "_law_two", "_law_caught", "_law_found", "error"]
theorem scTol : FnScope nTol ["_law_one", "_law_two"] (defScope sTol) := ⟨rfl, rfl, rfl, by decide +kernel, rfl, by decide +kernel, by decide +kernel⟩
def spTol (K : PySem.W.Frag) : Sp := fun vs H Q _ => ∃ (u v h0 r0 h1 r1 : Addr) (zs ws : List Str) (q0 q1 : List (Str × Str)), vs = [.ref u, .ref v] ∧ Sq K H u [.ref h0, .ref r0] ∧ Sq K H v [.ref h1, .ref r1] ∧ Hq K H h0 zs ∧ Hq K H h1 ws ∧ Pqs K H r0 q0 ∧ Pqs K H r1 q1 ∧ zs.length ≤ 100 ∧ ws.length ≤ 100 ∧ q0.length ≤ 400 ∧ q1.length ≤ 400 ∧
  (srt (zs.filter (inL ws)) = [] → ∀ (H' : Hp) (t th tt : Addr) (ps : List TPr), Same H H' → H' t = some (.tup [.ref th, .ref tt]) → Tp H' th ((zs ++ ws).map V.str) → Tp H' tt (rfs ps) → (∀ p ∈ ps, AtT H' p) → (ps.map (·.2)).Perm (q0 ++ q1) → (ps.map (·.2)).Pairwise leP → Q (.ref t) H') ∧
  (∀ (m : Str) (r : List Str), srt (zs.filter (inL ws)) = m :: r → ∀ (H' : Hp) (l : Addr), Same H H' → H' l = some (.lst [.str "shared", .str m]) → Q (.ref l) H')
theorem ok_Tol {f fP CB CN CS CU : Addr} {fd dP : FuncData} {k : Nat} (F : Fun K "_law_told" "_law_told" sTol f fd) (FP : Fun K "piled" "piled" sPil fP dP) (bP : Binds K dP ["upper", "lower"] []) (gP : mg "piled" = some (.ref fP)) (GP : FnOk P w K mg base (L2.CX P w) (k + 3) fP dP ["upper", "lower"] (spPilX K CS))
    (tS : XSh K mg CS) (gB : mg "Barred" = some (.ref CB)) (gN : mg "NoBook" = some (.ref CN)) (gU : mg "Unlike" = some (.ref CU)) (kin : KinS K CB CN CS CU) (mI : mg "isinstance" = none) (mR : mg "RuntimeError" = none) : FnOk P w K mg base CX0 (k + 4) f fd ["_law_one", "_law_two"] (spTol K) := by
  refine F.ok scTol (fun vs H Q E h => ?_) (fun cdv A outer s H vs Q E hr h => ?_)
  · obtain ⟨u, v, h0, r0, h1, r1, zs, ws, q0, q1, rfl, _⟩ := h
    rfl
  · obtain ⟨u, v, h0, r0, h1, r1, zs, ws, q0, q1, rfl, hu, hv, hz, hw, hp0, hp1, lz, lw, l0, l1, q, qE⟩ := h
    refine ⟨_, pss_cons (ps_set (i := 2) scTol.nd rfl (.inl rfl) pe_non)
      (pss_cons (ps_try_hold (i := 4) (Wout := fun _ _ _ _ => False) rfl rfl scTol.nd rfl rfl rfl (by rfl) gB (by rfl) gN (by rfl) tS.gC (by rfl) gU takes0
          (fun W pn xe tk _ => pss_one (ps_set (i := 3) scTol.nd rfl (.inl rfl) (by exact (pe_callS GP hr (by rfl) gP FP.kp bP (fun σ => passAt tk σ) (by exact (pa_cons (pv 0) (pa_cons (pv 1) pa_nil)))))))
          (fun a oe cls d pn hz hf => pss_one (ps_set (i := 2) scTol.nd rfl (.inl rfl) (pv 4))))
      (pss_cons (ps_if (pt_cmp (pc_isN (pv 2))) (pss_one (ps_ret (pv 3))) pss_nil)
      (pss_one (ps_ret (pe_ifExp (PW.pt (pw_and (pt_val (pe_callB (id := "isinstance") (r := rIsX K) call_isX (by rfl) mI (by decide +kernel) (pa_cons (pv 2) (pa_cons (pe_glob (v := .ref CS) (by rfl) tS.gC rfl) pa_nil)))) (pw_and1 (pt_val (pe_callB (id := "isinstance") (r := rIsX K) call_isX (by rfl) mI (by decide +kernel) (pa_cons (pv 2) (pa_cons (pe_bltn (v := .ty "RuntimeError") (by rfl) mR (by decide +kernel) rfl) pa_nil))))))) (pe_lst (pa_cons pe_str (pa_cons (pe_xfH (pv 2)) pa_nil))) pe_non))))), ?_⟩
    refine ⟨.ref u, rfl, .ref v, rfl, u, v, h0, r0, h1, r1, zs, ws, q0, q1, rfl, hu, hv, hz, hw, hp0, hp1, lz, lw, l0, l1, fun hm H1 t th tt ps s1 ht hth htt hps pm pw => ?_, fun m r hm H1 dd s1 hdd => ⟨true, kin.xS, fun _ a na => ?_, fun z => nomatch z⟩⟩
    · refine ⟨.non, rfl, _, rfl, ?_⟩
      exact ⟨_, rfl, q hm H1 t th tt ps s1 ht hth htt hps pm pw⟩
    · refine ⟨.ref a, rfl, ?_⟩
      have hA : (upd H1 a (ExH (.ref CS) (some dd) a)) a = some (ExH (.ref CS) (some dd) a) := upd_same
      have s2 : Same H1 (upd H1 a (ExH (.ref CS) (some dd) a)) := same_upd na
      have hD := s2 _ _ hdd
      refine ⟨.ref a, rfl, _, rfl, ?_⟩
      refine ⟨.ref a, rfl, a, CS, dd, _, .ref CS, .ref CS, true, rfl, hA, hD, tS.I, (fun u r => r), kin.ss, _, rfl, ?_⟩
      refine ⟨.ref a, rfl, a, CS, dd, _, .ty "RuntimeError", .type "RuntimeError", true, rfl, hA, hD, tS.I, (fun u r => r), kin.sr, _, rfl, ?_⟩
      refine ⟨.ref a, rfl, a, CS, dd, _, .str m, rfl, hA, hD, rfl, tS.I, tS.no, (by decide : (2 : Nat) ≤ sizeLine), fun l nl => ?_⟩
      exact qE m r hm _ l ((s1.trans s2).trans (same_upd nl)) upd_same
end
end HF
namespace HF
open PySem PySem.Spec PyProof.Rows L2
abbrev sTies : Stmt := topS 20
abbrev nTies : List Str := ["_law_box_here", "_law_stack", "_law_kind", "_law_found", "_law_own", "_law_odds", "_law_mine", "_law_its", "_law_order"]
theorem scTies : FnScope nTies ["_law_box_here", "_law_stack"] (defScope sTies) := ⟨rfl, rfl, rfl, by decide +kernel, rfl, by decide +kernel, by decide +kernel⟩
section
variable {P : Program} {w : World} {K : PySem.W.Frag} {mg : Str → Option Value} {base : Heap}
theorem ok_ties {f fT fS : Addr} {fd fdT fdS : FuncData} {k : Nat} (F : Fun K "_law_ties" "_law_ties" sTies f fd) (FT : Fun K "_law_take" "_law_take" sTake fT fdT) (FS : Fun K "_law_strewn" "_law_strewn" sStrewn fS fdS)
    (bT : Binds K fdT ["_law_box_here", "_law_bound"] []) (bS : Binds K fdS ["_law_box_here", "_law_some"] []) (gT : mg "_law_take" = some (.ref fT)) (gS : mg "_law_strewn" = some (.ref fS))
    (mS : mg "sorted" = none) (mI : mg "int" = none) (mZ : mg "zip" = none) (mT : mg "tuple" = none) (mE : mg "set" = none) (ml : mg "len" = none) :
    FnOk P w K mg base CX0 (k + 3) f fd ["_law_box_here", "_law_stack"] (spTies K) := by
  have GT : FnOk P w K mg base CX0 (k + 1) fT fdT ["_law_box_here", "_law_bound"] spTake := ok_take FT
  have GS : FnOk P w K mg base CX0 (k + 2) fS fdS ["_law_box_here", "_law_some"] (spStrewn K) := ok_strewn FS FT bT gT ml
  refine F.ok scTies (fun vs H Q E h => ?_) (fun cdv A outer s H vs Q E hr h => ?_)
  · obtain ⟨p, t, c, zs, rfl, _⟩ := h
    rfl
  · obtain ⟨p, t, c, zs, rfl, hB, hc, hS, ntp, hnd, hlen, q⟩ := h
    have hBnn := hB.nn
    have r1 := hr.mono (show k + 1 ≤ k + 2 by omega)
    refine ⟨_, pss_cons (ps_par3 (i := 2) (j := 3) (l := 4) (by rfl) scTies.nd rfl rfl rfl (by decide) (by decide) (by decide) rfl rfl rfl (pa_cons (pe_call GT r1 (by rfl) gT FT.kp bT .nil pass0 (pa_cons (pv 0) (pa_cons pe_int pa_nil)))
          (pa_cons (pe_lst pa_nil) (pa_cons (pe_callB (cr_srt hr.units) (by rfl) mS (by decide +kernel) (pa_cons (pv 1) pa_nil)) pa_nil))) (by rfl))
      (pss_cons (ps_set (i := 5) scTies.nd rfl (.inl rfl) (pe_ix ix_list (pe_lst (pa_cons pe_int (pa_cons pe_int (pa_cons pe_int (pa_cons pe_int (pa_cons pe_int (pa_cons pe_int (pa_cons pe_int pa_nil)))))))) (pv 2) (fun _ _ => rfl)))
      (pss_cons (ps_for PassesOwn.never rfl (pi_list (pv 4)) (pg_name (i := 6) scTies.nd rfl (.inl rfl))
        (pss_one (ps_for PassesOwn.never rfl (pi_list (pv 4)) (pg_name (i := 7) scTies.nd rfl (.inl rfl))
          (pss_one (ps_if (PW.pt (pw_and (pt_cmpR op_ne (pv 6) (pv 7) (nomark _)) (pw_and1 (pt_cmpR op_gt (pv 5) pe_int (nomark _)))))
            (pss_one (ps_set (i := 3) scTies.nd rfl (.inl rfl) (pe_op op_cat (pv 3) (pe_op op_rep (pe_lst (pa_cons (pe_tup (pa_cons (pv 6) (pa_cons (pv 7) pa_nil))) pa_nil))
              (pe_callTy call_int1 (by rfl) mI (by decide +kernel) (pa_cons (pe_cmpR op_ne (pe_cmpR op_eq (pe_call GT r1 (by rfl) gT FT.kp bT .nil pass0 (pa_cons (pv 0) (pa_cons (pv 5) pa_nil))) pe_int (nomark _)) (pe_cmpR op_eq (pv 2) pe_int (nomark _)) (nomark _)) pa_nil)))))) pss_nil)))))
      (C8.pss_cut (ps_if (pt_cmpR op_eq (pv 2) pe_int (nomark _))
        (pss_cons (ps_set (i := 8) scTies.nd rfl (.inl rfl) (pe_call GS hr (by rfl) gS FS.kp bS .nil pass0 (pa_cons (pv 0) (pa_cons (pv 4) pa_nil))))
        (pss_one (ps_set (i := 3) scTies.nd rfl (.inl rfl) (pe_op op_cat (pv 3) (pe_lc (own := [("_law_mine", 6), ("_law_its", 7)]) (g := gTup K 2 (gCons (gName 6) (gCons (gName 7) gNil))) rfl scTies.nd
          (pi_zip (by rfl) mZ (pa_cons (pv 8) (pa_cons (pe_op op_cat (pe_slice sl_list (pv 8) (po_some pe_int) po_none) (pe_slice sl_list (pv 8) po_none (po_some pe_int))) pa_nil)))
          (blkOk_by (N := nTies) (sc := defScope sTies) (by decide +kernel)) (fun _ _ _ _ _ => pg_tup rfl (pgs_cons (pg_name (i := 6) scTies.nd rfl (.inl rfl)) (pgs_cons (pg_name (i := 7) scTies.nd rfl (.inl rfl)) pgs_nil)))
          (fun _ _ _ _ _ => pts_one (pt_cmpR op_ne (pv 6) (pv 7) (nomark _))) (fun _ _ _ _ _ => pe_tup (pa_cons (pv 6) (pa_cons (pv 7) pa_nil)))))))) pss_nil)
      (C8.pss_cut (ps_if (pt_cmpR op_eq (pv 2) pe_int (nomark _))
        (pss_one (ps_set (i := 3) scTies.nd rfl (.inl rfl) (pe_op op_cat (pv 3) (pe_lc (own := [("_law_mine", 6), ("_law_its", 7)]) (g := gTup K 2 (gCons (gName 6) (gCons (gName 7) gNil))) (tt := tYes) rfl scTies.nd
          (pi_list (pv 3))
          (blkOk_by (N := nTies) (sc := defScope sTies) (by decide +kernel)) (fun _ _ _ _ _ => pg_tup rfl (pgs_cons (pg_name (i := 6) scTies.nd rfl (.inl rfl)) (pgs_cons (pg_name (i := 7) scTies.nd rfl (.inl rfl)) pgs_nil)))
          (fun _ _ _ _ _ => pts_nil) (fun _ _ _ _ _ => pe_tup (pa_cons (pv 7) (pa_cons (pv 6) pa_nil))))))) pss_nil)
      (pss_one (ps_ret (pe_callTy call_tupleF (by rfl) mT (by decide +kernel) (pa_cons (pe_callB (cr_sortS rfl hr.units) (by rfl) mS (by decide +kernel) (pa_cons (pe_callTy (cr_setS rfl hr.units) (by rfl) mE (by decide +kernel) (pa_cons (pv 3) pa_nil)) pa_nil)) pa_nil)))))))), ?_⟩
    refine ⟨.ref p, rfl, p, 7, c, rfl, hB, by omega, by decide, by decide, fun kd c1 o hk0 hk1 hc1 hc2 hb1 => ?_⟩
    have ho1 : Oth p H (upd H p o) := Oth.put
    generalize (upd H p o) = H1 at *
    refine ⟨Nat.zero_le _, fun l0 nl0 => ⟨.ref t, rfl, t, zs, rfl, sameQ (same_upd nl0) (ho1.sq ntp hS), by omega, fun ow now => ⟨_, _, _, rfl, ?_⟩⟩⟩
    have s2 : Same H1 (upd (upd H1 l0 (.lst [])) ow (.lst ((srt zs).map V.str))) := (same_upd nl0).trans (same_upd now)
    have hl0 : (upd (upd H1 l0 (.lst [])) ow (.lst ((srt zs).map V.str))) l0 = some (.lst (rf [])) := same_upd now _ _ upd_same
    have how : (upd (upd H1 l0 (.lst [])) ow (.lst ((srt zs).map V.str))) ow = some (.lst ((srt zs).map V.str)) := upd_same
    have nl0p : l0 ≠ p := (hb1.new nl0).symm
    have nowp : ow ≠ p := ((hb1.ne (hb1.new nl0)).new now).symm
    generalize (upd (upd H1 l0 (.lst [])) ow (.lst ((srt zs).map V.str))) = H2 at *
    have hb2 := hb1.same s2
    have ho2 : Oth p H H2 := ho1.trans (Oth.of s2)
    obtain ⟨od, hod, hod0, hod6⟩ := at7 hk0 hk1
    refine ⟨(by decide : (7 : Nat) ≤ sizeLine), fun D7 nD7 => ⟨.int kd, rfl, D7, _, kd, _, rfl, rfl, .inl (.inl upd_same), hod, ?_⟩⟩
    have s3 : Same H2 (upd H2 D7 (.lst [.int 0, .int 6, .int 3, .int 2, .int 4, .int 6, .int 4])) := same_upd nD7
    generalize (upd H2 D7 (.lst [.int 0, .int 6, .int 3, .int 2, .int 4, .int 6, .int 4])) = H3 at *
    have hb3 := hb2.same s3
    have ho3 : Oth p H H3 := ho2.trans (Oth.of s3)
    have hown : ∀ x ∈ srt zs, x ∈ zs := fun x hx => (srt_perm zs).mem_iff.mp hx
    have hol : (srt zs).length ≤ 12 := by rw [srt_len]; exact hlen
    generalize srt zs = os at *
    refine ⟨.ref ow, rfl, ow, rfl, ⟨_, .inl (.inl (s3 _ _ how))⟩, for_list (xs := os.map V.str) (fun i σ H4 => ∃ (l : Addr) (L : SL) (c' : Int) (y6 y7 : Option V), σ = [some (.ref p), some (.ref t), some (.int kd), some (.ref l), some (.ref ow), some (.int od), y6, y7, none] ∧
        H4 l = some (.lst (rf L)) ∧ l ≠ p ∧ Prs zs H4 L ∧ L.length ≤ 12 * i ∧ c1 ≤ c' ∧ c' ≤ c1 + 12 * i ∧ Bx H4 p c' ∧ Oth p H H4 ∧ H4 ow = some (.lst (os.map V.str))) ?_ ?_ ?_ ?_⟩
    · exact ⟨l0, [], c1, none, none, rfl, s3 _ _ hl0, nl0p, Prs.nil, Nat.zero_le _, by omega, by omega, hb3, ho3, s3 _ _ how⟩
    · rintro i σ H4 hi ⟨l, L, c', y6, y7, rfl, hl, nlp, hpr, hL, hc3, hc4, hb4, ho4, how4⟩
      exact .inl (.inl how4)
    · rintro i v σ H4 hv ⟨l, L, c', y6, y7, rfl, hl, nlp, hpr, hL, hc3, hc4, hb4, ho4, how4⟩
      have hi : i < os.length := by
        have := (List.getElem?_eq_some_iff.mp hv).1
        rw [List.length_map] at this
        exact this
      rw [List.getElem?_map] at hv
      obtain ⟨x, hx, rfl⟩ := Option.map_eq_some_iff.mp hv
      have hxz := hown x (List.mem_of_getElem? hx)
      refine ⟨.ref ow, rfl, ow, rfl, ⟨_, .inl (.inl how4)⟩, for_list (xs := os.map V.str) (fun j σ H5 => ∃ (l : Addr) (L : SL) (c' : Int) (y7 : Option V), σ = [some (.ref p), some (.ref t), some (.int kd), some (.ref l), some (.ref ow), some (.int od), some (.str x), y7, none] ∧
          H5 l = some (.lst (rf L)) ∧ l ≠ p ∧ Prs zs H5 L ∧ L.length ≤ 12 * i + j ∧ c1 ≤ c' ∧ c' ≤ c1 + 12 * i + j ∧ Bx H5 p c' ∧ Oth p H H5 ∧ H5 ow = some (.lst (os.map V.str))) ?_ ?_ ?_ ?_⟩
      · exact ⟨l, L, c', y7, rfl, hl, nlp, hpr, by omega, by omega, by omega, hb4, ho4, how4⟩
      · rintro j σ H5 hj ⟨l, L, c', y7, rfl, hl, nlp, hpr, hL, hc3, hc4, hb5, ho5, how5⟩
        exact .inl (.inl how5)
      · rintro j v σ H5 hv ⟨l, L, c', y7, rfl, hl, nlp, hpr, hL, hc3, hc4, hb5, ho5, how5⟩
        have hj : j < os.length := by
          have := (List.getElem?_eq_some_iff.mp hv).1
          rw [List.length_map] at this
          exact this
        rw [List.getElem?_map] at hv
        obtain ⟨y, hy, rfl⟩ := Option.map_eq_some_iff.mp hv
        have hyz := hown y (List.mem_of_getElem? hy)
        have skip : ∃ (l : Addr) (L : SL) (c' : Int) (y7 : Option V), [some (V.ref p), some (.ref t), some (.int kd), some (.ref l), some (.ref ow), some (.int od), some (.str x), some (.str y), none] = [some (V.ref p), some (.ref t), some (.int kd), some (.ref l), some (.ref ow), some (.int od), some (.str x), y7, none] ∧
          H5 l = some (.lst (rf L)) ∧ l ≠ p ∧ Prs zs H5 L ∧ L.length ≤ 12 * i + (j + 1) ∧ c1 ≤ c' ∧ c' ≤ c1 + 12 * i + (j + 1 : Nat) ∧ Bx H5 p c' ∧ Oth p H H5 ∧ H5 ow = some (.lst (os.map V.str)) := ⟨l, L, c', _, rfl, hl, nlp, hpr, by omega, by omega, by omega, hb5, ho5, how5⟩
        refine ⟨.str x, rfl, .str y, rfl, rfl, _, rfl, ite2 (fun e => ?_) (fun e => iteF ⟨_, _, _, _, rfl, hl, nlp, hpr, by omega, by omega, by omega, hb5, ho5, how5⟩)⟩
        have hxy : x ≠ y := fun z => by
          subst z
          simp at e
        refine ⟨.int od, rfl, od, 0, rfl, rfl, _, rfl, ite2 (fun e2 => ?_) (fun e2 => ⟨_, _, _, _, rfl, hl, nlp, hpr, by omega, by omega, by omega, hb5, ho5, how5⟩)⟩
        have hod1 : 0 < od := of_decide_eq_true e2
        refine ⟨.ref l, rfl, .str x, rfl, .str y, rfl, (by decide : (2 : Nat) ≤ sizeLine), fun T nT => ⟨(by decide : (1 : Nat) ≤ sizeLine), fun La nLa => ?_⟩⟩
        have s6 : Same H5 (upd (upd H5 T (.tup [.str x, .str y])) La (.lst [.ref T])) := (same_upd nT).trans (same_upd nLa)
        have hT : (upd (upd H5 T (.tup [.str x, .str y])) La (.lst [.ref T])) T = some (.tup [.str x, .str y]) := same_upd nLa _ _ upd_same
        have hLa : (upd (upd H5 T (.tup [.str x, .str y])) La (.lst [.ref T])) La = some (.lst [.ref T]) := upd_same
        have nTp : T ≠ p := (hb5.new nT).symm
        have nLap : La ≠ p := ((hb5.ne (hb5.new nT)).new nLa).symm
        generalize (upd (upd H5 T (.tup [.str x, .str y])) La (.lst [.ref T])) = H6 at *
        have hb6 := hb5.same s6
        refine ⟨.ref p, rfl, .int od, rfl, p, od, c', rfl, hb6, by omega, hod1, by omega, fun r c2 o2 hr0 hr1 hc5 hc6 hb7 => ?_⟩
        have o7 : Oth p H6 (upd H6 p o2) := Oth.put
        generalize (upd H6 p o2) = H7 at *
        refine ⟨rfl, .int kd, rfl, rfl, rfl, .inr ⟨_, rfl, La, _, [.ref T], rfl, rfl, o7 _ _ hLa nLap, ?_, ?_, ?_, fun Lb nLb => ?_⟩⟩
        · split <;> decide
        · split <;> decide
        · split
          · exact (by decide : (1 * 1 : Nat) ≤ sizeLine)
          · exact (by decide : (1 * 0 : Nat) ≤ sizeLine)
        have s8 : Same H7 (upd H7 Lb (.lst (List.replicate (if (!decide (V.bl (decide (V.int r = V.int 0)) = V.bl (decide (V.int kd = V.int 4)))) = true then (1 : Int) else 0).toNat [V.ref T]).flatten)) := same_upd nLb
        have hl8 := s8 _ _ (o7 _ _ (s6 _ _ hl) nlp)
        have hpr8 := (((hpr.same s6).oth o7 hb6).same s8)
        have how8 := s8 _ _ (o7 _ _ (s6 _ _ how5) nowp)
        have hT8 := s8 _ _ (o7 _ _ hT nTp)
        have hb8 := hb7.same s8
        have ho8 : Oth p H _ := ((ho5.trans (Oth.of s6)).trans o7).trans (Oth.of s8)
        refine ⟨l, Lb, _, _, rfl, rfl, hl8, upd_same, ?_, fun l2 nl2 => ?_⟩
        · rw [List.length_map, sizeLine_eq]
          split <;> simp <;> omega
        have s9 := same_upd (o := .lst (rf L ++ (List.replicate (if (!decide (V.bl (decide (V.int r = V.int 0)) = V.bl (decide (V.int kd = V.int 4)))) = true then (1 : Int) else 0).toNat [V.ref T]).flatten)) nl2
        have nl2p : l2 ≠ p := (hb8.new nl2).symm
        by_cases b : (!decide (V.bl (decide (V.int r = V.int 0)) = V.bl (decide (V.int kd = V.int 4)))) = true
        · refine ⟨l2, L ++ [(T, [x, y])], c2, _, rfl, ?_, nl2p, (hpr8.app (Prs.one hT8 hxz hyz hxy)).same s9, by rw [List.length_append]; show L.length + 1 ≤ _; omega, by omega, by omega, hb8.same s9, ho8.trans (Oth.of s9), s9 _ _ how8⟩
          rw [upd_same, if_pos b]
          show some (HO.lst (rf L ++ [V.ref T])) = some (HO.lst (rf (L ++ [(T, [x, y])])))
          rw [show rf (L ++ [(T, [x, y])]) = rf L ++ [V.ref T] by simp [rf]]
        · refine ⟨l2, L, c2, _, rfl, ?_, nl2p, hpr8.same s9, by omega, by omega, by omega, hb8.same s9, ho8.trans (Oth.of s9), s9 _ _ how8⟩
          rw [upd_same, if_neg b]
          show some (HO.lst (rf L ++ [])) = _
          rw [List.append_nil]
      · rintro σ H5 ⟨l, L, c', y7, rfl, hl, nlp, hpr, hL, hc3, hc4, hb5, ho5, how5⟩
        rw [List.length_map] at hL hc4
        exact ⟨l, L, c', _, y7, rfl, hl, nlp, hpr, by omega, by omega, by omega, hb5, ho5, how5⟩
    · rintro σ H4 ⟨l, L, c', y6, y7, rfl, hl, nlp, hpr, hL, hc3, hc4, hb4, ho4, how4⟩
      rw [List.length_map] at hL hc4
      refine ⟨fun σ H5 => ∃ (l : Addr) (L : SL) (c' : Int) (y8 : Option V), σ = [some (.ref p), some (.ref t), some (.int kd), some (.ref l), some (.ref ow), some (.int od), y6, y7, y8] ∧ H5 l = some (.lst (rf L)) ∧ Prs zs H5 L ∧ L.length ≤ 156 ∧ (kd = 6 → L.length ≤ 144) ∧ c1 ≤ c' ∧ c' ≤ c1 + 156 ∧ Bx H5 p c' ∧ Oth p H H5, ?_, ?_⟩
      · refine ⟨.int kd, rfl, rfl, _, rfl, ite2 (fun e => ?_) (fun e => ⟨l, L, c', none, rfl, hl, hpr, by omega, fun _ => by omega, by omega, by omega, hb4, ho4⟩)⟩
        have ek : kd = 5 := V.int.inj (of_decide_eq_true e)
        refine ⟨.ref p, rfl, .ref ow, rfl, p, ow, c', _, rfl, hb4, by omega, nowp, .inl (.inl (.inl how4)), by rw [List.length_map]; omega, fun H5 lo ys c5 nlo ho5 hlo hpm hb5 hc5 hc6 => ?_⟩
        obtain ⟨ls, rfl, hls⟩ := perm_strs hpm
        rw [List.length_map] at hc6
        have hl5 := ho5 _ _ hl nlp
        have hpr5 := hpr.oth ho5 hb4
        have hlsz : ∀ x ∈ ls, x ∈ zs := fun x hx => hown x (hls.mem_iff.mp hx)
        have hlsl : ls.length ≤ 12 := by rw [hls.length_eq]; exact hol
        refine ⟨.ref l, rfl, .ref lo, rfl, .ref lo, rfl, 1, rfl, lo, _, rfl, .inl (.inl hlo), fun C1 nC1 => ⟨.ref lo, rfl, 1, rfl, lo, _, rfl, (same_upd nC1).seq (.inl (.inl hlo)), fun C2 nC2 => ?_⟩⟩
        rw [cutFrom1] at nC2 ⊢
        rw [cutTo1]
        have s6 : Same H5 (upd (upd H5 C1 (.lst ((ls.map V.str).drop 1))) C2 (.lst ((ls.map V.str).take 1))) := (same_upd nC1).trans (same_upd nC2)
        have hC1 : (upd (upd H5 C1 (.lst ((ls.map V.str).drop 1))) C2 (.lst ((ls.map V.str).take 1))) C1 = some (.lst ((ls.map V.str).drop 1)) := same_upd nC2 _ _ upd_same
        refine ⟨C1, C2, _, _, rfl, rfl, hC1, upd_same, ?_, fun C3 nC3 => ?_⟩
        · rw [List.length_drop, List.length_take, List.length_map, sizeLine_eq]
          omega
        have e3 : (ls.map V.str).drop 1 ++ (ls.map V.str).take 1 = (ls.drop 1 ++ ls.take 1).map V.str := by
          rw [List.map_append, List.map_drop, List.map_take]
        rw [e3]
        have s7 := s6.trans (same_upd (o := .lst ((ls.drop 1 ++ ls.take 1).map V.str)) nC3)
        have hC3 : (upd (upd (upd H5 C1 (.lst ((ls.map V.str).drop 1))) C2 (.lst ((ls.map V.str).take 1))) C3 (.lst ((ls.drop 1 ++ ls.take 1).map V.str))) C3 = some (.lst ((ls.drop 1 ++ ls.take 1).map V.str)) := upd_same
        generalize (upd (upd (upd H5 C1 (.lst ((ls.map V.str).drop 1))) C2 (.lst ((ls.map V.str).take 1))) C3 (.lst ((ls.drop 1 ++ ls.take 1).map V.str))) = H7 at *
        have hl2 : (ls.drop 1 ++ ls.take 1).length = ls.length := by
          rw [List.length_append, List.length_drop, List.length_take]
          omega
        have hrz : ∀ x ∈ ls.drop 1 ++ ls.take 1, x ∈ zs := fun x hx => (List.mem_append.mp hx).elim (fun z => hlsz x (List.mem_of_mem_drop z)) fun z => hlsz x (List.mem_of_mem_take z)
        generalize ls.drop 1 ++ ls.take 1 = rs at *
        refine ⟨lo, C3, _, _, rfl, s7.seq (.inl (.inl hlo)), .inl (.inl hC3), fun D2 nD2 => lc_it (walk_zip (xs := ls.map V.str) (ys := rs.map V.str) (n := ls.length) (by rw [List.length_map, List.length_map, hl2]; omega)) (fun i H8 => ∃ M : SL, M.length ≤ i ∧ H8 D2 = some (.lst (rf M)) ∧ Prs zs H8 M ∧ Same H7 H8) ?_ ?_ ?_ ?_⟩
        · exact ⟨[], Nat.le_refl _, upd_same, Prs.nil, same_upd nD2⟩
        · rintro i H8 hi ⟨M, hM, hD, hpM, s8⟩
          exact ⟨s8.seq (s7.seq (.inl (.inl hlo))), s8.seq (.inl (.inl hC3))⟩
        · rintro i v H8 H9 hi ⟨M, hM, hD, hpM, s8⟩ ⟨T, u, v', rfl, nT, rfl, hu, hv⟩
          have hu' : (ls.map V.str)[i]? = some u := hu
          have hv' : (rs.map V.str)[i]? = some v' := hv
          rw [List.getElem?_map] at hu' hv'
          obtain ⟨x, hx, rfl⟩ := Option.map_eq_some_iff.mp hu'
          obtain ⟨y, hy, rfl⟩ := Option.map_eq_some_iff.mp hv'
          have s9 : Same H8 (upd H8 T (.tup [.str x, .str y])) := same_upd nT
          refine ⟨T, _, rfl, .inl (.inl upd_same), rfl, _, _, rfl, _, _, rfl, rfl, rfl, ?_⟩
          refine ⟨.str x, rfl, .str y, rfl, rfl, _, rfl, ite2 (fun e => ?_) (fun e => ⟨M, by omega, s9 _ _ hD, hpM.same s9, s8.trans s9⟩)⟩
          have hxy : x ≠ y := fun z => by
            subst z
            simp at e
          refine ⟨.str x, rfl, .str y, rfl, (by decide : (2 : Nat) ≤ sizeLine), fun T2 nT2 => ?_⟩
          have s10 := s9.trans (same_upd (o := .tup [.str x, .str y]) nT2)
          have hT2 : (upd (upd H8 T (.tup [.str x, .str y])) T2 (.tup [.str x, .str y])) T2 = some (.tup [.str x, .str y]) := upd_same
          have hD10 := s10 _ _ hD
          generalize (upd (upd H8 T (.tup [.str x, .str y])) T2 (.tup [.str x, .str y])) = Hb at *
          refine ⟨_, hD10, ?_, M ++ [(T2, [x, y])], by rw [List.length_append]; show M.length + 1 ≤ _; omega, ?_, ?_, ?_⟩
          · rw [List.length_map, sizeLine_eq]
            omega
          · rw [upd_same]
            simp [rf]
          · intro q hq
            have h0 := ((hpM.same s10).app (Prs.one hT2 (hlsz x (List.mem_of_getElem? hx)) (hrz y (List.mem_of_getElem? hy)) hxy)) q hq
            exact ⟨by rw [upd_ne (ne_of h0.1 hD10 (by intro z; cases z))]; exact h0.1, h0.2⟩
          · intro b ob eb
            rw [upd_ne (ne_of_none eb nD2)]
            exact s10 _ _ (s8 _ _ eb)
        · rintro H8 ⟨M, hM, hD, hpM, s8⟩
          refine ⟨l, D2, _, _, rfl, rfl, s8 _ _ (s7 _ _ hl5), hD, ?_, fun l2 nl2 => ?_⟩
          · rw [List.length_map, List.length_map, sizeLine_eq]
            omega
          have s9 := same_upd (o := .lst (rf L ++ rf M)) nl2
          refine ⟨l2, L ++ M, c5, _, rfl, ?_, (((hpr5.same s7).same s8).app hpM).same s9, by rw [List.length_append]; omega, fun z => by omega, by omega, by omega, ((hb5.same s7).same s8).same s9, ((ho4.trans ho5).trans (Oth.of (s7.trans s8))).trans (Oth.of s9)⟩
          rw [upd_same, show rf (L ++ M) = rf L ++ rf M from List.map_append]
      · rintro σ H5 ⟨l, L, c', y8, rfl, hl, hpr, hL, hL6, hc3, hc4, hb5, ho5⟩
        refine ⟨fun σ H6 => ∃ (l : Addr) (L : SL), σ = [some (.ref p), some (.ref t), some (.int kd), some (.ref l), some (.ref ow), some (.int od), y6, y7, y8] ∧ H6 l = some (.lst (rf L)) ∧ Prs zs H6 L ∧ L.length ≤ 288 ∧ Same H5 H6, ?_, ?_⟩
        · refine ⟨.int kd, rfl, rfl, _, rfl, ite2 (fun e => ?_) (fun e => ⟨l, L, rfl, hl, hpr, by omega, Same.refl _⟩)⟩
          have ek : kd = 6 := V.int.inj (of_decide_eq_true e)
          have hL7 := hL6 ek
          refine ⟨.ref l, rfl, .ref l, rfl, l, rfl, ⟨_, .inl (.inl hl)⟩, fun D2 nD2 => lc_list (xs := rf L) (fun i H8 => ∃ M : SL, M.length ≤ i ∧ H8 D2 = some (.lst (rf M)) ∧ Prs zs H8 M ∧ Same H5 H8) ?_ ?_ ?_ ?_⟩
          · exact ⟨[], Nat.le_refl _, upd_same, Prs.nil, same_upd nD2⟩
          · rintro i H8 hi ⟨M, hM, hD, hpM, s8⟩
            exact s8.seq (.inl (.inl hl))
          · rintro i v H8 hv ⟨M, hM, hD, hpM, s8⟩
            have hi : i < (rf L).length := (List.getElem?_eq_some_iff.mp hv).1
            rw [List.length_map] at hi
            rw [List.getElem?_map] at hv
            obtain ⟨q0, hq0, rfl⟩ := Option.map_eq_some_iff.mp hv
            obtain ⟨hq1, x, y, hq2, hxz, hyz, hxy⟩ := hpr q0 (List.mem_of_getElem? hq0)
            rw [hq2] at hq1
            refine ⟨q0.1, _, rfl, .inl (.inl (s8 _ _ hq1)), rfl, _, _, rfl, _, _, rfl, rfl, rfl, ?_⟩
            refine ⟨.str y, rfl, .str x, rfl, (by decide : (2 : Nat) ≤ sizeLine), fun T2 nT2 => ?_⟩
            have s10 : Same H8 (upd H8 T2 (.tup [.str y, .str x])) := same_upd nT2
            have hT2 : (upd H8 T2 (.tup [.str y, .str x])) T2 = some (.tup [.str y, .str x]) := upd_same
            have hD10 := s10 _ _ hD
            generalize (upd H8 T2 (.tup [.str y, .str x])) = Hb at *
            refine ⟨_, hD10, ?_, M ++ [(T2, [y, x])], by rw [List.length_append]; show M.length + 1 ≤ _; omega, ?_, ?_, ?_⟩
            · rw [List.length_map, sizeLine_eq]
              omega
            · rw [upd_same]
              simp [rf]
            · intro q hq
              have h0 := ((hpM.same s10).app (Prs.one hT2 hyz hxz (Ne.symm hxy))) q hq
              exact ⟨by rw [upd_ne (ne_of h0.1 hD10 (by intro z; cases z))]; exact h0.1, h0.2⟩
            · intro b ob eb
              rw [upd_ne (ne_of_none eb nD2)]
              exact s10 _ _ (s8 _ _ eb)
          · rintro H8 ⟨M, hM, hD, hpM, s8⟩
            rw [List.length_map] at hM
            refine ⟨l, D2, _, _, rfl, rfl, s8 _ _ hl, hD, ?_, fun l2 nl2 => ?_⟩
            · rw [List.length_map, List.length_map, sizeLine_eq]
              omega
            have s9 := same_upd (o := .lst (rf L ++ rf M)) nl2
            refine ⟨l2, L ++ M, rfl, ?_, ((hpr.same s8).app hpM).same s9, by rw [List.length_append]; omega, s8.trans s9⟩
            rw [upd_same, show rf (L ++ M) = rf L ++ rf M from List.map_append]
        · rintro σ H6 ⟨l, L, rfl, hl, hpr, hL, s6⟩
          refine ⟨.ref l, rfl, l, L, rfl, .inl (.inl hl), hpr.sq, by omega, fun sa M nsa hsub hall hMnd hMl => ?_⟩
          have hprM : Prs zs H6 M := fun q hq => hpr q (hsub q hq)
          have s7 := same_upd (o := SetO P w sa M) nsa
          refine ⟨sa, M, 1, rfl, upd_same, (hprM.same s7).sq, hprM.two, by omega, fun N pl hperm hNnd hNs npl => ?_⟩
          have s8 := s7.trans (same_upd (o := .lst (rf N)) npl)
          refine ⟨pl, rf N, rfl, .inl (.inl upd_same), fun rt ob nrt e1 e2 => ?_⟩
          have s9 := s8.trans (same_upd (o := .frz ob (.tup (rf N))) nrt)
          have sA := s6.trans s9
          exact q _ rt N c' (by
            have := s8.free nrt
            exact ho5.none hb5 (s6.free this)) (ho5.trans (Oth.of sA)) ⟨⟨ob, upd_same, e1, e2⟩, fun q0 hq0 => hprM.same s9 q0 (hperm.mem_iff.mp hq0), hNnd, hNs⟩ (hb5.same sA) (by omega) (by omega)
end
end HF
namespace HF
open PySem PySem.Spec PyProof.Rows L2
abbrev sListed : Stmt := topS 16
theorem scListed : FnScope ["_law_matter", "_law_part"] ["_law_matter"] (defScope sListed) := ⟨rfl, rfl, rfl, by decide +kernel, rfl, by decide +kernel, by decide +kernel⟩
section
variable {P : Program} {w : World} {K : PySem.W.Frag} {mg : Str → Option Value} {base : Heap}
theorem listed_scal {f : Addr} {fd : FuncData} {k : Nat} (F : Fun K "_law_listed" "_law_listed" sListed f fd) (bS : Binds K fd ["_law_matter"] []) (gS : mg "_law_listed" = some (.ref f)) (mI : mg "isinstance" = none) (mL : mg "list" = none) (mT : mg "tuple" = none)
    {cdv : Value} {A : Around} {outer : List Env} {s : Shared} {H : Hp} {Q : VK} {E : XK} (hr : Room k (A.deeper (envOfC "_law_listed" (defScope sListed) s.heap.objs.size f cdv))) {x : V} {d : PyData} (hx : Dp K H x d) (h0 : d.depth = 0) (q : ∀ (H' : Hp) (y : V), Same H H' → Nw H H' y (lsD d) → Q y H') :
    ∃ t, PSs (cxOf CX0 P w K mg base ["_law_matter", "_law_part"] "_law_listed" (defScope sListed) f cdv A outer s H E).nox (defBody sListed) t ∧ t { nx := fun _ H' => Q .non H', rt := Q } (start ["_law_matter", "_law_part"] [x]) H := by
  cases hx with
  | non =>
    refine ⟨_, pss_one (ps_ret (pe_ifExp (pt_val (pe_callB call_isiT (by rfl) mI (by decide +kernel) (pa_cons (pv 0) (pa_cons (pe_tup (pa_cons (pe_bltn (v := .ty "list") (by rfl) mL (by decide +kernel) rfl) (pa_cons (pe_bltn (v := .ty "tuple") (by rfl) mT (by decide +kernel) rfl) pa_nil))) pa_nil)))) (pe_lc (own := [("_law_part", 1)]) (g := gName 1) (tt := tYes) rfl scListed.nd (pi_list (pv 0))
        (blkOk_by (N := ["_law_matter", "_law_part"]) (sc := defScope sListed) (by decide +kernel)) (fun _ _ _ _ _ => pg_name (i := 1) scListed.nd rfl (Or.inl rfl)) (fun _ _ _ _ _ => pts_nil)
        (fun _ _ _ _ _ => pe_call (fn_false (k := k)) hr (by rfl) gS F.kp bS .nil pass0 (pa_cons (pv 1) pa_nil))) (pv 0))), ?_⟩
    exact ⟨_, rfl, (by decide : (2 : Nat) ≤ sizeLine), fun T nT => ⟨_, T, _, _, _, _, rfl, upd_same, two_cls, .base .non, any2 (r1 := false) (r2 := false) (by decide +kernel) (by decide +kernel), _, rfl, iteF ⟨_, rfl, q _ _ (same_upd nT) .non⟩⟩⟩
  | bl b =>
    refine ⟨_, pss_one (ps_ret (pe_ifExp (pt_val (pe_callB call_isiT (by rfl) mI (by decide +kernel) (pa_cons (pv 0) (pa_cons (pe_tup (pa_cons (pe_bltn (v := .ty "list") (by rfl) mL (by decide +kernel) rfl) (pa_cons (pe_bltn (v := .ty "tuple") (by rfl) mT (by decide +kernel) rfl) pa_nil))) pa_nil)))) (pe_lc (own := [("_law_part", 1)]) (g := gName 1) (tt := tYes) rfl scListed.nd (pi_list (pv 0))
        (blkOk_by (N := ["_law_matter", "_law_part"]) (sc := defScope sListed) (by decide +kernel)) (fun _ _ _ _ _ => pg_name (i := 1) scListed.nd rfl (Or.inl rfl)) (fun _ _ _ _ _ => pts_nil)
        (fun _ _ _ _ _ => pe_call (fn_false (k := k)) hr (by rfl) gS F.kp bS .nil pass0 (pa_cons (pv 1) pa_nil))) (pv 0))), ?_⟩
    exact ⟨_, rfl, (by decide : (2 : Nat) ≤ sizeLine), fun T nT => ⟨_, T, _, _, _, _, rfl, upd_same, two_cls, .base (.bl _), any2 (r1 := false) (r2 := false) (by decide +kernel) (by decide +kernel), _, rfl, iteF ⟨_, rfl, q _ _ (same_upd nT) (.bl _)⟩⟩⟩
  | int i =>
    refine ⟨_, pss_one (ps_ret (pe_ifExp (pt_val (pe_callB call_isiT (by rfl) mI (by decide +kernel) (pa_cons (pv 0) (pa_cons (pe_tup (pa_cons (pe_bltn (v := .ty "list") (by rfl) mL (by decide +kernel) rfl) (pa_cons (pe_bltn (v := .ty "tuple") (by rfl) mT (by decide +kernel) rfl) pa_nil))) pa_nil)))) (pe_lc (own := [("_law_part", 1)]) (g := gName 1) (tt := tYes) rfl scListed.nd (pi_list (pv 0))
        (blkOk_by (N := ["_law_matter", "_law_part"]) (sc := defScope sListed) (by decide +kernel)) (fun _ _ _ _ _ => pg_name (i := 1) scListed.nd rfl (Or.inl rfl)) (fun _ _ _ _ _ => pts_nil)
        (fun _ _ _ _ _ => pe_call (fn_false (k := k)) hr (by rfl) gS F.kp bS .nil pass0 (pa_cons (pv 1) pa_nil))) (pv 0))), ?_⟩
    exact ⟨_, rfl, (by decide : (2 : Nat) ≤ sizeLine), fun T nT => ⟨_, T, _, _, _, _, rfl, upd_same, two_cls, .base (.int _), any2 (r1 := false) (r2 := false) (by decide +kernel) (by decide +kernel), _, rfl, iteF ⟨_, rfl, q _ _ (same_upd nT) (.int _)⟩⟩⟩
  | str z =>
    refine ⟨_, pss_one (ps_ret (pe_ifExp (pt_val (pe_callB call_isiT (by rfl) mI (by decide +kernel) (pa_cons (pv 0) (pa_cons (pe_tup (pa_cons (pe_bltn (v := .ty "list") (by rfl) mL (by decide +kernel) rfl) (pa_cons (pe_bltn (v := .ty "tuple") (by rfl) mT (by decide +kernel) rfl) pa_nil))) pa_nil)))) (pe_lc (own := [("_law_part", 1)]) (g := gName 1) (tt := tYes) rfl scListed.nd (pi_list (pv 0))
        (blkOk_by (N := ["_law_matter", "_law_part"]) (sc := defScope sListed) (by decide +kernel)) (fun _ _ _ _ _ => pg_name (i := 1) scListed.nd rfl (Or.inl rfl)) (fun _ _ _ _ _ => pts_nil)
        (fun _ _ _ _ _ => pe_call (fn_false (k := k)) hr (by rfl) gS F.kp bS .nil pass0 (pa_cons (pv 1) pa_nil))) (pv 0))), ?_⟩
    exact ⟨_, rfl, (by decide : (2 : Nat) ≤ sizeLine), fun T nT => ⟨_, T, _, _, _, _, rfl, upd_same, two_cls, .base (.str _), any2 (r1 := false) (r2 := false) (by decide +kernel) (by decide +kernel), _, rfl, iteF ⟨_, rfl, q _ _ (same_upd nT) (.str _)⟩⟩⟩
  | lst _ _ => cases h0
  | tup _ _ => cases h0
theorem depth_at {ds : List PyData} : ∀ {i : Nat} {d : PyData}, ds[i]? = some d → PyData.depth d ≤ PyData.depthAll ds := by
  induction ds with
  | nil => intro i d h; simp at h
  | cons x r ih =>
    intro i d h
    have e : PyData.depthAll (x :: r) = max (PyData.depth x) (PyData.depthAll r) := rfl
    cases i with
    | zero =>
      cases (show some x = some d from h)
      omega
    | succ i =>
      have := ih (show r[i]? = some d from h)
      omega
theorem listed_seq {f : Addr} {fd : FuncData} {k n : Nat} (F : Fun K "_law_listed" "_law_listed" sListed f fd) (bS : Binds K fd ["_law_matter"] []) (gS : mg "_law_listed" = some (.ref f)) (mI : mg "isinstance" = none) (mL : mg "list" = none) (mT : mg "tuple" = none) (IH : FnOk P w K mg base CX0 k f fd ["_law_matter"] (spListed K n))
    {cdv : Value} {A : Around} {outer : List Env} {s : Shared} {H : Hp} {Q : VK} {E : XK} (hr : Room k (A.deeper (envOfC "_law_listed" (defScope sListed) s.heap.objs.size f cdv))) {x : V} {d : PyData} (hx : Dp K H x d) (h0 : d.depth ≠ 0) (hn : d.depth ≤ n + 1) (hw : wide d ≤ 100000) (q : ∀ (H' : Hp) (y : V), Same H H' → Nw H H' y (lsD d) → Q y H') :
    ∃ t, PSs (cxOf CX0 P w K mg base ["_law_matter", "_law_part"] "_law_listed" (defScope sListed) f cdv A outer s H E).nox (defBody sListed) t ∧ t { nx := fun _ H' => Q .non H', rt := Q } (start ["_law_matter", "_law_part"] [x]) H := by
  cases hx with
  | non => exact absurd rfl h0
  | bl b => exact absurd rfl h0
  | int i => exact absurd rfl h0
  | str z => exact absurd rfl h0
  | @lst a xs ds hq hds =>
    have hn2 : PyData.depthAll ds + 1 ≤ n + 1 := hn
    have hw2 : max ds.length (wideAll ds) ≤ 100000 := hw
    have hxl : xs.length = ds.length := dpAll_len hds
    refine ⟨_, pss_one (ps_ret (pe_ifExp (pt_val (pe_callB call_isiT (by rfl) mI (by decide +kernel) (pa_cons (pv 0) (pa_cons (pe_tup (pa_cons (pe_bltn (v := .ty "list") (by rfl) mL (by decide +kernel) rfl) (pa_cons (pe_bltn (v := .ty "tuple") (by rfl) mT (by decide +kernel) rfl) pa_nil))) pa_nil)))) (pe_lc (own := [("_law_part", 1)]) (g := gName 1) (tt := tYes) rfl scListed.nd (pi_list (pv 0))
        (blkOk_by (N := ["_law_matter", "_law_part"]) (sc := defScope sListed) (by decide +kernel)) (fun _ _ _ _ _ => pg_name (i := 1) scListed.nd rfl (Or.inl rfl)) (fun _ _ _ _ _ => pts_nil)
        (fun _ _ _ _ _ => pe_call IH hr (by rfl) gS F.kp bS .nil pass0 (pa_cons (pv 1) pa_nil))) (pv 0))), ?_⟩
    refine ⟨_, rfl, (by decide : (2 : Nat) ≤ sizeLine), fun T nT => ⟨_, T, _, _, _, _, rfl, upd_same, two_cls, ty_list ((same_upd nT).seq hq), any2 (r1 := true) (r2 := false) (by decide +kernel) (by decide +kernel), _, rfl, iteT ?_⟩⟩
    have s1 : Same H (upd H T (.tup [V.ty "list", V.ty "tuple"])) := same_upd nT
    generalize (upd H T (.tup [V.ty "list", V.ty "tuple"])) = H1 at *
    refine ⟨.ref a, rfl, a, rfl, ⟨_, (s1).seq hq⟩, fun D nD => lc_list (xs := xs) (fun i H4 => ∃ acc : List V, acc.length = i ∧ H4 D = some (.lst acc) ∧ Same H1 H4 ∧ NwAll (upd H1 D (.lst [])) H4 acc (lsAll (ds.take i))) ?_ ?_ ?_ ?_⟩
    · exact ⟨[], rfl, upd_same, same_upd nD, .nil⟩
    · rintro i H4 hi ⟨acc, hl, hD, s4, hnw⟩
      exact (s1.trans s4).seq hq
    · rintro i v H4 hv ⟨acc, hl, hD, s4, hnw⟩
      have hil : i < xs.length := (List.getElem?_eq_some_iff.mp hv).1
      obtain ⟨d1, hd1, hdp⟩ := dpAll_at hds hv
      have hdep : PyData.depth d1 ≤ PyData.depthAll ds := depth_at hd1
      have hwid := wide_at hd1
      refine ⟨rfl, v, rfl, v, d1, rfl, Dp.up (s1.trans s4) hdp, by omega, by omega, fun H6 y s6 hy => ?_⟩
      have hD6 := s6 _ _ hD
      refine ⟨acc, hD6, ?_, acc ++ [y], by rw [List.length_append, hl]; rfl, upd_same, ?_, ?_⟩
      · rw [hl, sizeLine_eq]
        omega
      · intro b o eb
        rw [upd_ne (ne_of_none eb nD)]
        exact s6 _ _ (s4 _ _ eb)
      · rw [List.take_add_one, hd1, show ds.take i ++ (some d1).toList = ds.take i ++ [d1] from rfl, lsAll_snoc]
        have notD : ∀ b, (upd H1 D (.lst [])) b = none → b ≠ D := fun b hb z => by
          rw [z, upd_same] at hb
          cases hb
        refine NwAll.snoc (hnw.go (fun _ z => z) fun b o hb eb => ?_) (hy.go (fun b hb => ?_) fun b o hb eb => ?_)
        · rw [upd_ne (notD b hb)]
          exact s6 _ _ eb
        · by_cases z : b = D
          · rw [z, hD] at hb
            cases hb
          · rw [upd_ne z]
            exact s4.free hb
        · rw [upd_ne (fun z => by rw [z, hD] at hb; cases hb)]
          exact eb
    · rintro H4 ⟨acc, hl, hD, s4, hnw⟩
      rw [hxl, List.take_length] at hnw
      refine q H4 (.ref D) (s1.trans s4) (.lst (s1.free nD) hD (hnw.go (fun b hb => ?_) fun _ _ _ e => e))
      have nb : b ≠ D := fun z => by
        rw [z, upd_same] at hb
        cases hb
      rw [upd_ne nb] at hb
      exact s1.free hb
  | @tup a xs ds hq hds =>
    have hn2 : PyData.depthAll ds + 1 ≤ n + 1 := hn
    have hw2 : max ds.length (wideAll ds) ≤ 100000 := hw
    have hxl : xs.length = ds.length := dpAll_len hds
    refine ⟨_, pss_one (ps_ret (pe_ifExp (pt_val (pe_callB call_isiT (by rfl) mI (by decide +kernel) (pa_cons (pv 0) (pa_cons (pe_tup (pa_cons (pe_bltn (v := .ty "list") (by rfl) mL (by decide +kernel) rfl) (pa_cons (pe_bltn (v := .ty "tuple") (by rfl) mT (by decide +kernel) rfl) pa_nil))) pa_nil)))) (pe_lc (own := [("_law_part", 1)]) (g := gName 1) (tt := tYes) rfl scListed.nd (pi_tup (pv 0))
        (blkOk_by (N := ["_law_matter", "_law_part"]) (sc := defScope sListed) (by decide +kernel)) (fun _ _ _ _ _ => pg_name (i := 1) scListed.nd rfl (Or.inl rfl)) (fun _ _ _ _ _ => pts_nil)
        (fun _ _ _ _ _ => pe_call IH hr (by rfl) gS F.kp bS .nil pass0 (pa_cons (pv 1) pa_nil))) (pv 0))), ?_⟩
    refine ⟨_, rfl, (by decide : (2 : Nat) ≤ sizeLine), fun T nT => ⟨_, T, _, _, _, _, rfl, upd_same, two_cls, ty_tup (sameT (same_upd nT) hq), any2 (r1 := false) (r2 := true) (by decide +kernel) (by decide +kernel), _, rfl, iteT ?_⟩⟩
    have s1 : Same H (upd H T (.tup [V.ty "list", V.ty "tuple"])) := same_upd nT
    generalize (upd H T (.tup [V.ty "list", V.ty "tuple"])) = H1 at *
    refine ⟨.ref a, rfl, a, rfl, ⟨_, sameT (s1) hq⟩, fun D nD => lc_tup (xs := xs) (fun i H4 => ∃ acc : List V, acc.length = i ∧ H4 D = some (.lst acc) ∧ Same H1 H4 ∧ NwAll (upd H1 D (.lst [])) H4 acc (lsAll (ds.take i))) ?_ ?_ ?_ ?_⟩
    · exact ⟨[], rfl, upd_same, same_upd nD, .nil⟩
    · rintro i H4 hi ⟨acc, hl, hD, s4, hnw⟩
      exact sameT (s1.trans s4) hq
    · rintro i v H4 hv ⟨acc, hl, hD, s4, hnw⟩
      have hil : i < xs.length := (List.getElem?_eq_some_iff.mp hv).1
      obtain ⟨d1, hd1, hdp⟩ := dpAll_at hds hv
      have hdep : PyData.depth d1 ≤ PyData.depthAll ds := depth_at hd1
      have hwid := wide_at hd1
      refine ⟨rfl, v, rfl, v, d1, rfl, Dp.up (s1.trans s4) hdp, by omega, by omega, fun H6 y s6 hy => ?_⟩
      have hD6 := s6 _ _ hD
      refine ⟨acc, hD6, ?_, acc ++ [y], by rw [List.length_append, hl]; rfl, upd_same, ?_, ?_⟩
      · rw [hl, sizeLine_eq]
        omega
      · intro b o eb
        rw [upd_ne (ne_of_none eb nD)]
        exact s6 _ _ (s4 _ _ eb)
      · rw [List.take_add_one, hd1, show ds.take i ++ (some d1).toList = ds.take i ++ [d1] from rfl, lsAll_snoc]
        have notD : ∀ b, (upd H1 D (.lst [])) b = none → b ≠ D := fun b hb z => by
          rw [z, upd_same] at hb
          cases hb
        refine NwAll.snoc (hnw.go (fun _ z => z) fun b o hb eb => ?_) (hy.go (fun b hb => ?_) fun b o hb eb => ?_)
        · rw [upd_ne (notD b hb)]
          exact s6 _ _ eb
        · by_cases z : b = D
          · rw [z, hD] at hb
            cases hb
          · rw [upd_ne z]
            exact s4.free hb
        · rw [upd_ne (fun z => by rw [z, hD] at hb; cases hb)]
          exact eb
    · rintro H4 ⟨acc, hl, hD, s4, hnw⟩
      rw [hxl, List.take_length] at hnw
      refine q H4 (.ref D) (s1.trans s4) (.lst (s1.free nD) hD (hnw.go (fun b hb => ?_) fun _ _ _ e => e))
      have nb : b ≠ D := fun z => by
        rw [z, upd_same] at hb
        cases hb
      rw [upd_ne nb] at hb
      exact s1.free hb
theorem ok_listed {f : Addr} {fd : FuncData} (F : Fun K "_law_listed" "_law_listed" sListed f fd) (bS : Binds K fd ["_law_matter"] []) (gS : mg "_law_listed" = some (.ref f)) (mI : mg "isinstance" = none) (mL : mg "list" = none) (mT : mg "tuple" = none) : ∀ n : Nat, FnOk P w K mg base CX0 (n + 1) f fd ["_law_matter"] (spListed K n)
  | 0 => by
    refine F.ok scListed (fun vs H Q E h => ?_) (fun cdv A outer s H vs Q E hr h => ?_)
    · obtain ⟨x, d, rfl, _⟩ := h
      rfl
    · obtain ⟨x, d, rfl, hx, h0, _, q⟩ := h
      exact listed_scal F bS gS mI mL mT hr hx (by omega) q
  | n + 1 => by
    have IH := ok_listed F bS gS mI mL mT n
    refine F.ok scListed (fun vs H Q E h => ?_) (fun cdv A outer s H vs Q E hr h => ?_)
    · obtain ⟨x, d, rfl, _⟩ := h
      rfl
    · obtain ⟨x, d, rfl, hx, h0, hw, q⟩ := h
      by_cases hz : d.depth = 0
      · exact listed_scal F bS gS mI mL mT hr hx hz q
      · exact listed_seq F bS gS mI mL mT IH hr hx hz h0 hw q
end
end HF
/-! zip over a tuple and a list -/
namespace HF
open PySem PySem.Spec PyProof.Rows L2
/-- a tuple at a and a list at b, the items in new pairs -/
def ItzM (K : PySem.W.Frag) (a b : Addr) : It :=
  ⟨fun i H => ∃ (xs ys : List V) (x y : V), SqT K H a xs ∧ SqL K H b ys ∧ xs[i]? = some x ∧ ys[i]? = some y,
    fun i H v H' => ∃ T x y, v = .ref T ∧ H T = none ∧ H' = upd H T (.tup [x, y]) ∧ (∀ xs, SqT K H a xs → xs[i]? = some x) ∧ ∀ ys, SqL K H b ys → ys[i]? = some y,
    fun i H => ∃ xs ys : List V, SqT K H a xs ∧ SqL K H b ys ∧ ys.length = xs.length ∧ xs.length = i⟩
theorem sep_of {z TI TO i1 i2 a b : Addr} (D : ZipApart z TI TO i1 i2 a b) (h1 : a ≠ i2) : ZipSep2 z TI TO i1 i2 [i1, a] [i2, b] where
  TIz := D.TIz
  TOz := D.TOz
  TITO := D.TITO
  TIi1 := D.TIi1
  mem1 := by simp
  zf1 := by simp only [List.mem_cons, List.not_mem_nil, or_false, not_or]; exact ⟨D.i1z.symm, D.l1z.symm⟩
  Tf1 := by simp only [List.mem_cons, List.not_mem_nil, or_false, not_or]; exact ⟨D.TOi1, D.l1TO.symm⟩
  TIi2 := D.TIi2
  mem2 := by simp
  zf2 := by simp only [List.mem_cons, List.not_mem_nil, or_false, not_or]; exact ⟨D.i2z.symm, D.l2z.symm⟩
  Tf2 := by simp only [List.mem_cons, List.not_mem_nil, or_false, not_or]; exact ⟨D.TOi2, D.l2TO.symm⟩
  sep1_2 := by simp only [List.mem_cons, List.not_mem_nil, or_false, not_or]; exact ⟨D.i12, D.l2i1.symm⟩
  sep2_1 := by simp only [List.mem_cons, List.not_mem_nil, or_false, not_or]; exact ⟨D.i12.symm, h1.symm⟩
theorem turn_zipM {P : Program} {w : World} {K : PySem.W.Frag} {elts : List Expr} {kk : Nat} {tpos : Pos} {a b z TI TO i1 i2 : Addr} (D : ZipApart z TI TO i1 i2 a b) (h12 : a ≠ i2) (h11 : a ≠ i1) (h22 : b ≠ i2) :
    Turn P w K (.Tuple elts kk tpos) (ItzM K a b) [z, TI, TO, i1, i2] z (fun i h => IsZip h z TI TO .none ∧ IsPair h TI (.ref i1) (.ref i2) ∧ (∃ x y, IsPair h TO x y) ∧ h.IsTupleIter i1 a i ∧ h.IsListIter i2 b i) where
  mem := by simp
  obj := fun i h st c hc => by
    obtain ⟨hz, hTI, ⟨x, y, hTO⟩, ⟨o1, e1, _, d1⟩, ⟨o2, e2, _, d2⟩⟩ := st
    have e' : c = z ∨ c = TI ∨ c = TO ∨ c = i1 ∨ c = i2 := by simpa using hc
    rcases e' with q | q | q | q | q
    · rw [q]; exact ⟨_, hz, fun v q => nomatch q⟩
    · rw [q]; exact ⟨_, hTI, fun v q => nomatch q⟩
    · rw [q]; exact ⟨_, hTO, fun v q => nomatch q⟩
    · rw [q]; exact ⟨o1, e1, fun v q => by rw [d1] at q; cases q⟩
    · rw [q]; exact ⟨o2, e2, fun v q => by rw [d2] at q; cases q⟩
  keep := fun i h h' st k => by
    obtain ⟨hz, hTI, ⟨x, y, hTO⟩, h1, h2⟩ := st
    exact ⟨k z (by simp) _ hz, k TI (by simp) _ hTI, ⟨x, y, k TO (by simp) _ hTO⟩, h1.at fun o q => k i1 (by simp) o q, h2.at fun o q => k i2 (by simp) o q⟩
  item := by
    intro X hP hw hK hc i pins s σ H E I hf st hg
    subst hP hw hK
    obtain ⟨hz, hTI, ⟨x0, y0, hTO⟩, h1, h2⟩ := st
    obtain ⟨xs, ys, x, y, hqx, hqy, hx, hy⟩ := hg
    obtain ⟨its, rv, p, _⟩ := I.tuple hqx
    obtain ⟨its2, rv2, p2, _⟩ := I.list hqy
    obtain ⟨u, hu, ru⟩ := rv.get hx
    obtain ⟨u2, hu2, ru2⟩ := rv2.get hy
    have hzl : z < s.heap.objs.size := Heap.lt_size hz
    have D1 := Draws.tuple (prog := X.prog) (w := X.w) (A := X.A.in1) (I.ok.hd hc) i1 a h11 its.toArray
    have D2 := Draws.list (prog := X.prog) (w := X.w) (A := X.A.in1) (I.ok.hd hc) i2 b h22 its2.toArray
    refine wpAny_pyNext_zipD2_item (sep_of D h12) D1 D2 hz hTI hTO ⟨h1, p⟩ ⟨h2, p2.isList⟩ (by rw [List.size_toArray]; exact (List.getElem?_eq_some_iff.mp hu).1) (by rw [List.size_toArray]; exact (List.getElem?_eq_some_iff.mp hu2).1) fun v1 v2 h' tk hv1 hv2 z' TO' h1' h2' hT hsz hk => ?_
    have e1 : v1 = u := by
      have : its.toArray[i]? = some u := by simpa using hu
      rw [this] at hv1
      exact (Option.some.inj hv1).symm
    have e2 : v2 = u2 := by
      have : its2.toArray[i]? = some u2 := by simpa using hu2
      rw [this] at hv2
      exact (Option.some.inj hv2).symm
    subst e1 e2
    refine ⟨_, rfl, wpAny_letOwnedTupleGo_zip (s := { s with heap := h', toks := tk }) z' fun h'' z'' sb => ?_⟩
    have hT2 : h''.get? s.heap.objs.size = some { cls := .type "tuple", data := .seq #[v1, v2] } := (sb.2 _ (Nat.ne_of_gt hzl)).trans hT
    have new : ObjOk X.prog X.w (upd H s.heap.objs.size (.tup [x, y])) h'' s.heap.objs.size (.tup [x, y]) :=
      ⟨by show 2 ≤ sizeLine; decide, [v1, v2], .cons ru (.cons ru2 .nil), ⟨_, hT2, rfl, _, rfl⟩⟩
    have I1 : Inv X pins σ (upd H s.heap.objs.size (.tup [x, y])) { s with heap := h'', toks := tk } :=
      I.turnedNew (t' := tk) (ch := [z, TI, TO, i1, i2]) (fun c o hb q => (sb.2 c (fun q' => hb (by simp [q']))).trans (hk c o (fun q' => hb (by simp [q'])) (fun q' => hb (by simp [q'])) (fun q' => hb (by simp [q'])) (fun q' => hb (by simp [q'])) q)) hf (Nat.le_refl _) new
    refine ⟨.ref s.heap.objs.size, _, I1, rfl, ⟨_, x, y, rfl, I.hok.fresh (Nat.le_refl _), rfl, fun l hl => by rw [I.tuple_inj hl hqx]; exact hx, fun l hl => by rw [I.list_inj hl hqy]; exact hy⟩, ⟨z'', ?_, ⟨v1, v2, ?_⟩, ?_, ?_⟩, fun c hcm => ?_⟩
    · exact (sb.2 _ D.TIz).trans (hk _ _ D.TIz D.TITO D.TIi1 D.TIi2 hTI)
    · exact (sb.2 _ D.TOz).trans TO'
    · exact h1'.1.at fun o q => (sb.2 _ D.i1z).trans q
    · exact h2'.1.at fun o q => (sb.2 _ D.i2z).trans q
    · have hlt : c < s.heap.objs.size := by
        have e' : c = z ∨ c = TI ∨ c = TO ∨ c = i1 ∨ c = i2 := by simpa using hcm
        rcases e' with q | q | q | q | q
        · rw [q]; exact hzl
        · rw [q]; exact Heap.lt_size hTI
        · rw [q]; exact Heap.lt_size hTO
        · rw [q]; obtain ⟨_, e1, _⟩ := h1; exact Heap.lt_size e1
        · rw [q]; obtain ⟨_, e2, _⟩ := h2; exact Heap.lt_size e2
      rw [upd_ne (Nat.ne_of_lt hlt)]
      exact (hf c hcm).1
  done := by
    intro X hP hw hK hc i pins s σ H E I hf st hg
    subst hP hw hK
    obtain ⟨hz, hTI, ⟨x0, y0, hTO⟩, h1, h2⟩ := st
    obtain ⟨xs, ys, hqx, hqy, hll, hend⟩ := hg
    obtain ⟨its, rv, p, _⟩ := I.tuple hqx
    obtain ⟨its2, rv2, p2, _⟩ := I.list hqy
    have l1 := rv.length
    have l2 := rv2.length
    have D1 := Draws.tuple (prog := X.prog) (w := X.w) (A := X.A.in1) (I.ok.hd hc) i1 a h11 its.toArray
    have D2 := Draws.list (prog := X.prog) (w := X.w) (A := X.A.in1) (I.ok.hd hc) i2 b h22 its2.toArray
    exact wpAny_pyNext_zipD2_end (sep_of D h12) D1 D2 hz hTI hTO ⟨h1, p⟩ ⟨h2, p2.isList⟩ (by rw [List.size_toArray]; omega) (by rw [List.size_toArray]; omega) (.inl (by rw [List.size_toArray]; omega)) fun h' tk hk => ⟨rfl, I.turnedL (t' := tk) (ch := [z, TI, TO, i1, i2]) (fun c o hb q =>
      hk c o (fun q' => hb (by simp [q'])) (fun q' => hb (by simp [q'])) (fun q' => hb (by simp [q'])) (fun q' => hb (by simp [q'])) q) hf⟩
  self := fun A i s Q E st h => wpAny_pyIter_zip st.1 h
def iZipM (K : PySem.W.Frag) (ta : TA) : TI := fun σ H R => ta σ H fun vs H1 => ∃ a b xs ys, vs = [.ref a, .ref b] ∧ SqT K H1 a xs ∧ SqL K H1 b ys ∧ R (ItzM K a b) H1
theorem pi_zipM {X : Cx} {e e2 : Expr} {ta : TA} {p pos tpos : Pos} {elts : List Expr} {kk : Nat} (hg : Gl X "zip") (hm : X.mg "zip" = none) (ha : PA X [e, e2] ta)
    (hs : starEach [e, e2] X.env = (false, eval e X.env) :: starEach [e2] X.env := by rfl) (hpl : (backTo pos (starEach [e2] X.env)).any (·.1) = false := by rfl) :
    PI X (.Tuple elts kk tpos) (.Call (.Name "zip" p) [e, e2] [] pos) (iZipM X.K ta) := by
  refine ⟨fun pins s σ H R I h => ?_⟩
  refine Call_ (ld_blt I hg hm PyProof.Rows.boot_zip (PyProof.Rows.callWith_type1 (thn (ha.run pos pins s σ H _ I h) fun us s1 ⟨vs, H1, I1, r1, q1⟩ => ?_) hs hpl))
  obtain ⟨a, b, xs, ys, rfl, hqx, hqy, q⟩ := q1
  obtain ⟨u1, u2, rfl, r, r'⟩ := vals2 r1
  cases r
  cases r'
  obtain ⟨its, rv, p1, _⟩ := I1.tuple hqx
  obtain ⟨its2, rv2, p2, _⟩ := I1.list hqy
  obtain ⟨o1, ho1, _⟩ := id p1
  have la : a < s1.heap.objs.size := Heap.lt_size ho1
  have lb : b < s1.heap.objs.size := p2.lt
  refine zip_begins2 (begins_tuple a its.toArray) (begins_list b its2.toArray) p1 p2.isList fun h' hz hTI hTO h1 h2 hsz hk => wpAny_pyIter_zip hz ?_
  have I2 : Inv X pins σ H1 { s1 with heap := h' } := I1.kept (t' := s1.toks) hk
  refine ⟨s1.heap.objs.size + 4, [s1.heap.objs.size + 4, s1.heap.objs.size + 2, s1.heap.objs.size + 3, s1.heap.objs.size, s1.heap.objs.size + 1], _, _, H1, rfl, I2, turn_zipM (PySem.W.ktu_apart s1.heap.objs.size a b la lb) (Nat.ne_of_lt (Nat.lt_succ_of_lt la)) (Nat.ne_of_lt la) (Nat.ne_of_lt (Nat.lt_succ_of_lt lb)), ⟨hz, hTI, ⟨_, _, hTO⟩, ⟨_, h1, rfl, rfl⟩, ⟨_, h2, rfl, rfl⟩⟩, fun c hcm => ?_, q⟩
  have e' : c = s1.heap.objs.size + 4 ∨ c = s1.heap.objs.size + 2 ∨ c = s1.heap.objs.size + 3 ∨ c = s1.heap.objs.size ∨ c = s1.heap.objs.size + 1 := by simpa using hcm
  have hle : s1.heap.objs.size ≤ c := by
    rcases e' with z | z | z | z | z <;> rw [z] <;> first | exact Nat.le_refl _ | exact Nat.le_add_right _ _
  exact I1.fpOk hle (I1.hok.fresh hle)
end HF
/-! sorted(a tuple of pairs), min(a list of texts), dict of texts -/
namespace HF
open PySem PySem.Spec PyProof.Rows L2
theorem merge_str {zs : List Str} (g : Str → Str) (nd : zs.Nodup) : mergeK [] (dkS (zs.map fun x => (x, g x))) = dkS (zs.map fun x => (x, g x)) := by
  have go : ∀ (r a : List Str), (a ++ r).Nodup → (dkS (r.map fun x => (x, g x))).foldl (fun acc kv => putK acc kv.1 kv.2) (dkS (a.map fun x => (x, g x))) = dkS ((a ++ r).map fun x => (x, g x)) := fun r => by
    induction r with
    | nil =>
      intro a _
      rw [List.append_nil]
      rfl
    | cons x r ih =>
      intro a hn
      have hx : x ∉ a := fun z => (List.nodup_append.mp hn).2.2 x z x List.mem_cons_self rfl
      show (dkS (r.map fun x => (x, g x))).foldl _ (putK (dkS (a.map fun x => (x, g x))) (Sum.inr x) (V.str (g x))) = _
      have eo : dkS (a.map fun x => (x, g x)) = a.map fun x => ((Sum.inr x : Key), V.str (g x)) := by
        rw [dkS, List.map_map]
        rfl
      rw [eo, putK_new _ (keys_out (g := fun x => V.str (g x)) hx), ← eo]
      have e : dkS (a.map fun x => (x, g x)) ++ [((Sum.inr x : Key), V.str (g x))] = dkS ((a ++ [x]).map fun x => (x, g x)) := by
        rw [List.map_append, dkS, dkS, List.map_append]
        rfl
      rw [e, ih (a ++ [x]) (by rw [List.append_assoc]; exact hn), List.append_assoc]
      rfl
  exact go zs [] nd
theorem minD_strs : ∀ (xs : List Str) (x : Str), ∃ m, PySem.W.minD (.str x) (xs.map PyData.str) = .str m ∧ m ∈ x :: xs ∧ ∀ y ∈ x :: xs, m.cps.toList ≤ y.cps.toList
  | [], x => ⟨x, rfl, List.mem_cons_self, fun y hy => by rw [List.mem_singleton.mp hy]; exact List.le_refl _⟩
  | y :: ys, x => by
    have e : PySem.W.minD (.str x) ((y :: ys).map PyData.str) = PySem.W.minD (if PySem.W.dataLt (.str y) (.str x) then PyData.str y else .str x) (ys.map PyData.str) := rfl
    rw [e, PySem.W.dataLt_str]
    by_cases h : y.cps.toList < x.cps.toList
    · rw [decide_eq_true h, if_pos rfl]
      obtain ⟨m, e1, e2, e3⟩ := minD_strs ys y
      refine ⟨m, e1, List.mem_cons_of_mem _ e2, fun z hz => ?_⟩
      rcases List.mem_cons.mp hz with rfl | hz
      · exact List.le_trans (e3 y List.mem_cons_self) (List.le_of_lt h)
      · exact e3 z hz
    · rw [decide_eq_false h, if_neg (by decide)]
      obtain ⟨m, e1, e2, e3⟩ := minD_strs ys x
      refine ⟨m, e1, ?_, fun z hz => ?_⟩
      · rcases List.mem_cons.mp e2 with e | e
        · exact e ▸ List.mem_cons_self
        · exact List.mem_cons_of_mem _ (List.mem_cons_of_mem _ e)
      · rcases List.mem_cons.mp hz with rfl | hz
        · exact e3 z List.mem_cons_self
        · rcases List.mem_cons.mp hz with rfl | hz
          · exact List.le_trans (e3 x List.mem_cons_self) (List.not_lt.mp h)
          · exact e3 z (List.mem_cons_of_mem _ hz)
section
variable {X : Cx}
/-- min(a list of texts) -/
def rMinT (K : PySem.W.Frag) : List V → Hp → VK → Prop := fun us H Q => ∃ (l : Addr) (x : Str) (xs : List Str), us = [V.ref l] ∧ SqL K H l ((x :: xs).map V.str) ∧ ∀ m, m ∈ x :: xs → (∀ y ∈ x :: xs, m.cps.toList ≤ y.cps.toList) → Q (.str m) H
theorem cr_minT (hc : X.calm = true) (hu : X.A.units + 64 < cLine) : CallR X (.builtin "min") (rMinT X.K) := by
  intro pins st σ H us ws Q I rel hyp
  obtain ⟨l, x, xs, rfl, hl, q⟩ := hyp
  rw [Vals.ref1 rel]
  obtain ⟨its, rv, pl, hz⟩ := I.list hl
  have dp : ∀ zs : List Str, DpAll X.K H (zs.map V.str) (zs.map PyData.str) := fun zs => by
    induction zs with
    | nil => exact .nil
    | cons z r ih => exact .cons (.str _) ih
  obtain ⟨as, r1⟩ := Dp.readsAll I ((x :: xs).map PyData.str) _ _ (dp _) rv
  have al : PySem.W.AlikeAll (PyData.str x :: xs.map PyData.str) := ⟨fun a ha b hb => by
    obtain ⟨a, _, rfl⟩ := List.mem_map.mp (show a ∈ (x :: xs).map PyData.str from ha)
    obtain ⟨b, _, rfl⟩ := List.mem_map.mp (show b ∈ (x :: xs).map PyData.str from hb)
    rfl, fun a ha => by
    obtain ⟨a, _, rfl⟩ := List.mem_map.mp (show a ∈ (x :: xs).map PyData.str from ha)
    exact fun e => nomatch e⟩
  obtain ⟨m, e1, e2, e3⟩ := minD_strs xs x
  refine PySem.W.min_list_data (I.ok.hd hc) pl.isList (x := .str x) (xs := xs.map PyData.str) (by simpa using r1) al (by have := depth_strs (x :: xs); rw [List.map_cons] at this; rw [this]; omega) fun i v h' tk bs hv hr hk => ?_
  rw [e1] at hr
  cases hr with
  | str _ t => exact ⟨.str m, H, I.kept (t' := tk) hk, ⟨t, rfl⟩, q m e2 e3⟩
/-- sorted(t), t a tuple of pairs of texts -/
def rSortTP (K : PySem.W.Frag) : List V → Hp → VK → Prop := fun us H Q => ∃ (l : Addr) (L : List TPr), us = [V.ref l] ∧ SqT K H l (rfs L) ∧ (∀ p ∈ L, SqT K H p.1 [.str p.2.1, .str p.2.2]) ∧ L.length ≤ 1000 ∧
  ∀ (L' : List TPr) (p : Addr), L'.Perm L → (L'.map (·.2)).Pairwise leP → H p = none → Q (.ref p) (upd H p (.lst (rfs L')))
theorem cr_sortTP (hu : X.A.units + 64 < cLine) : CallR X (.builtin "sorted") (rSortTP X.K) := by
  intro pins st σ H us ws Q I rel hyp
  obtain ⟨l, L, rfl, hl, hat, few, q⟩ := hyp
  rw [Vals.ref1 rel]
  obtain ⟨its, rv, ⟨ob, h1, h2, n, h3⟩, hz⟩ := I.tuple hl
  have e := refsP rv
  subst e
  have pm := List.mergeSort_perm L (PySem.W.dataLe false encP)
  have hz2 : (rfs (L.mergeSort (PySem.W.dataLe false encP))).length ≤ sizeLine := by
    rw [rfs_len, pm.length_eq, sizeLine_eq]
    omega
  refine Calls.call_function_entry kind_sorted plain_sorted entry_sorted (args_sorted1 _) ?_
  unfold Builtin.«sorted»
  refine wpAny_bind (m := checkCount "sorted" 1 1 _) (wpAny_pure ?_)
  refine wpAny_bind (wpAny_collect_seq l (.inr rfl) h1 h2 h3 (fun h4 kp => ?_) (by rw [List.size_toArray, List.length_map, sizeLine_eq]; omega))
  show wpAny _ _ (newList (L.map fun p => Value.ref p.1) >>= _) _ _ _
  refine wpAny_bind (wpAny_newList ?_ (by rw [List.length_map, sizeLine_eq]; omega))
  have hoL : (h4.push (seqObj "list" (L.map fun p => Value.ref p.1).toArray 0)).get? h4.objs.size = some (seqObj "list" (L.map fun p => Value.ref p.1).toArray 0) := Heap.get?_push_size _ rfl
  have I4 : Inv X pins σ H { st with heap := h4 } := I.kept (t' := st.toks) kp
  have er : ∀ {M : List TPr}, (∀ p ∈ M, SqT X.K H p.1 [.str p.2.1, .str p.2.2]) → PySem.W.EachIs (fun v p => ∃ as, Reads (h4.push (seqObj "list" (L.map fun p => Value.ref p.1).toArray 0)) v (encP p) as ∧ ∀ a : Addr, a ∉ as) (M.map fun p => Value.ref p.1) M := fun {M} => by
    induction M with
    | nil => exact fun _ => .nil
    | cons p r ih =>
      intro h
      obtain ⟨as, h1⟩ := Dp.reads I4 (encP p) (.ref p.1) (.ref p.1) (.tup (h p List.mem_cons_self) (.cons (.str _) (.cons (.str _) .nil))) rfl
      have e0 := reads_flat h1 rfl
      subst e0
      exact .cons ⟨[], PySem.W.reads_keeps (fun b u e => Heap.get?_push_of_some _ e) h1, fun _ z => nomatch z⟩ (ih fun q hq => h q (List.mem_cons_of_mem _ hq))
  refine wpAny_bind (wpAny_holding (PySem.W.list_sort_data (s := { st with heap := h4.push (seqObj "list" (L.map fun p => Value.ref p.1).toArray 0) }) (enc := encP) hoL (each_P L) ((er hat).mono fun v x ⟨as, g1, g2⟩ => ⟨as, g1, g2 _⟩) (alike_P L) (sortable_P L) (by rw [sizeLine_eq]; omega)
    (fun b _ => by show X.A.units + 1 + 1 + 1 < cLine; omega) fun out hout eo => ?_))
  obtain ⟨c, hc⟩ := sortedHeap_at (vs := L.map fun p => Value.ref p.1) (out := List.toArray out) hoL
  have hv : Vals (rfs (L.mergeSort (PySem.W.dataLe false encP))) out := by
    rw [eachP_out eo]
    exact valsP _
  refine wpAny_pure ⟨_, rfl, .ref h4.objs.size, _, I4.laid (t' := st.toks) (o := .lst (rfs (L.mergeSort (PySem.W.dataLe false encP)))) (fun b u e => ?_) (Nat.le_refl _) ⟨hz2, out, c, hv, hc⟩, rfl, q _ _ pm (List.pairwise_map.mpr ((PySem.W.sort_pairwise (PySem.W.sortLe_total (PyProof.Rows.listOrd PyProof.Rows.itemOrd) false fun b : TPr => PySem.W.keyToks (encP b)) L).imp fun h => le_P h)) (I4.hok.fresh (Nat.le_refl _))⟩
  have lt := Heap.lt_size e
  show (sortedHeap (h4.push (seqObj "list" _ 0)) h4.objs.size _ _).get? b = some u
  rw [sortedHeap_old (Nat.ne_of_lt lt) (by rw [size_push']; exact Nat.lt_succ_of_lt lt)]
  exact Heap.get?_push_of_some _ e
end
end HF
/-! zip of a tuple and a list; repr of a list with a dict of texts behind; heaps and ties as data -/
namespace HF
open PySem PySem.Spec PyProof.Rows L2
theorem walk_zipM {K : PySem.W.Frag} {a b : Addr} {xs ys : List V} (hl : ys.length = xs.length) : Walk (ItzM K a b) xs.length (fun H => SqT K H a xs ∧ SqL K H b ys) (YPair (fun i => xs[i]?) (fun i => ys[i]?)) := by
  refine ⟨fun i _ hi q => ?_, fun _ q => ⟨xs, ys, q.1, q.2, hl, rfl⟩, fun i H v H' _ q y => ?_⟩
  · have h2 : i < ys.length := by omega
    exact ⟨xs, ys, xs[i], ys[i], q.1, q.2, by simp [hi], by simp [h2]⟩
  · obtain ⟨T, x, z, h1, h2, h3, h4, h5⟩ := y
    exact ⟨T, x, z, h1, h2, h3, h4 xs q.1, h5 ys q.2⟩
theorem tpP_dp {K : PySem.W.Frag} {H : Hp} {t : Addr} {ps : List TPr} {qs : List (Str × Str)} (h : Tp H t (rfs ps)) (hp : ∀ p ∈ ps, AtT H p) (e : ps.map (·.2) = qs) : Dp K H (.ref t) (.tuple (qs.map dPr)) := by
  subst e
  rw [List.map_map]
  exact .tup h.sq (dpAll_prs hp)
abbrev dHQ (zs : List Str) (qs : List (Str × Str)) : PyData := .tuple [.tuple (zs.map PyData.str), .tuple (qs.map dPr)]
theorem two_dp {K : PySem.W.Frag} {H : Hp} {t a b : Addr} {da db : PyData} (h : H t = some (.tup [.ref a, .ref b])) (h1 : Dp K H (.ref a) da) (h2 : Dp K H (.ref b) db) : Dp K H (.ref t) (.tuple [da, db]) := .tup (.inl (.inl h)) (.cons h1 (.cons h2 .nil))
theorem ltwo_dp {K : PySem.W.Frag} {H : Hp} {t a b : Addr} {da db : PyData} (h : H t = some (.lst [.ref a, .ref b])) (h1 : Dp K H (.ref a) da) (h2 : Dp K H (.ref b) db) : Dp K H (.ref t) (.list [da, db]) := .lst (.inl (.inl h)) (.cons h1 (.cons h2 .nil))
theorem fine_strsT {zs : List Str} (hz : ∀ z ∈ zs, Nm z) (lz : zs.length ≤ 100) : Fine 2 1000 15000 (.tuple (zs.map PyData.str)) := (Fine.tuple (fine_strs (m := 0) (w := 1000) hz) (by rw [List.length_map]; omega)).mono (by decide) (by decide) (by omega)
theorem fine_prsT {qs : List (Str × Str)} (hq : ∀ q ∈ qs, Nm q.1 ∧ Nm q.2) (lq : qs.length ≤ 1000) : Fine 2 1000 15000 (.tuple (qs.map dPr)) := (fine_prs hq lq).mono (by decide) (by decide) (by omega)
theorem fine_two {m W : Nat} {a b : PyData} (ha : Fine m 1000 W a) (hb : Fine m 1000 W b) : FineL m 1000 (2 * W + 2) [a, b] := (FineL.cons ha (FineL.cons hb (FineL.nil (W := 0)))).mono (Nat.le_refl _) (Nat.le_refl _) (by omega)
theorem fine_hq {zs : List Str} {qs : List (Str × Str)} (hz : ∀ z ∈ zs, Nm z) (hq : ∀ q ∈ qs, Nm q.1 ∧ Nm q.2) (lz : zs.length ≤ 100) (lq : qs.length ≤ 1000) : Fine 3 1000 40000 (dHQ zs qs) := (Fine.tuple (fine_two (fine_strsT hz lz) (fine_prsT hq lq)) (by show 2 ≤ 1000; decide)).mono (by decide) (by decide) (by decide)
theorem fine_l2 {m W : Nat} {a b : PyData} (ha : Fine m 1000 W a) (hb : Fine m 1000 W b) : Fine (m + 1) 1000 (2 * W + 2) (.list [a, b]) := Fine.list (fine_two ha hb) (by show 2 ≤ 1000; decide)
theorem showAll_app : ∀ (xs ys : List PyData), PyData.showableAll (xs ++ ys) = (PyData.showableAll xs && PyData.showableAll ys)
  | [], ys => rfl
  | x :: r, ys => by simp only [List.cons_append, PyData.showableAll, showAll_app r ys, Bool.and_assoc]
theorem depAll_app : ∀ (xs ys : List PyData), PyData.depthAll (xs ++ ys) = max (PyData.depthAll xs) (PyData.depthAll ys)
  | [], ys => by simp [PyData.depthAll]
  | x :: r, ys => by simp only [List.cons_append, PyData.depthAll, depAll_app r ys]; omega
theorem shortAll_app (B : Nat) : ∀ (xs ys : List PyData), PyData.leavesShortAll B (xs ++ ys) = (PyData.leavesShortAll B xs && PyData.leavesShortAll B ys)
  | [], ys => rfl
  | x :: r, ys => by simp only [List.cons_append, PyData.leavesShortAll, shortAll_app B r ys, Bool.and_assoc]
theorem nm_short {z : Str} (h : Nm z) : PyData.leavesShort 13 (.str z) = true := PyData.leavesShort_of_canLay0 13 (.str z) (by show PyData.strOk z = true; exact h.ok) rfl
theorem dss_show : ∀ ks : List (Str × Str), PyData.showableKv (ks.map fun k => (PyData.str k.1, PyData.str k.2)) = true
  | [] => rfl
  | k :: r => by simp only [List.map_cons, PyData.showableKv, PyData.showable, dss_show r, Bool.and_self]
theorem dss_dep : ∀ ks : List (Str × Str), PyData.depthKv (ks.map fun k => (PyData.str k.1, PyData.str k.2)) = 0
  | [] => rfl
  | k :: r => by simp only [List.map_cons, PyData.depthKv, PyData.depth, dss_dep r, Nat.max_self]
theorem dss_short : ∀ {ks : List (Str × Str)}, (∀ k ∈ ks, Nm k.1 ∧ Nm k.2) → PyData.leavesShortKv 13 (ks.map fun k => (PyData.str k.1, PyData.str k.2)) = true
  | [], _ => rfl
  | k :: r, h => by
    have h1 := h k List.mem_cons_self
    simp only [List.map_cons, PyData.leavesShortKv, nm_short h1.1, nm_short h1.2, dss_short fun x hx => h x (List.mem_cons_of_mem _ hx), Bool.and_self]
theorem dss_wgt : ∀ {ks : List (Str × Str)}, (∀ k ∈ ks, Nm k.1 ∧ Nm k.2) → PyData.weightKv (ks.map fun k => (PyData.str k.1, PyData.str k.2)) ≤ 14 * ks.length
  | [], _ => Nat.le_refl _
  | k :: r, h => by
    have h1 := h k List.mem_cons_self
    have h2 := dss_wgt fun x hx => h x (List.mem_cons_of_mem _ hx)
    have e1 : k.1.cps.size ≤ 6 := h1.1.2.1
    have e2 : k.2.cps.size ≤ 6 := h1.2.2.1
    simp only [List.map_cons, PyData.weightKv, PyData.weight, List.length_cons]
    omega
theorem mix_fine {ds : List PyData} {ks : List (Str × Str)} {m w W : Nat} (h : FineL m w W ds) (hm : m ≤ 10) (hW : W ≤ 2 ^ 18) (hk : ∀ k ∈ ks, Nm k.1 ∧ Nm k.2) (hl : ks.length ≤ 100) : (PyData.list (ds ++ [dSS ks])).showable = true ∧ (PyData.list (ds ++ [dSS ks])).depth < 60 ∧ (PyData.list (ds ++ [dSS ks])).shown.length ≤ sizeLine := by
  refine ⟨?_, ?_, ?_⟩
  · simp only [PyData.showable, showAll_app, h.shw, PyData.showableAll, dss_show, Bool.and_self]
  · simp only [PyData.depth, depAll_app, PyData.depthAll, dss_dep]
    have := h.dep
    omega
  · refine PyData.shown_fits (B := 13) (by decide) (by decide) ?_ ?_
    · simp only [PyData.leavesShort, shortAll_app, PyData.leavesShortAll_of_canLay0 13 ds h.lay h.isx, PyData.leavesShortAll, dss_short hk, Bool.and_self]
    · have h1 := dss_wgt hk
      have h2 := h.wgt
      have e : PyData.weight (PyData.list (ds ++ [dSS ks])) = PyData.weightAll ds + PyData.weightAll [dSS ks] := weight_app ds [dSS ks]
      rw [e]
      simp only [PyData.weightAll, PyData.weight]
      have e3 : (2 : Nat) ^ 20 = 1048576 := by decide
      have e4 : (2 : Nat) ^ 18 = 262144 := by decide
      omega
theorem flat_strs : ∀ zs : List Str, flatD.flatAll (zs.map PyData.str) = true
  | [] => rfl
  | z :: r => by simp only [List.map_cons, flatD.flatAll, flatD, flat_strs r, Bool.and_self]
theorem flat_prs : ∀ qs : List (Str × Str), flatD.flatAll (qs.map dPr) = true
  | [] => rfl
  | q :: r => by simp only [List.map_cons, flatD.flatAll, dPr, flatD, flat_prs r, Bool.and_self]
theorem flat_t1 (zs : List Str) : flatD (.tuple (zs.map PyData.str)) = true := by simp only [flatD]; exact flat_strs zs
theorem flat_t2 (qs : List (Str × Str)) : flatD (.tuple (qs.map dPr)) = true := by simp only [flatD]; exact flat_prs qs
/-- the text that stands at the same place -/
def atP (zs ys : List Str) (x : Str) : Str := ys.getD (pos x zs) ""
theorem atP_zip {zs ys : List Str} (nd : zs.Nodup) (hl : ys.length = zs.length) : zs.zip ys = zs.map fun x => (x, atP zs ys x) := by
  refine List.ext_getElem? fun i => ?_
  rw [List.getElem?_map]
  by_cases hi : i < zs.length
  · have h1 : zs[i]? = some zs[i] := List.getElem?_eq_getElem hi
    have h2 : ys[i]? = some ys[i] := List.getElem?_eq_getElem (by omega)
    rw [(List.getElem?_zip_eq_some (l₁ := zs) (l₂ := ys) (i := i) (z := (zs[i], ys[i]'(by omega)))).mpr ⟨h1, h2⟩, h1]
    show _ = some (_, atP zs ys _)
    unfold atP
    rw [pos_at nd h1, List.getD_eq_getElem?_getD, h2]
    rfl
  · rw [List.getElem?_eq_none (by rw [List.length_zip]; omega), List.getElem?_eq_none (by omega)]
    rfl
theorem atP_mem {zs ys : List Str} (hl : ys.length = zs.length) {x : Str} (hx : x ∈ zs) : atP zs ys x ∈ ys := by
  unfold atP
  have := pos_lt hx
  rw [List.getD_eq_getElem?_getD, List.getElem?_eq_getElem (by omega)]
  exact List.getElem_mem _
theorem atP_map {zs ys : List Str} (nd : zs.Nodup) (hl : ys.length = zs.length) : zs.map (atP zs ys) = ys := by
  have e := congrArg (List.map Prod.snd) (atP_zip nd hl)
  rw [List.map_map, List.map_snd_zip (by omega)] at e
  exact e.symm

theorem lc_prs {K : PySem.W.Frag} {J : It} {r : Addr} {as : List Addr} {qs : List (Str × Str)} {H0 : Hp} (wk : Walk J (as.map V.ref).length (Kp K r H0) (YAt (as.map V.ref))) {g : TG} {tt : TT} {te : TE} {vs : List Nat} {σ : L2.St} {H : Hp} {D : Addr} {Qd : Hp → Prop} (nD : H D = none) (hl : as.length = qs.length) (few : qs.length ≤ 100000)
    (hG : ∀ H', Same H H' → Kp K r H0 H') (hat : ∀ (i : Nat) (a : Addr) (q : Str × Str), as[i]? = some a → qs[i]? = some q → Sq K H a [.str q.1, .str q.2]) (f : Str × Str → Str × Str)
    (hs : ∀ (a : Addr) (q : Str × Str) (H1 : Hp), q ∈ qs → Same H H1 → Sq K H1 a [.str q.1, .str q.2] → ∀ (T : V → Hp → Prop) (F : Hp → Prop), (∀ t H2, Same H1 H2 → AtT H2 (t, f q) → T (.ref t) H2) →
      g (.ref a) (wipe σ vs) H1 fun σ2 H5 => wipe σ2 vs = wipe σ vs ∧ tt σ2 H5 fun b H3 => if b = true then te σ2 H3 T else F H3)
    (hd : ∀ (H' : Hp) (us : List TPr), Same H H' → LPs H' D us → us.map (·.2) = qs.map f → Qd H') :
    ∃ W : Nat → Nat → Hp → Prop, (∃ m, W 0 m (upd H D (.lst []))) ∧ ∀ i m H, W i m H →
      (J.stop i H ∧ Qd H) ∨ (J.go i H ∧ ∃ Nx : Hp → Prop, (∀ H', Nx H' → ∃ m', m' < m ∧ W (i + 1) m' H') ∧ ∀ x H', J.yld i H x H' → g x (wipe σ vs) H' fun σ2 H2 => wipe σ2 vs = wipe σ vs ∧ tt σ2 H2 fun b H3 =>
        if b = true then te σ2 H3 fun y H4 => ∃ acc, H4 D = some (.lst acc) ∧ acc.length < sizeLine ∧ Nx (upd H4 D (.lst (acc ++ [y]))) else Nx H3) := by
  refine lc_it wk (fun i Hx => Same H Hx ∧ ∃ us, LPs Hx D us ∧ us.map (·.2) = (qs.take i).map f) ⟨same_upd nD, [], ⟨upd_same, fun p hp => by cases hp⟩, rfl⟩ (fun i Hx _ h => hG _ h.1) ?_ ?_
  · rintro i x H4 H5 hi ⟨s4, us, hus, eus⟩ ⟨rfl, hx⟩
    rw [List.getElem?_map] at hx
    obtain ⟨a, ha, rfl⟩ := Option.map_eq_some_iff.mp hx
    rw [List.length_map] at hi
    have hq : qs[i]? = some qs[i] := List.getElem?_eq_getElem (by omega)
    have hqa := hat i a _ ha hq
    have hqm := List.mem_of_getElem? hq
    generalize qs[i] = q at *
    have hul : us.length ≤ i := by
      have e := congrArg List.length eus
      rw [List.length_map, List.length_map, List.length_take] at e
      omega
    refine hs a q H5 hqm s4 (sameQ s4 hqa) _ _ fun t H2 s2 ht => ?_
    have hu := hus.same s2
    refine ⟨_, hu.1, by rw [rfs_len, sizeLine_eq]; omega, same_put (s4.trans s2) nD, _, hu.push (a := (f q).1) (b := (f q).2) ht, ?_⟩
    rw [List.map_append, eus, List.take_add_one, hq, List.map_append]
    rfl
  · rintro H4 ⟨s4, us, hus, eus⟩
    rw [List.length_map, hl, List.take_length] at eus
    exact hd H4 us s4 hus eus
theorem filt_take {ps : List TPr} {P : Str × Str → Bool} {i : Nat} {p : TPr} (h : ps[i]? = some p) : (ps.take (i + 1)).filter (fun p => P p.2) = (ps.take i).filter (fun p => P p.2) ++ (if P p.2 = true then [p] else []) := by
  rw [List.take_add_one, h, List.filter_append]
  congr 1
  by_cases e : P p.2 = true
  · rw [if_pos e]
    exact List.filter_cons_of_pos e
  · rw [if_neg e]
    exact List.filter_cons_of_neg e
theorem lc_prf {K : PySem.W.Frag} {J : It} {r : Addr} {ps : List TPr} {H0 : Hp} (wk : Walk J (rfs ps).length (Kp K r H0) (YAt (rfs ps))) {g : TG} {tt : TT} {te : TE} {vs : List Nat} {σ : L2.St} {H : Hp} {D : Addr} {Qd : Hp → Prop} (nD : H D = none) (few : ps.length ≤ 100000)
    (hG : ∀ H', Same H H' → Kp K r H0 H') (P : Str × Str → Bool)
    (hs : ∀ (p : TPr) (H1 : Hp), p ∈ ps → Same H H1 → ∀ (T : V → Hp → Prop) (F : Hp → Prop), (P p.2 = true → ∀ H2, Same H1 H2 → T (.ref p.1) H2) → (P p.2 = false → ∀ H2, Same H1 H2 → F H2) →
      g (.ref p.1) (wipe σ vs) H1 fun σ2 H5 => wipe σ2 vs = wipe σ vs ∧ tt σ2 H5 fun b H3 => if b = true then te σ2 H3 T else F H3)
    (hd : ∀ (H' : Hp), Same H H' → H' D = some (.lst (rfs (ps.filter fun p => P p.2))) → Qd H') :
    ∃ W : Nat → Nat → Hp → Prop, (∃ m, W 0 m (upd H D (.lst []))) ∧ ∀ i m H, W i m H →
      (J.stop i H ∧ Qd H) ∨ (J.go i H ∧ ∃ Nx : Hp → Prop, (∀ H', Nx H' → ∃ m', m' < m ∧ W (i + 1) m' H') ∧ ∀ x H', J.yld i H x H' → g x (wipe σ vs) H' fun σ2 H2 => wipe σ2 vs = wipe σ vs ∧ tt σ2 H2 fun b H3 =>
        if b = true then te σ2 H3 fun y H4 => ∃ acc, H4 D = some (.lst acc) ∧ acc.length < sizeLine ∧ Nx (upd H4 D (.lst (acc ++ [y]))) else Nx H3) := by
  refine lc_it wk (fun i Hx => Same H Hx ∧ Hx D = some (.lst (rfs ((ps.take i).filter fun p => P p.2)))) ⟨same_upd nD, upd_same⟩ (fun i Hx _ h => hG _ h.1) ?_ ?_
  · rintro i x H4 H5 hi ⟨s4, hD⟩ ⟨rfl, hx⟩
    obtain ⟨p, hp, rfl⟩ := rfs_at hx
    rw [rfs_len] at hi
    refine hs p H5 (List.mem_of_getElem? hp) s4 _ _ (fun e H2 s2 => ?_) fun e H2 s2 => ?_
    · refine ⟨_, s2 _ _ hD, ?_, same_put (s4.trans s2) nD, ?_⟩
      · have := List.length_filter_le (fun p : TPr => P p.2) (ps.take i)
        rw [List.length_take] at this
        rw [rfs_len, sizeLine_eq]
        omega
      · rw [upd_same, filt_take hp, if_pos e]
        unfold rfs
        rw [List.map_append]
        rfl
    · refine ⟨s4.trans s2, ?_⟩
      rw [filt_take hp, if_neg (by rw [e]; decide), List.append_nil]
      exact s2 _ _ hD
  · rintro H4 ⟨s4, hD⟩
    rw [rfs_len, List.take_length] at hD
    exact hd H4 s4 hD
theorem nw_two {K : PySem.W.Frag} {H H' : Hp} {zs xs : List Str} {L : SL} {y : V} (h : Nw H H' y (lsD (.tuple [.tuple (xs.map PyData.str), dTies L]))) (hL : ∀ p ∈ L, OkP zs p) : ∃ t a b, y = .ref t ∧ H' t = some (.lst [.ref a, .ref b]) ∧ H' a = some (.lst (xs.map V.str)) ∧ PqL K H' b (L.map prOf) := by
  have h : Nw H H' y (.list [.list (lsAll (xs.map PyData.str)), lsD (dTies L)]) := h
  cases h with
  | lst n e a =>
    cases a with
    | cons a1 r =>
      cases r with
      | cons a2 r2 =>
        cases r2
        obtain ⟨b, rfl, nb, hb⟩ := nw_pq (K := K) a2 hL
        cases a1 with
        | lst n1 e1 b1 =>
          rw [nw_strs b1] at e1
          exact ⟨_, _, b, rfl, e, e1, hb⟩
theorem Ties.dpq {K : PySem.W.Frag} {zs : List Str} {H : Hp} {r : Addr} {L : SL} (h : Ties zs H r L) : Dp K H (.ref r) (.tuple ((L.map prOf).map dPr)) := by
  rw [← h.data]
  exact h.dp
/-- ties as pairs at their places -/
def trs (L : SL) : List TPr := L.map fun p => (p.1, prOf p)
theorem trs_snd (L : SL) : (trs L).map (·.2) = L.map prOf := by
  unfold trs
  rw [List.map_map]
  rfl
theorem trs_rf (L : SL) : rf L = rfs (trs L) := by
  unfold trs rfs
  rw [List.map_map]
  rfl
theorem Ties.trs {zs : List Str} {H : Hp} {r : Addr} {L : SL} (h : Ties zs H r L) : Tp H r (rfs (trs L)) ∧ ∀ p ∈ trs L, AtT H p := by
  refine ⟨trs_rf L ▸ h.1, fun p hp => ?_⟩
  obtain ⟨q, hq, rfl⟩ := List.mem_map.mp hp
  obtain ⟨h1, x, y, e, _⟩ := h.2.1 q hq
  rw [e] at h1
  have e2 : prOf q = (x, y) := by
    unfold prOf
    rw [e]
  show H q.1 = some (.tup [.str (prOf q).1, .str (prOf q).2])
  rw [e2]
  exact h1
theorem Tp.keepL {H : Hp} {D t : Addr} {xs ys : List V} {o' : HO} (h : Tp H t ys) (e : H D = some (.lst xs)) : Tp (upd H D o') t ys := by
  obtain ⟨ob, h1, h2⟩ := h
  exact ⟨ob, keep_l e h1 (fun _ z => nomatch z), h2⟩
theorem AtT.keepL {H : Hp} {D : Addr} {p : TPr} {xs : List V} {o' : HO} (h : AtT H p) (e : H D = some (.lst xs)) : AtT (upd H D o') p := keep_l e h (fun _ z => nomatch z)

theorem fmap_take {α : Type} {f : α → Option V} {qs : List α} {i : Nat} {q : α} (h : qs[i]? = some q) : (qs.take (i + 1)).filterMap f = (qs.take i).filterMap f ++ (f q).toList := by
  rw [List.take_add_one, h, List.filterMap_append]
  cases e : f q <;> simp [e]
/-- a list made of pairs: each gives a value, or none -/
theorem lc_pr {K : PySem.W.Frag} {J : It} {r : Addr} {as : List Addr} {qs : List (Str × Str)} {H0 : Hp} (wk : Walk J (as.map V.ref).length (Kp K r H0) (YAt (as.map V.ref))) {g : TG} {tt : TT} {te : TE} {vs : List Nat} {σ : L2.St} {H : Hp} {D : Addr} {Qd : Hp → Prop} (nD : H D = none) (hl : as.length = qs.length) (few : qs.length ≤ 100000)
    (hG : ∀ H', Same H H' → Kp K r H0 H') (hat : ∀ (i : Nat) (a : Addr) (q : Str × Str), as[i]? = some a → qs[i]? = some q → Sq K H a [.str q.1, .str q.2]) (f : Str × Str → Option V)
    (hs : ∀ (a : Addr) (q : Str × Str) (H1 : Hp), q ∈ qs → Same H H1 → Sq K H1 a [.str q.1, .str q.2] → ∀ (T : V → Hp → Prop) (F : Hp → Prop), (∀ y H2, Same H1 H2 → f q = some y → T y H2) → (∀ H2, Same H1 H2 → f q = none → F H2) →
      g (.ref a) (wipe σ vs) H1 fun σ2 H5 => wipe σ2 vs = wipe σ vs ∧ tt σ2 H5 fun b H3 => if b = true then te σ2 H3 T else F H3)
    (hd : ∀ (H' : Hp), Same H H' → H' D = some (.lst (qs.filterMap f)) → Qd H') :
    ∃ W : Nat → Nat → Hp → Prop, (∃ m, W 0 m (upd H D (.lst []))) ∧ ∀ i m H, W i m H →
      (J.stop i H ∧ Qd H) ∨ (J.go i H ∧ ∃ Nx : Hp → Prop, (∀ H', Nx H' → ∃ m', m' < m ∧ W (i + 1) m' H') ∧ ∀ x H', J.yld i H x H' → g x (wipe σ vs) H' fun σ2 H2 => wipe σ2 vs = wipe σ vs ∧ tt σ2 H2 fun b H3 =>
        if b = true then te σ2 H3 fun y H4 => ∃ acc, H4 D = some (.lst acc) ∧ acc.length < sizeLine ∧ Nx (upd H4 D (.lst (acc ++ [y]))) else Nx H3) := by
  refine lc_it wk (fun i Hx => Same H Hx ∧ Hx D = some (.lst ((qs.take i).filterMap f))) ⟨same_upd nD, upd_same⟩ (fun i Hx _ h => hG _ h.1) ?_ ?_
  · rintro i x H4 H5 hi ⟨s4, hD⟩ ⟨rfl, hx⟩
    rw [List.getElem?_map] at hx
    obtain ⟨a, ha, rfl⟩ := Option.map_eq_some_iff.mp hx
    rw [List.length_map] at hi
    have hq : qs[i]? = some qs[i] := List.getElem?_eq_getElem (by omega)
    have hqa := hat i a _ ha hq
    have hqm := List.mem_of_getElem? hq
    generalize qs[i] = q at *
    refine hs a q H5 hqm s4 (sameQ s4 hqa) _ _ (fun y H2 s2 e => ?_) fun H2 s2 e => ?_
    · refine ⟨_, s2 _ _ hD, ?_, same_put (s4.trans s2) nD, ?_⟩
      · have := List.length_filterMap_le f (qs.take i)
        rw [List.length_take] at this
        rw [sizeLine_eq]
        omega
      · rw [upd_same, fmap_take hq, e]
        rfl
    · refine ⟨s4.trans s2, ?_⟩
      rw [fmap_take hq, e]
      exact (s2 _ _ hD).trans (by simp)
  · rintro H4 ⟨s4, hD⟩
    rw [List.length_map, hl, List.take_length] at hD
    exact hd H4 s4 hD
/-- the slots written out -/
theorem sl_cut {u : TS} {D : Ends} {σ : L2.St} {H : Hp} (σ' : L2.St) (e : σ = σ') (h : u D σ' H) : u D σ H := e ▸ h
end HF
/-! comprehensions over texts, told by what each text gives -/
namespace HF
open PySem PySem.Spec PyProof.Rows L2
/-- list(a list, or a tuple) -/
def rLof (K : PySem.W.Frag) : List V → Hp → VK → Prop := fun xs H Q => ∃ p ys, xs = [.ref p] ∧ (SqL K H p ys ∨ SqT K H p ys) ∧ ∀ l, H l = none → Q (.ref l) (upd H l (.lst ys))
theorem fmF {p : Str → Bool} : ∀ zs : List Str, zs.filterMap (fun z => if p z = true then some (V.str z) else none) = (zs.filter p).map V.str
  | [] => rfl
  | z :: r => by
    by_cases e : p z = true
    · rw [List.filterMap_cons, if_pos e, List.filter_cons_of_pos e, List.map_cons, fmF r]
    · rw [List.filterMap_cons, if_neg e, List.filter_cons_of_neg e, fmF r]
theorem fmM {f : Str → V} : ∀ zs : List Str, zs.filterMap (fun z => some (f z)) = zs.map f
  | [] => rfl
  | z :: r => by rw [List.filterMap_cons, List.map_cons, fmM r]
theorem lc_s {K : PySem.W.Frag} {J : It} {a : Addr} {zs : List Str} {H0 : Hp} (wk : Walk J (zs.map V.str).length (Kp K a H0) (YAt (zs.map V.str))) {g : TG} {tt : TT} {te : TE} {vs : List Nat} {σ : L2.St} {H : Hp} {D : Addr} {Qd : Hp → Prop} (nD : H D = none) (few : zs.length ≤ 100000)
    (hG : ∀ H', Same H H' → Kp K a H0 H') (f : Str → Option V)
    (hs : ∀ (i : Nat) (z : Str) (H1 : Hp), zs[i]? = some z → Same H H1 → ∀ (T : V → Hp → Prop) (F : Hp → Prop), (∀ y H4, Same H1 H4 → f z = some y → T y H4) → (∀ H3, Same H1 H3 → f z = none → F H3) →
      g (.str z) (wipe σ vs) H1 fun σ2 H5 => wipe σ2 vs = wipe σ vs ∧ tt σ2 H5 fun b H3 => if b = true then te σ2 H3 T else F H3)
    (hd : ∀ H', Same H H' → H' D = some (.lst (zs.filterMap f)) → Qd H') :
    ∃ W : Nat → Nat → Hp → Prop, (∃ m, W 0 m (upd H D (.lst []))) ∧ ∀ i m H, W i m H →
      (J.stop i H ∧ Qd H) ∨ (J.go i H ∧ ∃ Nx : Hp → Prop, (∀ H', Nx H' → ∃ m', m' < m ∧ W (i + 1) m' H') ∧ ∀ x H', J.yld i H x H' → g x (wipe σ vs) H' fun σ2 H2 => wipe σ2 vs = wipe σ vs ∧ tt σ2 H2 fun b H3 =>
        if b = true then te σ2 H3 fun y H4 => ∃ acc, H4 D = some (.lst acc) ∧ acc.length < sizeLine ∧ Nx (upd H4 D (.lst (acc ++ [y]))) else Nx H3) := by
  have eout : ∀ (i : Nat) (z : Str), zs[i]? = some z → (zs[i]?.bind f) = f z := fun i z e => by rw [e]; rfl
  refine lc_w wk nD (by rw [List.length_map]; exact few) hG (fun i x H1 H2 _ s y => ?_) (fun i => zs[i]?.bind f) (fun i x H1 H2 hi s y T F hT hF => ?_) (fun H' s e => hd H' s ?_)
  · obtain ⟨rfl, _⟩ := y
    exact Same.refl _
  · obtain ⟨rfl, hx⟩ := y
    rw [List.getElem?_map] at hx
    obtain ⟨z, hz, rfl⟩ := Option.map_eq_some_iff.mp hx
    exact hs i z _ hz s T F (fun y H4 s4 e => hT y H4 s4 ((eout i z hz).trans e)) (fun H3 s3 e => hF H3 s3 ((eout i z hz).trans e))
  · rw [List.length_map, fm_map eout] at e
    exact e
end HF
set_option maxHeartbeats 40000000
namespace HF
open PySem PySem.Spec PyProof.Rows L2
abbrev sRight : Stmt := topS 22
abbrev sLaw : Stmt := topS 23
abbrev nRight : List Str := ["_law_box_here", "_law_both", "_law_cut", "_law_stack", "_law_low", "_law_pairs", "_law_own", "_law_fresh", "_law_by", "_law_before", "_law_due", "_law_told_here", "_law_shared", "_law_some", "_law_mine", "_law_name", "_law_pair", "_law_its"]
theorem scRight : FnScope nRight ["_law_box_here"] (defScope sRight) := ⟨rfl, rfl, rfl, by decide +kernel, rfl, by decide +kernel, by decide +kernel⟩
/-- what the top has written -/
structure TX (K : PySem.W.Frag) (mg : Str → Option Value) where
  fRi : Addr
  dRi : FuncData
  FRi : Fun K "rising_ties" "rising_ties" sRis fRi dRi
  bRi : Binds K dRi ["pairs"] []
  gRi : mg "rising_ties" = some (.ref fRi)
  fe0 : Addr
  de0 : FuncData
  Fe0 : Fun K "called" "called" sCal fe0 de0
  be0 : Binds K de0 ["heap", "ties", "names"] []
  ge0 : mg "called" = some (.ref fe0)
  fe1 : Addr
  de1 : FuncData
  Fe1 : Fun K "turned" "turned" sTrn fe1 de1
  be1 : Binds K de1 ["ties"] []
  ge1 : mg "turned" = some (.ref fe1)
  fPi : Addr
  dPi : FuncData
  FPi : Fun K "piled" "piled" sPil fPi dPi
  bPi : Binds K dPi ["upper", "lower"] []
  gPi : mg "piled" = some (.ref fPi)
  fOn : Addr
  dOn : FuncData
  FOn : Fun K "only" "only" sOnl fOn dOn
  bOn : Binds K dOn ["heap", "ties", "books"] []
  gOn : mg "only" = some (.ref fOn)
  fB : Addr
  dB : FuncData
  FB : Fun K "_law_box" "_law_box" sBox fB dB
  bB : Binds K dB ["_law_script", "_law_k"] []
  gB : mg "_law_box" = some (.ref fB)
  fT : Addr
  dT : FuncData
  FT : Fun K "_law_take" "_law_take" sTake fT dT
  bT : Binds K dT ["_law_box_here", "_law_bound"] []
  gT : mg "_law_take" = some (.ref fT)
  fG : Addr
  dG : FuncData
  FG : Fun K "_law_same" "_law_same" sSame fG dG
  bG : Binds K dG ["_law_found", "_law_due"] []
  gG : mg "_law_same" = some (.ref fG)
  fJ : Addr
  dJ : FuncData
  FJ : Fun K "_law_listed" "_law_listed" sListed fJ dJ
  bJ : Binds K dJ ["_law_matter"] []
  gJ : mg "_law_listed" = some (.ref fJ)
  fS : Addr
  dS : FuncData
  FS : Fun K "_law_strewn" "_law_strewn" sStrewn fS dS
  bS : Binds K dS ["_law_box_here", "_law_some"] []
  gS : mg "_law_strewn" = some (.ref fS)
  fN : Addr
  dN : FuncData
  FN : Fun K "_law_names" "_law_names" sNames fN dN
  bN : Binds K dN ["_law_box_here", "_law_size"] []
  gN : mg "_law_names" = some (.ref fN)
  fH : Addr
  dH : FuncData
  FH : Fun K "_law_heap" "_law_heap" sHeap fH dH
  bH : Binds K dH ["_law_box_here", "_law_least", "_law_most"] []
  gH : mg "_law_heap" = some (.ref fH)
  fY : Addr
  dY : FuncData
  FY : Fun K "_law_ties" "_law_ties" sTies fY dY
  bY : Binds K dY ["_law_box_here", "_law_stack"] []
  gY : mg "_law_ties" = some (.ref fY)
  fe2 : Addr
  de2 : FuncData
  Fe2 : Fun K "_law_told" "_law_told" sTol fe2 de2
  be2 : Binds K de2 ["_law_one", "_law_two"] []
  ge2 : mg "_law_told" = some (.ref fe2)
  fQ : Addr
  dQ : FuncData
  FQ : Fun K "_law_right" "_law_right" sRight fQ dQ
  bQ : Binds K dQ ["_law_box_here"] []
  gQ : mg "_law_right" = some (.ref fQ)
  m_LookupError : mg "LookupError" = none
  m_RuntimeError : mg "RuntimeError" = none
  m_ValueError : mg "ValueError" = none
  m_abs : mg "abs" = none
  m_all : mg "all" = none
  m_bool : mg "bool" = none
  m_dict : mg "dict" = none
  m_int : mg "int" = none
  m_isinstance : mg "isinstance" = none
  m_len : mg "len" = none
  m_list : mg "list" = none
  m_min : mg "min" = none
  m_range : mg "range" = none
  m_repr : mg "repr" = none
  m_set : mg "set" = none
  m_sorted : mg "sorted" = none
  m_str : mg "str" = none
  m_tuple : mg "tuple" = none
  m_zip : mg "zip" = none
  kC : KBinds K de0 ["heap", "ties", "names"] ["names", "ties", "heap"] g321 g321
  kT : KBinds K de1 ["ties"] ["ties"] gk1 gk1
  kP : KBinds K dPi ["upper", "lower"] ["lower", "upper"] g21 g21
  kO : KBinds K dOn ["heap", "ties", "books"] ["books", "ties", "heap"] g321 g321
  CS : Addr
  tS : XSh K mg CS
  CB : Addr
  xB : mg "Barred" = some (.ref CB)
  CN : Addr
  xN : mg "NoBook" = some (.ref CN)
  CU : Addr
  xU : mg "Unlike" = some (.ref CU)
  kin : KinS K CB CN CS CU
/-- dict(a list of pairs) -/
def rDictP (K : PySem.W.Frag) : List V → Hp → VK → Prop := fun xs H Q => ∃ (a : Addr) (ps : List Addr) (kvs : List (Key × V)), xs = [.ref a] ∧ SqL K H a (ps.map V.ref) ∧ Paired (fun p kv => SqT K H p [kV kv.1, kv.2]) ps kvs ∧ ∀ p, H p = none → Q (.ref p) (upd H p (.dK (mergeK [] kvs)))
theorem pqs_ll {K : PySem.W.Frag} {H : Hp} {l : Addr} {qs : List (Str × Str)} (h : PqL K H l qs) : Pqs K H l qs := by
  obtain ⟨as, h1, h2, h3⟩ := h
  exact ⟨as, .inl h1, h2, fun i a q e f => .inl (h3 i a q e f)⟩
section
variable {P : Program} {w : World} {K : PySem.W.Frag} {mg : Str → Option Value} {base : Heap}
def spRight : Sp := fun vs H Q _ => ∃ (p : Addr) (c : Int), vs = [.ref p] ∧ Bx H p c ∧ c < 2 ^ 36 ∧
  ∀ (H1 : Hp) (c1 : Int), Oth p H H1 → Bx H1 p c1 → c ≤ c1 → c1 ≤ c + 2000 → Q (.bl true) H1
theorem ok_right (t : TX K mg) : FnG P w K mg base CX0 6 t.fQ t.dQ ["_law_box_here"] spRight := by
  have G_law_take : FnOk P w K mg base CX0 1 t.fT t.dT ["_law_box_here", "_law_bound"] spTake := ok_take t.FT
  have G_law_strewn : FnOk P w K mg base CX0 2 t.fS t.dS ["_law_box_here", "_law_some"] (spStrewn K) := ok_strewn t.FS t.FT t.bT t.gT t.m_len
  have G_law_names : FnOk P w K mg base CX0 2 t.fN t.dN ["_law_box_here", "_law_size"] (spNames K) := ok_names t.FN t.FT t.bT t.gT t.m_range t.m_sorted
  have G_law_heap : FnOk P w K mg base CX0 3 t.fH t.dH ["_law_box_here", "_law_least", "_law_most"] spHeap := ok_heap t.FH t.FT t.FS t.FN t.bT t.bS t.bN t.gT t.gS t.gN t.m_range t.m_sorted t.m_len t.m_tuple
  have G_law_ties : FnOk P w K mg base CX0 3 t.fY t.dY ["_law_box_here", "_law_stack"] (spTies K) := ok_ties t.FY t.FT t.FS t.bT t.bS t.gT t.gS t.m_sorted t.m_int t.m_zip t.m_tuple t.m_set t.m_len
  have G_called : FnOk P w K mg base CX0 2 t.fe0 t.de0 ["heap", "ties", "names"] (spCal K) := ok_Cal t.Fe0 t.FRi t.bRi t.gRi t.m_tuple t.m_sorted
  have G_turned : FnOk P w K mg base CX0 2 t.fe1 t.de1 ["ties"] (spRis K swq) := ok_Trn t.Fe1 t.FRi t.bRi t.gRi t.m_tuple t.m_sorted
  have G_piled : FnOk P w K mg base CX0 2 t.fPi t.dPi ["upper", "lower"] (spPil K) := ok_Pil t.FPi t.FRi t.bRi t.gRi t.m_tuple t.m_sorted t.m_list
  have G_only : FnOk P w K mg base CX0 2 t.fOn t.dOn ["heap", "ties", "books"] (spOnl K) := ok_Onl t.FOn t.FRi t.bRi t.gRi t.m_tuple t.m_sorted
  have GPx : FnOk P w K mg base (L2.CX P w) 3 t.fPi t.dPi ["upper", "lower"] (spPilX K t.CS) := ok_PilX t.FPi t.tS t.m_RuntimeError t.FRi t.bRi t.gRi t.m_tuple t.m_sorted t.m_list
  have G_law_told : FnOk P w K mg base CX0 4 t.fe2 t.de2 ["_law_one", "_law_two"] (spTol K) := ok_Tol (k := 0) t.Fe2 t.FPi t.bPi t.gPi GPx t.tS t.xB t.xN t.xU t.kin t.m_isinstance t.m_RuntimeError
  have G_law_same : FnOk P w K mg base CX0 5 t.fG t.dG ["_law_found", "_law_due"] (spSame K 4) := ok_same t.FG t.bG t.gG t.m_isinstance t.m_list t.m_tuple t.m_bool t.m_str t.m_int t.m_len t.m_all t.m_zip 4
  have G_law_listed : FnOk P w K mg base CX0 4 t.fJ t.dJ ["_law_matter"] (spListed K 3) := ok_listed t.FJ t.bJ t.gJ t.m_isinstance t.m_list t.m_tuple 3
  refine okG t.FQ scRight (fun vs H Q E h => ?_) (fun cdv A outer s H vs Q E gd hr h => ?_)
  · obtain ⟨p, c, rfl, _⟩ := h
    rfl
  · obtain ⟨p, c, rfl, hB, hc, q⟩ := h
    have hBnn := hB.nn
    have r1 := hr.mono (show 1 ≤ 5 by decide)
    have r2 := hr.mono (show 2 ≤ 5 by decide)
    have r3 := hr.mono (show 3 ≤ 5 by decide)
    have r4 := hr.mono (show 4 ≤ 5 by decide)
    refine ⟨_, pss_cons (ps_set (i := 1) scRight.nd rfl (.inl rfl) (pe_call G_law_heap r3 (by rfl) t.gH t.FH.kp t.bH .nil pass0 (pa_cons (pv 0) (pa_cons pe_int (pa_cons pe_int pa_nil)))))
      (pss_cons (ps_set (i := 2) scRight.nd rfl (.inl rfl) (pe_op op_add pe_int (pe_call G_law_take r1 (by rfl) t.gT t.FT.kp t.bT .nil pass0 (pa_cons (pv 0) (pa_cons (pe_op op_sub (pe_callB call_len_seq (by rfl) t.m_len PySem.boot_len (pa_cons (pv 1) pa_nil)) pe_int) pa_nil)))))
      (pss_cons (ps_par (i := 3) (j := 4) (by rfl) scRight.nd rfl rfl (by decide) rfl rfl (pa_cons (pe_slice (r := rSlTp) sl_tp (pv 1) po_none (po_some (pv 2))) (pa_cons (pe_slice (r := rSlTp) sl_tp (pv 1) (po_some (pv 2)) po_none) pa_nil)) (by rfl))
      (pss_cons (ps_par (i := 5) (j := 6) (by rfl) scRight.nd rfl rfl (by decide) rfl rfl (pa_cons (pe_call G_law_ties r3 (by rfl) t.gY t.FY.kp t.bY .nil pass0 (pa_cons (pv 0) (pa_cons (pv 3) pa_nil))) (pa_cons (pe_call G_law_ties r3 (by rfl) t.gY t.FY.kp t.bY .nil pass0 (pa_cons (pv 0) (pa_cons (pv 4) pa_nil))) pa_nil)) (by rfl))
      (pss_cons (ps_set (i := 7) scRight.nd rfl (.inl rfl) (pe_ifExp (pt_cmpR op_eq (pe_call G_law_take r1 (by rfl) t.gT t.FT.kp t.bT .nil pass0 (pa_cons (pv 0) (pa_cons pe_int pa_nil))) pe_int (nomark _)) (pe_call G_law_strewn r2 (by rfl) t.gS t.FS.kp t.bS .nil pass0 (pa_cons (pv 0) (pa_cons (pe_call G_law_names r2 (by rfl) t.gN t.FN.kp t.bN .nil pass0 (pa_cons (pv 0) (pa_cons (pe_callB call_len_seq (by rfl) t.m_len PySem.boot_len (pa_cons (pv 3) pa_nil)) pa_nil))) pa_nil))) (pe_call G_law_strewn r2 (by rfl) t.gS t.FS.kp t.bS .nil pass0 (pa_cons (pv 0) (pa_cons (pv 3) pa_nil)))))
      (pss_cons (ps_set (i := 8) scRight.nd rfl (.inr rfl) (pe_callTy (x := "dict") (T := "dict") (r := rDictP K) (call_dictP rfl) (by rfl) t.m_dict (by decide +kernel) (pa_cons (pe_lc (own := [("_law_mine", 14), ("_law_name", 15)]) (g := (gSeq K 2 (gCons (gName 14) (gCons (gName 15) gNil)))) (tt := tYes) rfl scRight.nd (pi_zipM (by rfl) t.m_zip (pa_cons (pv 3) (pa_cons (pv 7) pa_nil))) (blkOk_by (N := nRight) (sc := defScope sRight) (by decide +kernel)) (fun _ _ _ _ _ => pg_seq rfl (pgs_cons (pg_name (i := 14) scRight.nd rfl (.inl rfl)) (pgs_cons (pg_name (i := 15) scRight.nd rfl (.inl rfl)) pgs_nil))) (fun _ _ _ _ _ => pts_nil) (fun _ _ _ _ _ => pe_tup (pa_cons (pv 14) (pa_cons (pv 15) pa_nil)))) pa_nil)))
      (pss_cons (ps_set (i := 9) scRight.nd rfl (.inl rfl) (pe_callB (call_reprM gd hr.units) (by rfl) t.m_repr (by decide +kernel) (pa_cons (pe_lstN (pa_cons (pv 3) (pa_cons (pv 4) (pa_cons (pv 5) (pa_cons (pv 6) (pa_cons (pv 8) pa_nil)))))) pa_nil)))
      (pss_cons (ps_set (i := 10) scRight.nd rfl (.inl rfl) (pe_tup (pa_cons (pe_callTy call_tupleF (by rfl) t.m_tuple (by decide +kernel) (pa_cons (pe_lc (own := [("_law_mine", 14)]) (g := (gName 14)) (tt := tYes) rfl scRight.nd (pi_seq (pv 3)) (blkOk_by (N := nRight) (sc := defScope sRight) (by decide +kernel)) (fun _ _ _ _ _ => pg_name (i := 14) scRight.nd rfl (.inl rfl)) (fun _ _ _ _ _ => pts_nil) (fun _ _ _ _ _ => pe_dget (u1 hr.units) (pv 8) (pv 14) (fun _ _ => rfl))) pa_nil)) (pa_cons (pe_callTy call_tupleF (by rfl) t.m_tuple (by decide +kernel) (pa_cons (pe_callB (cr_sortP2 hr.units) (by rfl) t.m_sorted (by decide +kernel) (pa_cons (pe_lc (own := [("_law_mine", 14), ("_law_its", 17)]) (g := (gSeq K 2 (gCons (gName 14) (gCons (gName 17) gNil)))) (tt := tYes) rfl scRight.nd (pi_seq (pv 5)) (blkOk_by (N := nRight) (sc := defScope sRight) (by decide +kernel)) (fun _ _ _ _ _ => pg_seq rfl (pgs_cons (pg_name (i := 14) scRight.nd rfl (.inl rfl)) (pgs_cons (pg_name (i := 17) scRight.nd rfl (.inl rfl)) pgs_nil))) (fun _ _ _ _ _ => pts_nil) (fun _ _ _ _ _ => pe_tup (pa_cons (pe_dget (u1 hr.units) (pv 8) (pv 14) (fun _ _ => rfl)) (pa_cons (pe_dget (u1 hr.units) (pv 8) (pv 17) (fun _ _ => rfl)) pa_nil)))) pa_nil)) pa_nil)) pa_nil))))
      (pss_cons (ps_set (i := 11) scRight.nd rfl (.inl rfl) (pe_lst (pa_cons (pe_call G_called r2 (by rfl) t.ge0 t.Fe0.kp t.be0 .nil pass0 (pa_cons (pv 3) (pa_cons (pv 5) (pa_cons (pv 8) pa_nil)))) (pa_cons (pe_callK0 G_called r2 (by rfl) t.ge0 t.Fe0.kp t.kC pass0 (pk_cons (pv 8) (pk_cons (pe_call G_law_listed r4 (by rfl) t.gJ t.FJ.kp t.bJ .nil pass0 (pa_cons (pv 5) pa_nil)) (pk_cons (pe_callTy (x := "list") (T := "list") (r := rLof K) call_list_of (by rfl) t.m_list (by decide +kernel) (pa_cons (pv 3) pa_nil)) pk_nil)))) pa_nil))))
      (pss_cons (ps_if (pt_not (pt_val (pe_call G_law_same hr (by rfl) t.gG t.FG.kp t.bG .nil pass0 (pa_cons (pv 11) (pa_cons (pe_lst (pa_cons (pv 10) (pa_cons (pv 10) pa_nil))) pa_nil))))) pss_never pss_nil)
      (pss_cons (ps_set (i := 10) scRight.nd rfl (.inl rfl) (pe_callTy call_tupleF (by rfl) t.m_tuple (by decide +kernel) (pa_cons (pe_callB (cr_sortP2 hr.units) (by rfl) t.m_sorted (by decide +kernel) (pa_cons (pe_lc (own := [("_law_mine", 14), ("_law_its", 17)]) (g := (gSeq K 2 (gCons (gName 14) (gCons (gName 17) gNil)))) (tt := tYes) rfl scRight.nd (pi_seq (pv 5)) (blkOk_by (N := nRight) (sc := defScope sRight) (by decide +kernel)) (fun _ _ _ _ _ => pg_seq rfl (pgs_cons (pg_name (i := 14) scRight.nd rfl (.inl rfl)) (pgs_cons (pg_name (i := 17) scRight.nd rfl (.inl rfl)) pgs_nil))) (fun _ _ _ _ _ => pts_nil) (fun _ _ _ _ _ => pe_tup (pa_cons (pv 17) (pa_cons (pv 14) pa_nil)))) pa_nil)) pa_nil)))
      (pss_cons (ps_if (pt_not (pt_val (pe_call G_law_same hr (by rfl) t.gG t.FG.kp t.bG .nil pass0 (pa_cons (pe_lst (pa_cons (pe_call G_turned r2 (by rfl) t.ge1 t.Fe1.kp t.be1 .nil pass0 (pa_cons (pv 5) pa_nil)) (pa_cons (pe_callK0 G_turned r2 (by rfl) t.ge1 t.Fe1.kp t.kT pass0 (pk_cons (pe_call G_law_listed r4 (by rfl) t.gJ t.FJ.kp t.bJ .nil pass0 (pa_cons (pv 5) pa_nil)) pk_nil)) (pa_cons (pe_call G_turned r2 (by rfl) t.ge1 t.Fe1.kp t.be1 .nil pass0 (pa_cons (pe_call G_turned r2 (by rfl) t.ge1 t.Fe1.kp t.be1 .nil pass0 (pa_cons (pv 5) pa_nil)) pa_nil)) pa_nil)))) (pa_cons (pe_lst (pa_cons (pv 10) (pa_cons (pv 10) (pa_cons (pv 5) pa_nil)))) pa_nil))))) pss_never pss_nil)
      (pss_cons (ps_set (i := 10) scRight.nd rfl (.inl rfl) (pe_tup (pa_cons (pv 1) (pa_cons (pe_callTy call_tupleF (by rfl) t.m_tuple (by decide +kernel) (pa_cons (pe_callB (cr_sortTP hr.units) (by rfl) t.m_sorted (by decide +kernel) (pa_cons (pe_op (r := rCatTp K) op_catTp (pv 5) (pv 6)) pa_nil)) pa_nil)) pa_nil))))
      (pss_cons (ps_set (i := 11) scRight.nd rfl (.inl rfl) (pe_lst (pa_cons (pe_call G_law_told r4 (by rfl) t.ge2 t.Fe2.kp t.be2 .nil pass0 (pa_cons (pe_tup (pa_cons (pv 3) (pa_cons (pv 5) pa_nil))) (pa_cons (pe_tup (pa_cons (pv 4) (pa_cons (pv 6) pa_nil))) pa_nil))) pa_nil)))
      (pss_cons (ps_expr (pe_bm PySem.F.plainAttrs_list PySem.F.slot_list_append PySem.F.type_list_append mt_append (pv 11) (pa_cons (pe_callK0 G_piled r2 (by rfl) t.gPi t.FPi.kp t.kP pass0 (pk_cons (pe_call G_law_listed r4 (by rfl) t.gJ t.FJ.kp t.bJ .nil pass0 (pa_cons (pe_tup (pa_cons (pv 4) (pa_cons (pv 6) pa_nil))) pa_nil)) (pk_cons (pe_call G_law_listed r4 (by rfl) t.gJ t.FJ.kp t.bJ .nil pass0 (pa_cons (pe_tup (pa_cons (pv 3) (pa_cons (pv 5) pa_nil))) pa_nil)) pk_nil))) pa_nil)))
      (pss_cons (ps_if (pt_not (pt_val (pe_call G_law_same hr (by rfl) t.gG t.FG.kp t.bG .nil pass0 (pa_cons (pv 11) (pa_cons (pe_lst (pa_cons (pv 10) (pa_cons (pv 10) pa_nil))) pa_nil))))) pss_never pss_nil)
      (pss_cons (ps_set (i := 12) scRight.nd rfl (.inl rfl) (pe_slice sl_list (pe_call G_law_strewn r2 (by rfl) t.gS t.FS.kp t.bS .nil pass0 (pa_cons (pv 0) (pa_cons (pv 3) pa_nil))) po_none (po_some (pe_op op_add pe_int (pe_call G_law_take r1 (by rfl) t.gT t.FT.kp t.bT .nil pass0 (pa_cons (pv 0) (pa_cons pe_int pa_nil)))))))
      (pss_cons (ps_set (i := 11) scRight.nd rfl (.inl rfl) (pe_call G_law_told r4 (by rfl) t.ge2 t.Fe2.kp t.be2 .nil pass0 (pa_cons (pe_tup (pa_cons (pv 3) (pa_cons (pv 5) pa_nil))) (pa_cons (pe_tup (pa_cons (pe_op (r := rCatTp K) op_catTp (pv 4) (pe_callTy call_tupleF (by rfl) t.m_tuple (by decide +kernel) (pa_cons (pv 12) pa_nil))) (pa_cons (pv 6) pa_nil))) pa_nil))))
      (pss_cons (ps_if (pt_not (pt_val (pe_call G_law_same hr (by rfl) t.gG t.FG.kp t.bG .nil pass0 (pa_cons (pv 11) (pa_cons (pe_lst (pa_cons pe_str (pa_cons (pe_callB (cr_minT rfl hr.units) (by rfl) t.m_min (by decide +kernel) (pa_cons (pv 12) pa_nil)) pa_nil))) pa_nil))))) pss_never pss_nil)
      (pss_cons (ps_set (i := 13) scRight.nd rfl (.inr rfl) (pe_slice sl_list (pe_call G_law_strewn r2 (by rfl) t.gS t.FS.kp t.bS .nil pass0 (pa_cons (pv 0) (pa_cons (pv 3) pa_nil))) po_none (po_some (pe_op op_add pe_int (pe_call G_law_take r1 (by rfl) t.gT t.FT.kp t.bT .nil pass0 (pa_cons (pv 0) (pa_cons (pe_callB call_len_seq (by rfl) t.m_len PySem.boot_len (pa_cons (pv 3) pa_nil)) pa_nil)))))))
      (pss_cons (ps_set (i := 10) scRight.nd rfl (.inl rfl) (pe_callTy call_tupleF (by rfl) t.m_tuple (by decide +kernel) (pa_cons (pe_lc (own := [("_law_pair", 16)]) (g := (gName 16))  rfl scRight.nd (pi_seq (pv 5)) (blkOk_by (N := nRight) (sc := defScope sRight) (by decide +kernel)) (fun _ _ _ _ _ => pg_name (i := 16) scRight.nd rfl (.inl rfl)) (fun _ _ _ _ _ => pts_one (PW.pt (pw_and (pt_cmpR (r := rIn K false) op_in_seq (pe_ix (r := rIxT K) ix_tup (pv 16) pe_int (fun _ _ => rfl)) (pv 13) rfl) (pw_and1 (pt_cmpR (r := rIn K false) op_in_seq (pe_ix (r := rIxT K) ix_tup (pv 16) pe_int (fun _ _ => rfl)) (pv 13) rfl))))) (fun _ _ _ _ _ => pv 16)) pa_nil)))
      (pss_cons (ps_set (i := 10) scRight.nd rfl (.inl rfl) (pe_tup (pa_cons (pe_callTy call_tupleF (by rfl) t.m_tuple (by decide +kernel) (pa_cons (pe_lc (own := [("_law_mine", 14)]) (g := (gName 14))  rfl scRight.nd (pi_seq (pv 3)) (blkOk_by (N := nRight) (sc := defScope sRight) (by decide +kernel)) (fun _ _ _ _ _ => pg_name (i := 14) scRight.nd rfl (.inl rfl)) (fun _ _ _ _ _ => pts_one (pt_cmpR (r := rIn K false) op_in_seq (pv 14) (pv 13) rfl)) (fun _ _ _ _ _ => pv 14)) pa_nil)) (pa_cons (pv 10) pa_nil))))
      (pss_cons (ps_set (i := 11) scRight.nd rfl (.inl rfl) (pe_lst (pa_cons (pe_call G_only r2 (by rfl) t.gOn t.FOn.kp t.bOn .nil pass0 (pa_cons (pv 3) (pa_cons (pv 5) (pa_cons (pv 13) pa_nil)))) (pa_cons (pe_callK0 G_only r2 (by rfl) t.gOn t.FOn.kp t.kO pass0 (pk_cons (pe_callTy call_tupleF (by rfl) t.m_tuple (by decide +kernel) (pa_cons (pv 13) pa_nil)) (pk_cons (pe_call G_law_listed r4 (by rfl) t.gJ t.FJ.kp t.bJ .nil pass0 (pa_cons (pv 5) pa_nil)) (pk_cons (pe_callTy (x := "list") (T := "list") (r := rLof K) call_list_of (by rfl) t.m_list (by decide +kernel) (pa_cons (pv 3) pa_nil)) pk_nil)))) pa_nil))))
      (pss_one (ps_ret (pe_and (pe_call G_law_same hr (by rfl) t.gG t.FG.kp t.bG .nil pass0 (pa_cons (pv 11) (pa_cons (pe_lst (pa_cons (pv 10) (pa_cons (pv 10) pa_nil))) pa_nil))) (pe_one (pe_cmpR op_eq (pe_callB (call_reprM gd hr.units) (by rfl) t.m_repr (by decide +kernel) (pa_cons (pe_lstN (pa_cons (pv 3) (pa_cons (pv 4) (pa_cons (pv 5) (pa_cons (pv 6) (pa_cons (pv 8) pa_nil)))))) pa_nil)) (pv 9) (nomark _)))))))))))))))))))))))))))), ?_⟩
    refine ⟨.ref p, rfl, p, c, 2, 12, rfl, hB, by omega, by decide, by decide, fun H_u u zs c_u nu o_u h_u l_u u_u nd_u nm_u b_u hc1_u hc2_u => ?_⟩
    have e_u : u ≠ p := h_u.ne b_u
    refine ⟨.ref p, rfl, .ref u, rfl, u, _, rfl, .inr h_u.sq, _, _, rfl, rfl, p, _, c_u, rfl, b_u, by omega, (by rw [List.length_map]; show (0 : Int) < ((zs.length : Nat) : Int) - 1; omega), (by rw [List.length_map]; show ((zs.length : Nat) : Int) - 1 < 1000000; omega), fun k c_k ob_k h_k0 h_k1 hc1_k hc2_k b_k => ?_⟩
    obtain ⟨k, rfl⟩ := Int.eq_ofNat_of_zero_le h_k0
    have o_k : Oth p H_u (upd H_u p ob_k) := Oth.put
    generalize (upd H_u p ob_k) = H_k at *
    rw [List.length_map] at h_k1
    have h_k1 : ((k : Nat) : Int) < ((zs.length : Nat) : Int) - 1 := h_k1
    refine ⟨_, _, rfl, rfl, ?_⟩
    have ek : (1 + ((k : Nat) : Int)) = (((k + 1 : Nat)) : Int) := by omega
    dsimp only
    rw [ek]
    refine ⟨.ref u, rfl, _, rfl, _, rfl, u, _, rfl, (Tp.oth h_u o_k (Tp.ne h_u b_u)), fun st H_st s_st h_st => ?_⟩
    rw [cutTo, ← List.map_take] at h_st
    refine ⟨.ref u, rfl, _, rfl, _, rfl, u, _, rfl, (Tp.oth h_u (o_k.trans (Oth.of s_st)) (Tp.ne h_u b_u)), fun lo H_lo s_lo h_lo => ?_⟩
    rw [cutFrom, ← List.map_drop] at h_lo
    obtain ⟨one, two, ezs, e1, e2, l1, l2⟩ : ∃ one two, zs = one ++ two ∧ zs.take (k + 1) = one ∧ zs.drop (k + 1) = two ∧ 1 ≤ one.length ∧ 1 ≤ two.length := ⟨zs.take (k + 1), zs.drop (k + 1), (List.take_append_drop _ _).symm, rfl, rfl, by rw [List.length_take]; omega, by rw [List.length_drop]; omega⟩
    rw [e1] at h_st
    rw [e2] at h_lo
    refine ⟨_, _, rfl, ?_⟩
    have hlen : zs.length = one.length + two.length := by rw [ezs, List.length_append]
    have hnd : (one ++ two).Nodup := ezs ▸ nd_u
    have nd1 : one.Nodup := (List.nodup_append.mp hnd).1
    have nd2 : two.Nodup := (List.nodup_append.mp hnd).2.1
    have dis : ∀ x ∈ one, x ∉ two := fun x h1 h2 => (List.nodup_append.mp hnd).2.2 x h1 x h2 rfl
    have nm1 : ∀ z ∈ one, Nm z := fun z hz => nm_u z (by rw [ezs]; exact List.mem_append_left _ hz)
    have nm2 : ∀ z ∈ two, Nm z := fun z hz => nm_u z (by rw [ezs]; exact List.mem_append_right _ hz)
    have hl1 : one.length ≤ 12 := by omega
    have hl2 : two.length ≤ 12 := by omega
    refine ⟨.ref p, rfl, .ref st, rfl, p, st, c_k, one, rfl, (Bx.same b_k (s_st.trans s_lo)), by omega, .inr (tpS h_st s_lo).sq, (tpS h_st s_lo).ne (Bx.same b_k (s_st.trans s_lo)), nd1, hl1, fun H_r r L c_r nr o_r h_r b_r hc1_r hc2_r => ?_⟩
    refine ⟨.ref p, rfl, .ref lo, rfl, p, lo, c_r, two, rfl, b_r, by omega, .inr (Tp.oth h_lo o_r (Tp.ne h_lo (Bx.same b_k (s_st.trans s_lo)))).sq, (Tp.oth h_lo o_r (Tp.ne h_lo (Bx.same b_k (s_st.trans s_lo)))).ne b_r, nd2, hl2, fun H_w w M c_w nw o_w h_w b_w hc1_w hc2_w => ?_⟩
    refine ⟨_, _, rfl, ?_⟩
    have few0 := h_r.few hl1
    have few1 := h_w.few hl2
    have cl0 := h_r.closed
    have cl1 := h_w.closed
    have okp0 := fun p hp => (h_r.2.1 p hp).2
    have okp1 := fun p hp => (h_w.2.1 p hp).2
    have hLl : L.length ≤ 144 := by rw [List.length_map] at few0; exact few0
    have hMl : M.length ≤ 144 := by rw [List.length_map] at few1; exact few1
    have dL := h_r.data
    have dM := h_w.data
    have le0 := (h_r.rise).imp fun h => ltP_le h
    have qn0 : ∀ q ∈ L.map prOf, Nm q.1 ∧ Nm q.2 := fun q hq => ⟨nm1 _ (cl0 q hq).2.2, nm1 _ (cl0 q hq).1⟩
    have qn1 : ∀ q ∈ M.map prOf, Nm q.1 ∧ Nm q.2 := fun q hq => ⟨nm2 _ (cl1 q hq).2.2, nm2 _ (cl1 q hq).1⟩
    dsimp only [tNext]
    refine asg_cut (R := fun v H1 => ∃ (f : Addr) (ys : List Str) (cf : Int), v = .ref f ∧ Oth p H_w H1 ∧ H1 f = some (.lst (ys.map V.str)) ∧ ys.length = one.length ∧ (∀ y ∈ ys, Nm y) ∧ Bx H1 p cf ∧ c_w ≤ cf ∧ cf ≤ c_w + 300) ?_ (fun cont => ?_)
    · rintro v H_f ⟨f, ys, c_f, rfl, o_f, h_f, yl, ynm, b_f, hcf1, hcf2⟩
      have e_f : f ≠ p := bx_strs b_f h_f
      refine ⟨.ref st, rfl, .ref f, rfl, st, f, _, _, rfl, ((Tp.oth h_st ((((Oth.of s_lo).trans o_r).trans o_w).trans o_f) (Tp.ne h_st (Bx.same b_k s_st)))).sq, .inl (.inl h_f), fun D nD => lc_it (walk_zipM (xs := one.map V.str) (ys := ys.map V.str) (by rw [List.length_map, List.length_map, yl])) (fun i Hx => Same H_f Hx ∧ ∃ us, LPs Hx D us ∧ us.map (·.2) = (one.zip ys).take i) ⟨same_upd nD, [], ⟨upd_same, fun q hq => by cases hq⟩, rfl⟩ (fun i Hx _ h => ⟨sameT h.1 ((Tp.oth h_st ((((Oth.of s_lo).trans o_r).trans o_w).trans o_f) (Tp.ne h_st (Bx.same b_k s_st)))).sq, h.1.seq (.inl (.inl h_f))⟩) ?_ ?_⟩
      · rintro i x Hx Hy hi ⟨sx, us, hus, eus⟩ ⟨T, a, b, rfl, nT, rfl, ha, hb⟩
        have ha' : (one.map V.str)[i]? = some a := ha
        have hb' : (ys.map V.str)[i]? = some b := hb
        rw [List.getElem?_map] at ha' hb'
        obtain ⟨x1, hx1, rfl⟩ := Option.map_eq_some_iff.mp ha'
        obtain ⟨y1, hy1, rfl⟩ := Option.map_eq_some_iff.mp hb'
        have hp : (one.zip ys)[i]? = some (x1, y1) := (List.getElem?_zip_eq_some (z := (x1, y1))).mpr ⟨hx1, hy1⟩
        rw [List.length_map] at hi
        have hul : us.length ≤ i := by
          have e := congrArg List.length eus
          rw [List.length_map, List.length_take] at e
          omega
        have sT : Same Hx (upd Hx T (.tup [.str x1, .str y1])) := same_upd nT
        refine ⟨T, _, rfl, .inr (.inl (.inl upd_same)), rfl, _, _, rfl, _, _, rfl, rfl, rfl, .str x1, rfl, .str y1, rfl, (by decide : (2 : Nat) ≤ sizeLine), fun tt ntt => ?_⟩
        generalize (upd Hx T (.tup [.str x1, .str y1])) = Hy at *
        have stt := same_upd (o := .tup [.str x1, .str y1]) ntt
        have htt : (upd Hy tt (.tup [.str x1, .str y1])) tt = some (.tup [.str x1, .str y1]) := upd_same
        generalize (upd Hy tt (.tup [.str x1, .str y1])) = Hz at *
        have hu := (hus.same sT).same stt
        refine ⟨_, hu.1, by rw [rfs_len, sizeLine_eq]; omega, same_put (sx.trans (sT.trans stt)) nD, _, hu.push htt, ?_⟩
        rw [List.map_append, eus, List.take_add_one, hp]
        rfl
      rintro H_z ⟨s_z, us, hus, eus⟩
      rw [List.length_map, List.take_of_length_le (by rw [List.length_zip]; omega), atP_zip nd1 yl] at eus
      have hul : us.length = one.length := by
        have e := congrArg List.length eus
        rw [List.length_map, List.length_map] at e
        exact e
      have pr : Paired (fun (q : Addr) (kv : Key × V) => SqT K H_z q [kV kv.1, kv.2]) (us.map (·.1)) (dkS (one.map fun x => (x, atP one ys x))) := paired_of (by rw [List.length_map, List.length_map, List.length_map, hul]) fun i a kv h1 h2 => by
        rw [List.getElem?_map] at h1
        obtain ⟨q, hq, rfl⟩ := Option.map_eq_some_iff.mp h1
        have e3 : (us.map (·.2))[i]? = some q.2 := by rw [List.getElem?_map, hq]; rfl
        rw [eus] at e3
        have h2 : ((one.map fun x => (x, atP one ys x)).map fun k => ((Sum.inr k.1 : Key), V.str k.2))[i]? = some kv := h2
        rw [List.getElem?_map, e3] at h2
        cases h2
        exact .inl (.inl (hus.2 q (List.mem_of_getElem? hq)))
      refine ⟨D, us.map (·.1), _, rfl, .inl (.inl (by rw [← rfs_refs]; exact hus.1)), pr, fun dB ndB => ?_⟩
      rw [merge_str _ nd1]
      have s_dB : Same H_z (upd H_z dB (.dK (dkS (one.map fun x => (x, atP one ys x))))) := same_upd ndB
      have h_dB : (upd H_z dB (.dK (dkS (one.map fun x => (x, atP one ys x))))) dB = some (.dK (dkS (one.map fun x => (x, atP one ys x)))) := upd_same
      have e_dB : dB ≠ p := (Bx.new (Bx.same b_f s_z) ndB).symm
      generalize (upd H_z dB (.dK (dkS (one.map fun x => (x, atP one ys x))))) = H_dB at *
      have ek2 : ∀ k ∈ one.map (fun x => (x, atP one ys x)), Nm k.1 ∧ Nm k.2 := fun k hk => by
        obtain ⟨x, hx, rfl⟩ := List.mem_map.mp hk
        exact ⟨nm1 x hx, ynm _ (atP_mem yl hx)⟩
      have flL : FineL 2 1000 60010 [.tuple (one.map PyData.str), .tuple (two.map PyData.str), .tuple ((L.map prOf).map dPr), .tuple ((M.map prOf).map dPr)] := (FineL.cons (fine_strsT nm1 (by omega)) (FineL.cons (fine_strsT nm2 (by omega)) (FineL.cons (fine_prsT qn0 (by rw [List.length_map]; omega)) (FineL.cons (fine_prsT qn1 (by rw [List.length_map]; omega)) (FineL.nil (W := 0)))))).mono (Nat.le_refl _) (Nat.le_refl _) (by decide)
      obtain ⟨m1, m2, m3⟩ := mix_fine flL (by decide) (by decide) ek2 (by rw [List.length_map]; omega)
      have hfl : flatD.flatAll [.tuple (one.map PyData.str), .tuple (two.map PyData.str), .tuple ((L.map prOf).map dPr), .tuple ((M.map prOf).map dPr)] = true := by simp only [flatD.flatAll, flat_t1, flat_t2, Bool.and_self]
      refine ⟨.ref st, rfl, .ref lo, rfl, .ref r, rfl, .ref w, rfl, .ref dB, rfl, (by decide : (5 : Nat) ≤ sizeLine), fun lr nlr mlr => ?_⟩
      have s_lr : Same H_dB (upd H_dB lr (.lst [.ref st, .ref lo, .ref r, .ref w, .ref dB])) := same_upd nlr
      have h_lr : (upd H_dB lr (.lst [.ref st, .ref lo, .ref r, .ref w, .ref dB])) lr = some (.lst [.ref st, .ref lo, .ref r, .ref w, .ref dB]) := upd_same
      have e_lr : lr ≠ p := (Bx.new (Bx.same b_f (s_z.trans s_dB)) nlr).symm
      generalize (upd H_dB lr (.lst [.ref st, .ref lo, .ref r, .ref w, .ref dB])) = H_lr at *
      refine ⟨lr, dB, [.ref st, .ref lo, .ref r, .ref w], _, _, rfl, h_lr, mlr, .cons (.tup ((Tp.oth h_st (((((((Oth.of s_lo).trans o_r).trans o_w).trans o_f).trans (Oth.of s_z)).trans (Oth.of s_dB)).trans (Oth.of s_lr)) (Tp.ne h_st (Bx.same b_k s_st)))).sq (dp_strs _)) (.cons (.tup ((Tp.oth h_lo (((((o_r.trans o_w).trans o_f).trans (Oth.of s_z)).trans (Oth.of s_dB)).trans (Oth.of s_lr)) (Tp.ne h_lo (Bx.same b_k (s_st.trans s_lo))))).sq (dp_strs _)) (.cons ((h_r.oth ((((o_w.trans o_f).trans (Oth.of s_z)).trans (Oth.of s_dB)).trans (Oth.of s_lr)) b_r)).dpq (.cons ((h_w.oth (((o_f.trans (Oth.of s_z)).trans (Oth.of s_dB)).trans (Oth.of s_lr)) b_w)).dpq .nil))), hfl, (s_lr _ _ h_dB), m1, m2, m3, ?_⟩
      generalize eS : (PyData.list ([.tuple (one.map PyData.str), .tuple (two.map PyData.str), .tuple ((L.map prOf).map dPr), .tuple ((M.map prOf).map dPr)] ++ [dSS (one.map fun x => (x, atP one ys x))])).shown = SH at *
      dsimp only [tNext, gName]
      refine sl_cut [some (.ref p), some (.ref u), some (.int ((k + 1 : Nat) : Int)), some (.ref st), some (.ref lo), some (.ref r), some (.ref w), some (.ref f), some (.ref dB), some (.str SH), none, none, none, none, none, none, none, none] rfl ?_
      refine ⟨.ref st, rfl, st, rfl, iseq (.inr ((Tp.oth h_st (((((((Oth.of s_lo).trans o_r).trans o_w).trans o_f).trans (Oth.of s_z)).trans (Oth.of s_dB)).trans (Oth.of s_lr)) (Tp.ne h_st (Bx.same b_k s_st)))).sq) fun J wk D3 nD3 => lc_s wk nD3 (by omega) (fun H2 s2 => Kp.of s2) (fun z => some (.str (atP one ys z))) (fun i z H2 hz2 s2 T F2 hT hF => ?_) (fun H_3 s_3 h_D3 => ?_)⟩
      · have hDx : DS H2 dB one (atP one ys) := s2 _ _ (s_lr _ _ h_dB)
        exact ⟨rfl, .ref dB, rfl, .str z, rfl, dB, _, rfl, hDx.get (List.mem_of_getElem? hz2), hT _ _ (Same.refl _) rfl⟩
      have e3 : one.filterMap (fun z => some (V.str (atP one ys z))) = ys.map V.str := by
        have h := congrArg (List.map V.str) (atP_map nd1 yl)
        rw [List.map_map] at h
        exact (fmM (f := V.str ∘ atP one ys) one).trans h
      rw [e3] at h_D3
      refine ⟨D3, _, rfl, .inl (.inl h_D3), fun th obth nth qth1 qth2 => ?_⟩
      have s_th : Same H_3 (upd H_3 th (.frz obth (.tup (ys.map V.str)))) := same_upd nth
      have h_th : Tp (upd H_3 th (.frz obth (.tup (ys.map V.str)))) th (ys.map V.str) := ⟨obth, upd_same, qth1, qth2⟩
      generalize (upd H_3 th (.frz obth (.tup (ys.map V.str)))) = H_th at *
      obtain ⟨as, ha1, ha2, ha3⟩ := ((h_r.oth ((((((o_w.trans o_f).trans (Oth.of s_z)).trans (Oth.of s_dB)).trans (Oth.of s_lr)).trans (Oth.of s_3)).trans (Oth.of s_th)) b_r)).pq (K := K)
      refine ⟨.ref r, rfl, r, rfl, iseq (.inr ha1) fun J2 wk2 D4 nD4 => lc_prs wk2 nD4 ha2 (by rw [List.length_map]; omega) (fun H2 s2 => Kp.of s2) (fun i a q e g => .inr (ha3 i a q e g)) (fun q => (atP one ys q.1, atP one ys q.2)) (fun a q H1 hq s1 hqa T F hT => ?_) (fun H_4 us4 s_4 hus4 eus4 => ?_)⟩
      · have hDx : DS H1 dB one (atP one ys) := s1 _ _ (((s_lr.trans s_3).trans s_th) _ _ h_dB)
        have hc := cl0 q hq
        exact ⟨a, _, rfl, hqa, rfl, _, _, rfl, _, _, rfl, rfl, rfl, .ref dB, rfl, .str q.1, rfl, dB, _, rfl, hDx.get hc.2.2, .ref dB, rfl, .str q.2, rfl, dB, _, rfl, hDx.get hc.1, (by decide : (2 : Nat) ≤ sizeLine), fun t4 nt4 => hT t4 _ (same_upd nt4) upd_same⟩
      have hul4 : us4.length ≤ 144 := by
        have e := congrArg List.length eus4
        rw [List.length_map, List.length_map, List.length_map] at e
        omega
      refine ⟨D4, us4, rfl, hus4, by omega, fun p4 sp ppm ppw nsp => ?_⟩
      have at4 : ∀ q ∈ p4, AtT H_4 q := fun q hq => hus4.2 q (ppm.mem_iff.mp hq)
      have pm4 : (p4.map (·.2)).Perm ((L.map prOf).map fun q => (atP one ys q.1, atP one ys q.2)) := by
        rw [← eus4]
        exact ppm.map _
      have pl4 : p4.length ≤ 144 := by rw [ppm.length_eq]; exact hul4
      have qd : ∀ q ∈ p4.map (·.2), Nm q.1 ∧ Nm q.2 := fun q hq => by
        obtain ⟨z, hz, rfl⟩ := List.mem_map.mp (pm4.mem_iff.mp hq)
        exact ⟨ynm _ (atP_mem yl (cl0 z hz).2.2), ynm _ (atP_mem yl (cl0 z hz).1)⟩
      have s_sp : Same H_4 (upd H_4 sp (.lst (rfs p4))) := same_upd nsp
      have h_sp : (upd H_4 sp (.lst (rfs p4))) sp = some (.lst (rfs p4)) := upd_same
      have e_sp : sp ≠ p := (Bx.new (Bx.same b_f (((((s_z.trans s_dB).trans s_lr).trans s_3).trans s_th).trans s_4)) nsp).symm
      generalize (upd H_4 sp (.lst (rfs p4))) = H_sp at *
      refine ⟨sp, _, rfl, .inl (.inl h_sp), fun tq obtq ntq qtq1 qtq2 => ?_⟩
      have s_tq : Same H_sp (upd H_sp tq (.frz obtq (.tup (rfs p4)))) := same_upd ntq
      have h_tq : Tp (upd H_sp tq (.frz obtq (.tup (rfs p4)))) tq (rfs p4) := ⟨obtq, upd_same, qtq1, qtq2⟩
      generalize (upd H_sp tq (.frz obtq (.tup (rfs p4)))) = H_tq at *
      refine ⟨(by decide : (2 : Nat) ≤ sizeLine), fun td ntd => ?_⟩
      have s_td : Same H_tq (upd H_tq td (.tup [.ref th, .ref tq])) := same_upd ntd
      have h_td : (upd H_tq td (.tup [.ref th, .ref tq])) td = some (.tup [.ref th, .ref tq]) := upd_same
      have e_td : td ≠ p := (Bx.new (Bx.same b_f (((((((s_z.trans s_dB).trans s_lr).trans s_3).trans s_th).trans s_4).trans s_sp).trans s_tq)) ntd).symm
      generalize (upd H_tq td (.tup [.ref th, .ref tq])) = H_td at *
      dsimp only [tNext, gName]
      refine sl_cut [some (.ref p), some (.ref u), some (.int ((k + 1 : Nat) : Int)), some (.ref st), some (.ref lo), some (.ref r), some (.ref w), some (.ref f), some (.ref dB), some (.str SH), some (.ref td), none, none, none, none, none, none, none] rfl ?_
      have hDS : DS H_td dB one (atP one ys) := (((((((s_lr.trans s_3).trans s_th).trans s_4).trans s_sp).trans s_tq).trans s_td) _ _ h_dB)
      refine ⟨.ref st, rfl, .ref r, rfl, .ref dB, rfl, st, r, dB, one, _, atP one ys, rfl, .inr (Tp.oth h_st (((((((((((((Oth.of s_lo).trans o_r).trans o_w).trans o_f).trans (Oth.of s_z)).trans (Oth.of s_dB)).trans (Oth.of s_lr)).trans (Oth.of s_3)).trans (Oth.of s_th)).trans (Oth.of s_4)).trans (Oth.of s_sp)).trans (Oth.of s_tq)).trans (Oth.of s_td)) (Tp.ne h_st (Bx.same b_k s_st))), Pqs.ofT ((h_r.oth ((((((((((o_w.trans o_f).trans (Oth.of s_z)).trans (Oth.of s_dB)).trans (Oth.of s_lr)).trans (Oth.of s_3)).trans (Oth.of s_th)).trans (Oth.of s_4)).trans (Oth.of s_sp)).trans (Oth.of s_tq)).trans (Oth.of s_td)) b_r)).pq, hDS, fun q hq => ⟨(cl0 q hq).2.2, (cl0 q hq).1⟩, by omega, by rw [List.length_map]; omega, fun H_5 t5 th5 tt5 p5 s_5 h_t5 h_th5 h_tt5 a_5 pm5 pw5 => ?_⟩
      rw [atP_map nd1 yl] at h_th5
      refine ⟨.ref dB, rfl, .ref r, rfl, .ref r, dTies L, rfl, ((h_r.oth (((((((((((o_w.trans o_f).trans (Oth.of s_z)).trans (Oth.of s_dB)).trans (Oth.of s_lr)).trans (Oth.of s_3)).trans (Oth.of s_th)).trans (Oth.of s_4)).trans (Oth.of s_sp)).trans (Oth.of s_tq)).trans (Oth.of s_td)).trans (Oth.of s_5)) b_r)).dp, Nat.le_trans (ties_depth L) (by decide), ties_wide okp0 (by omega), fun H_6 y6 s_6 hnw6 => ?_⟩
      obtain ⟨rr, rfl, nrr, h_rr⟩ := nw_pq (K := K) hnw6 okp0
      refine ⟨.ref st, rfl, st, _, rfl, .inr ((Tp.oth h_st (((((((((((((((Oth.of s_lo).trans o_r).trans o_w).trans o_f).trans (Oth.of s_z)).trans (Oth.of s_dB)).trans (Oth.of s_lr)).trans (Oth.of s_3)).trans (Oth.of s_th)).trans (Oth.of s_4)).trans (Oth.of s_sp)).trans (Oth.of s_tq)).trans (Oth.of s_td)).trans (Oth.of s_5)).trans (Oth.of s_6)) (Tp.ne h_st (Bx.same b_k s_st)))).sq, fun lh nlh => ?_⟩
      have s_lh : Same H_6 (upd H_6 lh (.lst (one.map V.str))) := same_upd nlh
      have h_lh : (upd H_6 lh (.lst (one.map V.str))) lh = some (.lst (one.map V.str)) := upd_same
      have e_lh : lh ≠ p := (Bx.new (Bx.same b_f ((((((((((s_z.trans s_dB).trans s_lr).trans s_3).trans s_th).trans s_4).trans s_sp).trans s_tq).trans s_td).trans s_5).trans s_6)) nlh).symm
      generalize (upd H_6 lh (.lst (one.map V.str))) = H_lh at *
      have hDS : DS H_lh dB one (atP one ys) := ((((((((((s_lr.trans s_3).trans s_th).trans s_4).trans s_sp).trans s_tq).trans s_td).trans s_5).trans s_6).trans s_lh) _ _ h_dB)
      refine ⟨lh, rr, dB, one, _, atP one ys, rfl, .inl (.inl (.inl h_lh)), pqs_ll (h_rr.same s_lh), hDS, fun q hq => ⟨(cl0 q hq).2.2, (cl0 q hq).1⟩, by omega, by rw [List.length_map]; omega, fun H_7 t7 th7 tt7 p7 s_7 h_t7 h_th7 h_tt7 a_7 pm7 pw7 => ?_⟩
      rw [atP_map nd1 yl] at h_th7
      refine ⟨(by decide : (2 : Nat) ≤ sizeLine), fun l1 nl1 => ?_⟩
      have s_l1 : Same H_7 (upd H_7 l1 (.lst [.ref t5, .ref t7])) := same_upd nl1
      have h_l1 : (upd H_7 l1 (.lst [.ref t5, .ref t7])) l1 = some (.lst [.ref t5, .ref t7]) := upd_same
      have e_l1 : l1 ≠ p := (Bx.new (Bx.same b_f ((((((((((((s_z.trans s_dB).trans s_lr).trans s_3).trans s_th).trans s_4).trans s_sp).trans s_tq).trans s_td).trans s_5).trans s_6).trans s_lh).trans s_7)) nl1).symm
      generalize (upd H_7 l1 (.lst [.ref t5, .ref t7])) = H_l1 at *
      dsimp only [tNext, gName]
      refine sl_cut [some (.ref p), some (.ref u), some (.int ((k + 1 : Nat) : Int)), some (.ref st), some (.ref lo), some (.ref r), some (.ref w), some (.ref f), some (.ref dB), some (.str SH), some (.ref td), some (.ref l1), none, none, none, none, none, none] rfl ?_
      refine ⟨.ref l1, rfl, .ref td, rfl, .ref td, rfl, (by decide : (2 : Nat) ≤ sizeLine), fun l2 nl2 => ?_⟩
      have s_l2 : Same H_l1 (upd H_l1 l2 (.lst [.ref td, .ref td])) := same_upd nl2
      have h_l2 : (upd H_l1 l2 (.lst [.ref td, .ref td])) l2 = some (.lst [.ref td, .ref td]) := upd_same
      have e_l2 : l2 ≠ p := (Bx.new (Bx.same b_f (((((((((((((s_z.trans s_dB).trans s_lr).trans s_3).trans s_th).trans s_4).trans s_sp).trans s_tq).trans s_td).trans s_5).trans s_6).trans s_lh).trans s_7).trans s_l1)) nl2).symm
      generalize (upd H_l1 l2 (.lst [.ref td, .ref td])) = H_l2 at *
      have e5 : p5.map (·.2) = p4.map (·.2) := leP_one (pm5.trans pm4.symm) pw5 ppw
      have e7 : p7.map (·.2) = p4.map (·.2) := leP_one (pm7.trans pm4.symm) pw7 ppw
      have f1 := fine_hq (zs := ys) ynm qd (by omega) (by rw [List.length_map]; omega)
      have f2 := fine_l2 f1 f1
      refine ⟨.ref l1, .ref l2, _, rfl, ltwo_dp (s_l2 _ _ h_l1) (two_dp (((((s_6.trans s_lh).trans s_7).trans s_l1).trans s_l2) _ _ h_t5) (.tup ((tpS h_th5 ((((s_6.trans s_lh).trans s_7).trans s_l1).trans s_l2))).sq (dp_strs _)) (tpP_dp (tpS h_tt5 ((((s_6.trans s_lh).trans s_7).trans s_l1).trans s_l2)) (fun x hx => ((((s_6.trans s_lh).trans s_7).trans s_l1).trans s_l2) _ _ (a_5 x hx)) e5)) (two_dp ((s_l1.trans s_l2) _ _ h_t7) (.tup ((tpS h_th7 (s_l1.trans s_l2))).sq (dp_strs _)) (tpP_dp (tpS h_tt7 (s_l1.trans s_l2)) (fun x hx => (s_l1.trans s_l2) _ _ (a_7 x hx)) e7)), ltwo_dp h_l2 (two_dp ((((((s_5.trans s_6).trans s_lh).trans s_7).trans s_l1).trans s_l2) _ _ h_td) (.tup ((tpS h_th (((((((((s_4.trans s_sp).trans s_tq).trans s_td).trans s_5).trans s_6).trans s_lh).trans s_7).trans s_l1).trans s_l2))).sq (dp_strs _)) (tpP_dp (tpS h_tq ((((((s_td.trans s_5).trans s_6).trans s_lh).trans s_7).trans s_l1).trans s_l2)) (fun x hx => ((((((((s_sp.trans s_tq).trans s_td).trans s_5).trans s_6).trans s_lh).trans s_7).trans s_l1).trans s_l2) _ _ (at4 x hx)) rfl)) (two_dp ((((((s_5.trans s_6).trans s_lh).trans s_7).trans s_l1).trans s_l2) _ _ h_td) (.tup ((tpS h_th (((((((((s_4.trans s_sp).trans s_tq).trans s_td).trans s_5).trans s_6).trans s_lh).trans s_7).trans s_l1).trans s_l2))).sq (dp_strs _)) (tpP_dp (tpS h_tq ((((((s_td.trans s_5).trans s_6).trans s_lh).trans s_7).trans s_l1).trans s_l2)) (fun x hx => ((((((((s_sp.trans s_tq).trans s_td).trans s_5).trans s_6).trans s_lh).trans s_7).trans s_l1).trans s_l2) _ _ (at4 x hx)) rfl)), f2.lay, f2.dep, Nat.le_trans f2.dep (by decide), Nat.le_trans f2.wid (by decide), fun H_8 s_8 => ⟨_, rfl, iteF ?_⟩⟩
      obtain ⟨bs, hb1, hb2, hb3⟩ := ((h_r.oth (((((((((((((((((o_w.trans o_f).trans (Oth.of s_z)).trans (Oth.of s_dB)).trans (Oth.of s_lr)).trans (Oth.of s_3)).trans (Oth.of s_th)).trans (Oth.of s_4)).trans (Oth.of s_sp)).trans (Oth.of s_tq)).trans (Oth.of s_td)).trans (Oth.of s_5)).trans (Oth.of s_6)).trans (Oth.of s_lh)).trans (Oth.of s_7)).trans (Oth.of s_l1)).trans (Oth.of s_l2)).trans (Oth.of s_8)) b_r)).pq (K := K)
      refine ⟨.ref r, rfl, r, rfl, iseq (.inr hb1) fun J3 wk3 D9 nD9 => lc_prs wk3 nD9 hb2 (by rw [List.length_map]; omega) (fun H2 s2 => Kp.of s2) (fun i a q e g => .inr (hb3 i a q e g)) swq (fun a q H1 hq s1 hqa T F hT => ⟨a, _, rfl, hqa, rfl, _, _, rfl, _, _, rfl, rfl, rfl, .str q.2, rfl, .str q.1, rfl, (by decide : (2 : Nat) ≤ sizeLine), fun t4 nt4 => hT t4 _ (same_upd nt4) upd_same⟩) (fun H_9 us9 s_9 hus9 eus9 => ?_)⟩
      have hul9 : us9.length ≤ 144 := by
        have e := congrArg List.length eus9
        rw [List.length_map, List.length_map, List.length_map] at e
        omega
      refine ⟨D9, us9, rfl, hus9, by omega, fun p9 s9 ppm9 ppw9 ns9 => ?_⟩
      have at9 : ∀ q ∈ p9, AtT H_9 q := fun q hq => hus9.2 q (ppm9.mem_iff.mp hq)
      have pm9 : (p9.map (·.2)).Perm ((L.map prOf).map swq) := by
        rw [← eus9]
        exact ppm9.map _
      have pl9 : p9.length ≤ 144 := by rw [ppm9.length_eq]; exact hul9
      have qd9 : ∀ q ∈ p9.map (·.2), Nm q.1 ∧ Nm q.2 := fun q hq => by
        obtain ⟨z, hz, rfl⟩ := List.mem_map.mp (pm9.mem_iff.mp hq)
        exact ⟨(qn0 z hz).2, (qn0 z hz).1⟩
      have s_s9 : Same H_9 (upd H_9 s9 (.lst (rfs p9))) := same_upd ns9
      have h_s9 : (upd H_9 s9 (.lst (rfs p9))) s9 = some (.lst (rfs p9)) := upd_same
      have e_s9 : s9 ≠ p := (Bx.new (Bx.same b_f ((((((((((((((((s_z.trans s_dB).trans s_lr).trans s_3).trans s_th).trans s_4).trans s_sp).trans s_tq).trans s_td).trans s_5).trans s_6).trans s_lh).trans s_7).trans s_l1).trans s_l2).trans s_8).trans s_9)) ns9).symm
      generalize (upd H_9 s9 (.lst (rfs p9))) = H_s9 at *
      refine ⟨s9, _, rfl, .inl (.inl h_s9), fun t9 obt9 nt9 qt91 qt92 => ?_⟩
      have s_t9 : Same H_s9 (upd H_s9 t9 (.frz obt9 (.tup (rfs p9)))) := same_upd nt9
      have h_t9 : Tp (upd H_s9 t9 (.frz obt9 (.tup (rfs p9)))) t9 (rfs p9) := ⟨obt9, upd_same, qt91, qt92⟩
      generalize (upd H_s9 t9 (.frz obt9 (.tup (rfs p9)))) = H_t9 at *
      dsimp only [tNext, gName]
      refine sl_cut [some (.ref p), some (.ref u), some (.int ((k + 1 : Nat) : Int)), some (.ref st), some (.ref lo), some (.ref r), some (.ref w), some (.ref f), some (.ref dB), some (.str SH), some (.ref t9), some (.ref l1), none, none, none, none, none, none] rfl ?_
      refine ⟨.ref r, rfl, r, _, rfl, Pqs.ofT ((h_r.oth ((((((((((((((((((((o_w.trans o_f).trans (Oth.of s_z)).trans (Oth.of s_dB)).trans (Oth.of s_lr)).trans (Oth.of s_3)).trans (Oth.of s_th)).trans (Oth.of s_4)).trans (Oth.of s_sp)).trans (Oth.of s_tq)).trans (Oth.of s_td)).trans (Oth.of s_5)).trans (Oth.of s_6)).trans (Oth.of s_lh)).trans (Oth.of s_7)).trans (Oth.of s_l1)).trans (Oth.of s_l2)).trans (Oth.of s_8)).trans (Oth.of s_9)).trans (Oth.of s_s9)).trans (Oth.of s_t9)) b_r)).pq, by rw [List.length_map]; omega, fun H_a ta pa s_a nta h_ta a_a pma pwa => ?_⟩
      refine ⟨.ref r, rfl, .ref r, dTies L, rfl, ((h_r.oth (((((((((((((((((((((o_w.trans o_f).trans (Oth.of s_z)).trans (Oth.of s_dB)).trans (Oth.of s_lr)).trans (Oth.of s_3)).trans (Oth.of s_th)).trans (Oth.of s_4)).trans (Oth.of s_sp)).trans (Oth.of s_tq)).trans (Oth.of s_td)).trans (Oth.of s_5)).trans (Oth.of s_6)).trans (Oth.of s_lh)).trans (Oth.of s_7)).trans (Oth.of s_l1)).trans (Oth.of s_l2)).trans (Oth.of s_8)).trans (Oth.of s_9)).trans (Oth.of s_s9)).trans (Oth.of s_t9)).trans (Oth.of s_a)) b_r)).dp, Nat.le_trans (ties_depth L) (by decide), ties_wide okp0 (by omega), fun H_b yb s_b hnwb => ?_⟩
      obtain ⟨rb, rfl, nrb, h_rb⟩ := nw_pq (K := K) hnwb okp0
      refine ⟨rb, _, rfl, pqs_ll h_rb, by rw [List.length_map]; omega, fun H_c tc pc s_c ntc h_tc a_c pmc pwc => ?_⟩
      refine ⟨.ref r, rfl, r, _, rfl, Pqs.ofT ((h_r.oth (((((((((((((((((((((((o_w.trans o_f).trans (Oth.of s_z)).trans (Oth.of s_dB)).trans (Oth.of s_lr)).trans (Oth.of s_3)).trans (Oth.of s_th)).trans (Oth.of s_4)).trans (Oth.of s_sp)).trans (Oth.of s_tq)).trans (Oth.of s_td)).trans (Oth.of s_5)).trans (Oth.of s_6)).trans (Oth.of s_lh)).trans (Oth.of s_7)).trans (Oth.of s_l1)).trans (Oth.of s_l2)).trans (Oth.of s_8)).trans (Oth.of s_9)).trans (Oth.of s_s9)).trans (Oth.of s_t9)).trans (Oth.of s_a)).trans (Oth.of s_b)).trans (Oth.of s_c)) b_r)).pq, by rw [List.length_map]; omega, fun H_d tdd pd s_d ntdd h_tdd a_d pmd pwd => ?_⟩
      have pld : (pd.map (·.2)).length ≤ 144 := by rw [pmd.length_eq, List.length_map, List.length_map]; omega
      refine ⟨tdd, pd.map (·.2), rfl, Pqs.ofT (tpPq h_tdd a_d), by omega, fun H_e te pe s_e nte h_te a_e pme pwe => ?_⟩
      refine ⟨(by decide : (3 : Nat) ≤ sizeLine), fun l3 nl3 => ?_⟩
      have s_l3 : Same H_e (upd H_e l3 (.lst [.ref ta, .ref tc, .ref te])) := same_upd nl3
      have h_l3 : (upd H_e l3 (.lst [.ref ta, .ref tc, .ref te])) l3 = some (.lst [.ref ta, .ref tc, .ref te]) := upd_same
      have e_l3 : l3 ≠ p := (Bx.new (Bx.same b_f (((((((((((((((((((((((s_z.trans s_dB).trans s_lr).trans s_3).trans s_th).trans s_4).trans s_sp).trans s_tq).trans s_td).trans s_5).trans s_6).trans s_lh).trans s_7).trans s_l1).trans s_l2).trans s_8).trans s_9).trans s_s9).trans s_t9).trans s_a).trans s_b).trans s_c).trans s_d).trans s_e)) nl3).symm
      generalize (upd H_e l3 (.lst [.ref ta, .ref tc, .ref te])) = H_l3 at *
      refine ⟨.ref t9, rfl, .ref t9, rfl, .ref r, rfl, (by decide : (3 : Nat) ≤ sizeLine), fun l4 nl4 => ?_⟩
      have s_l4 : Same H_l3 (upd H_l3 l4 (.lst [.ref t9, .ref t9, .ref r])) := same_upd nl4
      have h_l4 : (upd H_l3 l4 (.lst [.ref t9, .ref t9, .ref r])) l4 = some (.lst [.ref t9, .ref t9, .ref r]) := upd_same
      have e_l4 : l4 ≠ p := (Bx.new (Bx.same b_f ((((((((((((((((((((((((s_z.trans s_dB).trans s_lr).trans s_3).trans s_th).trans s_4).trans s_sp).trans s_tq).trans s_td).trans s_5).trans s_6).trans s_lh).trans s_7).trans s_l1).trans s_l2).trans s_8).trans s_9).trans s_s9).trans s_t9).trans s_a).trans s_b).trans s_c).trans s_d).trans s_e).trans s_l3)) nl4).symm
      generalize (upd H_l3 l4 (.lst [.ref t9, .ref t9, .ref r])) = H_l4 at *
      have ea : pa.map (·.2) = p9.map (·.2) := leP_one (pma.trans pm9.symm) pwa ppw9
      have ec : pc.map (·.2) = p9.map (·.2) := leP_one (pmc.trans pm9.symm) pwc ppw9
      have ee : pe.map (·.2) = L.map prOf := by
        refine leP_one ?_ pwe le0
        refine pme.trans ((pmd.map swq).trans ?_)
        rw [List.map_map, show swq ∘ swq = id from rfl, List.map_id]
      have f3 : Fine 3 1000 60000 (.list [.tuple ((p9.map (·.2)).map dPr), .tuple ((p9.map (·.2)).map dPr), .tuple ((L.map prOf).map dPr)]) := (Fine.list (FineL.cons (fine_prsT qd9 (by rw [List.length_map]; omega)) (FineL.cons (fine_prsT qd9 (by rw [List.length_map]; omega)) (FineL.cons (fine_prsT qn0 (by rw [List.length_map]; omega)) (FineL.nil (W := 0))))) (by show 3 ≤ 1000; decide)).mono (by decide) (by decide) (by decide)
      refine ⟨.ref l3, .ref l4, _, rfl, .lst (.inl (.inl (s_l4 _ _ h_l3))) (.cons (tpP_dp (tpS h_ta (((((s_b.trans s_c).trans s_d).trans s_e).trans s_l3).trans s_l4)) (fun x hx => (((((s_b.trans s_c).trans s_d).trans s_e).trans s_l3).trans s_l4) _ _ (a_a x hx)) ea) (.cons (tpP_dp (tpS h_tc (((s_d.trans s_e).trans s_l3).trans s_l4)) (fun x hx => (((s_d.trans s_e).trans s_l3).trans s_l4) _ _ (a_c x hx)) ec) (.cons (tpP_dp (tpS h_te (s_l3.trans s_l4)) (fun x hx => (s_l3.trans s_l4) _ _ (a_e x hx)) ee) .nil))), .lst (.inl (.inl h_l4)) (.cons (tpP_dp (tpS h_t9 ((((((s_a.trans s_b).trans s_c).trans s_d).trans s_e).trans s_l3).trans s_l4)) (fun x hx => ((((((((s_s9.trans s_t9).trans s_a).trans s_b).trans s_c).trans s_d).trans s_e).trans s_l3).trans s_l4) _ _ (at9 x hx)) rfl) (.cons (tpP_dp (tpS h_t9 ((((((s_a.trans s_b).trans s_c).trans s_d).trans s_e).trans s_l3).trans s_l4)) (fun x hx => ((((((((s_s9.trans s_t9).trans s_a).trans s_b).trans s_c).trans s_d).trans s_e).trans s_l3).trans s_l4) _ _ (at9 x hx)) rfl) (.cons ((h_r.oth (((((((((((((((((((((((((((o_w.trans o_f).trans (Oth.of s_z)).trans (Oth.of s_dB)).trans (Oth.of s_lr)).trans (Oth.of s_3)).trans (Oth.of s_th)).trans (Oth.of s_4)).trans (Oth.of s_sp)).trans (Oth.of s_tq)).trans (Oth.of s_td)).trans (Oth.of s_5)).trans (Oth.of s_6)).trans (Oth.of s_lh)).trans (Oth.of s_7)).trans (Oth.of s_l1)).trans (Oth.of s_l2)).trans (Oth.of s_8)).trans (Oth.of s_9)).trans (Oth.of s_s9)).trans (Oth.of s_t9)).trans (Oth.of s_a)).trans (Oth.of s_b)).trans (Oth.of s_c)).trans (Oth.of s_d)).trans (Oth.of s_e)).trans (Oth.of s_l3)).trans (Oth.of s_l4)) b_r)).dpq .nil))), f3.lay, Nat.le_trans f3.dep (by decide), Nat.le_trans f3.dep (by decide), Nat.le_trans f3.wid (by decide), fun H_g s_g => ⟨_, rfl, iteF ?_⟩⟩
      have hLt := ((h_r.oth ((((((((((((((((((((((((((((o_w.trans o_f).trans (Oth.of s_z)).trans (Oth.of s_dB)).trans (Oth.of s_lr)).trans (Oth.of s_3)).trans (Oth.of s_th)).trans (Oth.of s_4)).trans (Oth.of s_sp)).trans (Oth.of s_tq)).trans (Oth.of s_td)).trans (Oth.of s_5)).trans (Oth.of s_6)).trans (Oth.of s_lh)).trans (Oth.of s_7)).trans (Oth.of s_l1)).trans (Oth.of s_l2)).trans (Oth.of s_8)).trans (Oth.of s_9)).trans (Oth.of s_s9)).trans (Oth.of s_t9)).trans (Oth.of s_a)).trans (Oth.of s_b)).trans (Oth.of s_c)).trans (Oth.of s_d)).trans (Oth.of s_e)).trans (Oth.of s_l3)).trans (Oth.of s_l4)).trans (Oth.of s_g)) b_r)).trs
      have hMt := ((h_w.oth (((((((((((((((((((((((((((o_f.trans (Oth.of s_z)).trans (Oth.of s_dB)).trans (Oth.of s_lr)).trans (Oth.of s_3)).trans (Oth.of s_th)).trans (Oth.of s_4)).trans (Oth.of s_sp)).trans (Oth.of s_tq)).trans (Oth.of s_td)).trans (Oth.of s_5)).trans (Oth.of s_6)).trans (Oth.of s_lh)).trans (Oth.of s_7)).trans (Oth.of s_l1)).trans (Oth.of s_l2)).trans (Oth.of s_8)).trans (Oth.of s_9)).trans (Oth.of s_s9)).trans (Oth.of s_t9)).trans (Oth.of s_a)).trans (Oth.of s_b)).trans (Oth.of s_c)).trans (Oth.of s_d)).trans (Oth.of s_e)).trans (Oth.of s_l3)).trans (Oth.of s_l4)).trans (Oth.of s_g)) b_w)).trs
      refine ⟨.ref u, rfl, .ref r, rfl, .ref w, rfl, r, w, _, _, rfl, rfl, hLt.1, hMt.1, by rw [rfs_len, rfs_len]; unfold trs; rw [List.length_map, List.length_map, sizeLine_eq]; omega, fun tl H_h s_h h_tl => ?_⟩
      have eapp : rfs (trs L) ++ rfs (trs M) = rfs (trs L ++ trs M) := (List.map_append (f := fun p : TPr => V.ref p.1)).symm
      rw [eapp] at h_tl
      have atlm : ∀ q ∈ trs L ++ trs M, AtT H_g q := fun q hq => (List.mem_append.mp hq).elim (hLt.2 q) (hMt.2 q)
      have llm : (trs L ++ trs M).length ≤ 288 := by
        rw [List.length_append]
        unfold trs
        rw [List.length_map, List.length_map]
        omega
      have atlm2 : ∀ q ∈ trs L ++ trs M, AtT H_h q := (fun x hx => s_h _ _ (atlm x hx))
      refine ⟨tl, trs L ++ trs M, rfl, h_tl.sq, fun q hq => .inl (.inl (atlm2 q hq)), by omega, fun pi si ppmi ppwi nsi => ?_⟩
      have ati : ∀ q ∈ pi, AtT H_h q := fun q hq => atlm2 q (ppmi.mem_iff.mp hq)
      have pmi : (pi.map (·.2)).Perm (L.map prOf ++ M.map prOf) := by
        have := ppmi.map (fun p : TPr => p.2)
        rw [List.map_append, trs_snd, trs_snd] at this
        exact this
      have pli : pi.length ≤ 288 := by rw [ppmi.length_eq]; exact llm
      have qdi : ∀ q ∈ pi.map (·.2), Nm q.1 ∧ Nm q.2 := fun q hq => (List.mem_append.mp (pmi.mem_iff.mp hq)).elim (qn0 q) (qn1 q)
      have s_si : Same H_h (upd H_h si (.lst (rfs pi))) := same_upd nsi
      have h_si : (upd H_h si (.lst (rfs pi))) si = some (.lst (rfs pi)) := upd_same
      have e_si : si ≠ p := (Bx.new (Bx.same b_f (((((((((((((((((((((((((((s_z.trans s_dB).trans s_lr).trans s_3).trans s_th).trans s_4).trans s_sp).trans s_tq).trans s_td).trans s_5).trans s_6).trans s_lh).trans s_7).trans s_l1).trans s_l2).trans s_8).trans s_9).trans s_s9).trans s_t9).trans s_a).trans s_b).trans s_c).trans s_d).trans s_e).trans s_l3).trans s_l4).trans s_g).trans s_h)) nsi).symm
      generalize (upd H_h si (.lst (rfs pi))) = H_si at *
      refine ⟨si, _, rfl, .inl (.inl h_si), fun ti obti nti qti1 qti2 => ?_⟩
      have s_ti : Same H_si (upd H_si ti (.frz obti (.tup (rfs pi)))) := same_upd nti
      have h_ti : Tp (upd H_si ti (.frz obti (.tup (rfs pi)))) ti (rfs pi) := ⟨obti, upd_same, qti1, qti2⟩
      generalize (upd H_si ti (.frz obti (.tup (rfs pi)))) = H_ti at *
      refine ⟨(by decide : (2 : Nat) ≤ sizeLine), fun dj ndj => ?_⟩
      have s_dj : Same H_ti (upd H_ti dj (.tup [.ref u, .ref ti])) := same_upd ndj
      have h_dj : (upd H_ti dj (.tup [.ref u, .ref ti])) dj = some (.tup [.ref u, .ref ti]) := upd_same
      have e_dj : dj ≠ p := (Bx.new (Bx.same b_f (((((((((((((((((((((((((((((s_z.trans s_dB).trans s_lr).trans s_3).trans s_th).trans s_4).trans s_sp).trans s_tq).trans s_td).trans s_5).trans s_6).trans s_lh).trans s_7).trans s_l1).trans s_l2).trans s_8).trans s_9).trans s_s9).trans s_t9).trans s_a).trans s_b).trans s_c).trans s_d).trans s_e).trans s_l3).trans s_l4).trans s_g).trans s_h).trans s_si).trans s_ti)) ndj).symm
      generalize (upd H_ti dj (.tup [.ref u, .ref ti])) = H_dj at *
      dsimp only [tNext, gName]
      refine sl_cut [some (.ref p), some (.ref u), some (.int ((k + 1 : Nat) : Int)), some (.ref st), some (.ref lo), some (.ref r), some (.ref w), some (.ref f), some (.ref dB), some (.str SH), some (.ref dj), some (.ref l1), none, none, none, none, none, none] rfl ?_
      refine ⟨.ref st, rfl, .ref r, rfl, (by decide : (2 : Nat) ≤ sizeLine), fun ua nua => ?_⟩
      have s_ua : Same H_dj (upd H_dj ua (.tup [.ref st, .ref r])) := same_upd nua
      have h_ua : (upd H_dj ua (.tup [.ref st, .ref r])) ua = some (.tup [.ref st, .ref r]) := upd_same
      have e_ua : ua ≠ p := (Bx.new (Bx.same b_f ((((((((((((((((((((((((((((((s_z.trans s_dB).trans s_lr).trans s_3).trans s_th).trans s_4).trans s_sp).trans s_tq).trans s_td).trans s_5).trans s_6).trans s_lh).trans s_7).trans s_l1).trans s_l2).trans s_8).trans s_9).trans s_s9).trans s_t9).trans s_a).trans s_b).trans s_c).trans s_d).trans s_e).trans s_l3).trans s_l4).trans s_g).trans s_h).trans s_si).trans s_ti).trans s_dj)) nua).symm
      generalize (upd H_dj ua (.tup [.ref st, .ref r])) = H_ua at *
      refine ⟨.ref lo, rfl, .ref w, rfl, (by decide : (2 : Nat) ≤ sizeLine), fun ub nub => ?_⟩
      have s_ub : Same H_ua (upd H_ua ub (.tup [.ref lo, .ref w])) := same_upd nub
      have h_ub : (upd H_ua ub (.tup [.ref lo, .ref w])) ub = some (.tup [.ref lo, .ref w]) := upd_same
      have e_ub : ub ≠ p := (Bx.new (Bx.same b_f (((((((((((((((((((((((((((((((s_z.trans s_dB).trans s_lr).trans s_3).trans s_th).trans s_4).trans s_sp).trans s_tq).trans s_td).trans s_5).trans s_6).trans s_lh).trans s_7).trans s_l1).trans s_l2).trans s_8).trans s_9).trans s_s9).trans s_t9).trans s_a).trans s_b).trans s_c).trans s_d).trans s_e).trans s_l3).trans s_l4).trans s_g).trans s_h).trans s_si).trans s_ti).trans s_dj).trans s_ua)) nub).symm
      generalize (upd H_ua ub (.tup [.ref lo, .ref w])) = H_ub at *
      have esn : srt (one.filter (inL two)) = [] := by
        rw [show one.filter (inL two) = [] from List.filter_eq_nil_iff.mpr fun x hx => by
          unfold inL
          rw [decide_eq_false (dis x hx)]
          decide]
        exact List.eq_nil_of_length_eq_zero (srt_len _)
      refine ⟨ua, ub, st, r, lo, w, one, two, _, _, rfl, .inr (.inl (.inl (s_ub _ _ h_ua))), .inr (.inl (.inl h_ub)), .inr (Tp.oth h_st (((((((((((((((((((((((((((((((((((((Oth.of s_lo).trans o_r).trans o_w).trans o_f).trans (Oth.of s_z)).trans (Oth.of s_dB)).trans (Oth.of s_lr)).trans (Oth.of s_3)).trans (Oth.of s_th)).trans (Oth.of s_4)).trans (Oth.of s_sp)).trans (Oth.of s_tq)).trans (Oth.of s_td)).trans (Oth.of s_5)).trans (Oth.of s_6)).trans (Oth.of s_lh)).trans (Oth.of s_7)).trans (Oth.of s_l1)).trans (Oth.of s_l2)).trans (Oth.of s_8)).trans (Oth.of s_9)).trans (Oth.of s_s9)).trans (Oth.of s_t9)).trans (Oth.of s_a)).trans (Oth.of s_b)).trans (Oth.of s_c)).trans (Oth.of s_d)).trans (Oth.of s_e)).trans (Oth.of s_l3)).trans (Oth.of s_l4)).trans (Oth.of s_g)).trans (Oth.of s_h)).trans (Oth.of s_si)).trans (Oth.of s_ti)).trans (Oth.of s_dj)).trans (Oth.of s_ua)).trans (Oth.of s_ub)) (Tp.ne h_st (Bx.same b_k s_st))), .inr (Tp.oth h_lo (((((((((((((((((((((((((((((((((((o_r.trans o_w).trans o_f).trans (Oth.of s_z)).trans (Oth.of s_dB)).trans (Oth.of s_lr)).trans (Oth.of s_3)).trans (Oth.of s_th)).trans (Oth.of s_4)).trans (Oth.of s_sp)).trans (Oth.of s_tq)).trans (Oth.of s_td)).trans (Oth.of s_5)).trans (Oth.of s_6)).trans (Oth.of s_lh)).trans (Oth.of s_7)).trans (Oth.of s_l1)).trans (Oth.of s_l2)).trans (Oth.of s_8)).trans (Oth.of s_9)).trans (Oth.of s_s9)).trans (Oth.of s_t9)).trans (Oth.of s_a)).trans (Oth.of s_b)).trans (Oth.of s_c)).trans (Oth.of s_d)).trans (Oth.of s_e)).trans (Oth.of s_l3)).trans (Oth.of s_l4)).trans (Oth.of s_g)).trans (Oth.of s_h)).trans (Oth.of s_si)).trans (Oth.of s_ti)).trans (Oth.of s_dj)).trans (Oth.of s_ua)).trans (Oth.of s_ub)) (Tp.ne h_lo (Bx.same b_k (s_st.trans s_lo)))), Pqs.ofT ((h_r.oth ((((((((((((((((((((((((((((((((((o_w.trans o_f).trans (Oth.of s_z)).trans (Oth.of s_dB)).trans (Oth.of s_lr)).trans (Oth.of s_3)).trans (Oth.of s_th)).trans (Oth.of s_4)).trans (Oth.of s_sp)).trans (Oth.of s_tq)).trans (Oth.of s_td)).trans (Oth.of s_5)).trans (Oth.of s_6)).trans (Oth.of s_lh)).trans (Oth.of s_7)).trans (Oth.of s_l1)).trans (Oth.of s_l2)).trans (Oth.of s_8)).trans (Oth.of s_9)).trans (Oth.of s_s9)).trans (Oth.of s_t9)).trans (Oth.of s_a)).trans (Oth.of s_b)).trans (Oth.of s_c)).trans (Oth.of s_d)).trans (Oth.of s_e)).trans (Oth.of s_l3)).trans (Oth.of s_l4)).trans (Oth.of s_g)).trans (Oth.of s_h)).trans (Oth.of s_si)).trans (Oth.of s_ti)).trans (Oth.of s_dj)).trans (Oth.of s_ua)).trans (Oth.of s_ub)) b_r)).pq, Pqs.ofT ((h_w.oth (((((((((((((((((((((((((((((((((o_f.trans (Oth.of s_z)).trans (Oth.of s_dB)).trans (Oth.of s_lr)).trans (Oth.of s_3)).trans (Oth.of s_th)).trans (Oth.of s_4)).trans (Oth.of s_sp)).trans (Oth.of s_tq)).trans (Oth.of s_td)).trans (Oth.of s_5)).trans (Oth.of s_6)).trans (Oth.of s_lh)).trans (Oth.of s_7)).trans (Oth.of s_l1)).trans (Oth.of s_l2)).trans (Oth.of s_8)).trans (Oth.of s_9)).trans (Oth.of s_s9)).trans (Oth.of s_t9)).trans (Oth.of s_a)).trans (Oth.of s_b)).trans (Oth.of s_c)).trans (Oth.of s_d)).trans (Oth.of s_e)).trans (Oth.of s_l3)).trans (Oth.of s_l4)).trans (Oth.of s_g)).trans (Oth.of s_h)).trans (Oth.of s_si)).trans (Oth.of s_ti)).trans (Oth.of s_dj)).trans (Oth.of s_ua)).trans (Oth.of s_ub)) b_w)).pq, by omega, by omega, by rw [List.length_map]; omega, by rw [List.length_map]; omega, fun _ H_kk tk thk ttk pk s_k h_tk h_thk h_ttk a_k pmk pwk => ?_, fun m rr2 e => by rw [esn] at e; cases e⟩
      rw [← ezs] at h_thk
      refine ⟨(by decide : (1 : Nat) ≤ sizeLine), fun l5 nl5 => ?_⟩
      have s_l5 : Same H_kk (upd H_kk l5 (.lst [.ref tk])) := same_upd nl5
      have h_l5 : (upd H_kk l5 (.lst [.ref tk])) l5 = some (.lst [.ref tk]) := upd_same
      have e_l5 : l5 ≠ p := (Bx.new (Bx.same b_f (((((((((((((((((((((((((((((((((s_z.trans s_dB).trans s_lr).trans s_3).trans s_th).trans s_4).trans s_sp).trans s_tq).trans s_td).trans s_5).trans s_6).trans s_lh).trans s_7).trans s_l1).trans s_l2).trans s_8).trans s_9).trans s_s9).trans s_t9).trans s_a).trans s_b).trans s_c).trans s_d).trans s_e).trans s_l3).trans s_l4).trans s_g).trans s_h).trans s_si).trans s_ti).trans s_dj).trans s_ua).trans s_ub).trans s_k)) nl5).symm
      generalize (upd H_kk l5 (.lst [.ref tk])) = H_l5 at *
      dsimp only [tNext, gName]
      refine sl_cut [some (.ref p), some (.ref u), some (.int ((k + 1 : Nat) : Int)), some (.ref st), some (.ref lo), some (.ref r), some (.ref w), some (.ref f), some (.ref dB), some (.str SH), some (.ref dj), some (.ref l5), none, none, none, none, none, none] rfl ?_
      refine ⟨.ref l5, rfl, .inl ⟨rfl, _, .inl (.inl h_l5)⟩, .ref lo, rfl, .ref w, rfl, (by decide : (2 : Nat) ≤ sizeLine), fun uc nuc => ?_⟩
      have s_uc : Same H_l5 (upd H_l5 uc (.tup [.ref lo, .ref w])) := same_upd nuc
      have h_uc : (upd H_l5 uc (.tup [.ref lo, .ref w])) uc = some (.tup [.ref lo, .ref w]) := upd_same
      have e_uc : uc ≠ p := (Bx.new (Bx.same b_f ((((((((((((((((((((((((((((((((((s_z.trans s_dB).trans s_lr).trans s_3).trans s_th).trans s_4).trans s_sp).trans s_tq).trans s_td).trans s_5).trans s_6).trans s_lh).trans s_7).trans s_l1).trans s_l2).trans s_8).trans s_9).trans s_s9).trans s_t9).trans s_a).trans s_b).trans s_c).trans s_d).trans s_e).trans s_l3).trans s_l4).trans s_g).trans s_h).trans s_si).trans s_ti).trans s_dj).trans s_ua).trans s_ub).trans s_k).trans s_l5)) nuc).symm
      generalize (upd H_l5 uc (.tup [.ref lo, .ref w])) = H_uc at *
      have fM := fine_hq nm2 qn1 (by omega) (by rw [List.length_map]; omega)
      have fL := fine_hq nm1 qn0 (by omega) (by rw [List.length_map]; omega)
      refine ⟨.ref uc, .tuple [.tuple (two.map PyData.str), dTies M], rfl, two_dp h_uc (.tup ((Tp.oth h_lo ((((((((((((((((((((((((((((((((((((((o_r.trans o_w).trans o_f).trans (Oth.of s_z)).trans (Oth.of s_dB)).trans (Oth.of s_lr)).trans (Oth.of s_3)).trans (Oth.of s_th)).trans (Oth.of s_4)).trans (Oth.of s_sp)).trans (Oth.of s_tq)).trans (Oth.of s_td)).trans (Oth.of s_5)).trans (Oth.of s_6)).trans (Oth.of s_lh)).trans (Oth.of s_7)).trans (Oth.of s_l1)).trans (Oth.of s_l2)).trans (Oth.of s_8)).trans (Oth.of s_9)).trans (Oth.of s_s9)).trans (Oth.of s_t9)).trans (Oth.of s_a)).trans (Oth.of s_b)).trans (Oth.of s_c)).trans (Oth.of s_d)).trans (Oth.of s_e)).trans (Oth.of s_l3)).trans (Oth.of s_l4)).trans (Oth.of s_g)).trans (Oth.of s_h)).trans (Oth.of s_si)).trans (Oth.of s_ti)).trans (Oth.of s_dj)).trans (Oth.of s_ua)).trans (Oth.of s_ub)).trans (Oth.of s_k)).trans (Oth.of s_l5)).trans (Oth.of s_uc)) (Tp.ne h_lo (Bx.same b_k (s_st.trans s_lo))))).sq (dp_strs _)) ((h_w.oth ((((((((((((((((((((((((((((((((((((o_f.trans (Oth.of s_z)).trans (Oth.of s_dB)).trans (Oth.of s_lr)).trans (Oth.of s_3)).trans (Oth.of s_th)).trans (Oth.of s_4)).trans (Oth.of s_sp)).trans (Oth.of s_tq)).trans (Oth.of s_td)).trans (Oth.of s_5)).trans (Oth.of s_6)).trans (Oth.of s_lh)).trans (Oth.of s_7)).trans (Oth.of s_l1)).trans (Oth.of s_l2)).trans (Oth.of s_8)).trans (Oth.of s_9)).trans (Oth.of s_s9)).trans (Oth.of s_t9)).trans (Oth.of s_a)).trans (Oth.of s_b)).trans (Oth.of s_c)).trans (Oth.of s_d)).trans (Oth.of s_e)).trans (Oth.of s_l3)).trans (Oth.of s_l4)).trans (Oth.of s_g)).trans (Oth.of s_h)).trans (Oth.of s_si)).trans (Oth.of s_ti)).trans (Oth.of s_dj)).trans (Oth.of s_ua)).trans (Oth.of s_ub)).trans (Oth.of s_k)).trans (Oth.of s_l5)).trans (Oth.of s_uc)) b_w)).dp, (by rw [dM]; exact fM.dep), (by rw [dM]; exact Nat.le_trans fM.wid (by decide)), fun H_l yl2 s_l hnwl => ?_⟩
      obtain ⟨tx, xa, xb, rfl, h_tx, h_xa, h_xb⟩ := nw_two (K := K) hnwl okp1
      refine ⟨.ref st, rfl, .ref r, rfl, (by decide : (2 : Nat) ≤ sizeLine), fun ud nud => ?_⟩
      have s_ud : Same H_l (upd H_l ud (.tup [.ref st, .ref r])) := same_upd nud
      have h_ud : (upd H_l ud (.tup [.ref st, .ref r])) ud = some (.tup [.ref st, .ref r]) := upd_same
      have e_ud : ud ≠ p := (Bx.new (Bx.same b_f ((((((((((((((((((((((((((((((((((((s_z.trans s_dB).trans s_lr).trans s_3).trans s_th).trans s_4).trans s_sp).trans s_tq).trans s_td).trans s_5).trans s_6).trans s_lh).trans s_7).trans s_l1).trans s_l2).trans s_8).trans s_9).trans s_s9).trans s_t9).trans s_a).trans s_b).trans s_c).trans s_d).trans s_e).trans s_l3).trans s_l4).trans s_g).trans s_h).trans s_si).trans s_ti).trans s_dj).trans s_ua).trans s_ub).trans s_k).trans s_l5).trans s_uc).trans s_l)) nud).symm
      generalize (upd H_l ud (.tup [.ref st, .ref r])) = H_ud at *
      refine ⟨.ref ud, .tuple [.tuple (one.map PyData.str), dTies L], rfl, two_dp h_ud (.tup ((Tp.oth h_st ((((((((((((((((((((((((((((((((((((((((((Oth.of s_lo).trans o_r).trans o_w).trans o_f).trans (Oth.of s_z)).trans (Oth.of s_dB)).trans (Oth.of s_lr)).trans (Oth.of s_3)).trans (Oth.of s_th)).trans (Oth.of s_4)).trans (Oth.of s_sp)).trans (Oth.of s_tq)).trans (Oth.of s_td)).trans (Oth.of s_5)).trans (Oth.of s_6)).trans (Oth.of s_lh)).trans (Oth.of s_7)).trans (Oth.of s_l1)).trans (Oth.of s_l2)).trans (Oth.of s_8)).trans (Oth.of s_9)).trans (Oth.of s_s9)).trans (Oth.of s_t9)).trans (Oth.of s_a)).trans (Oth.of s_b)).trans (Oth.of s_c)).trans (Oth.of s_d)).trans (Oth.of s_e)).trans (Oth.of s_l3)).trans (Oth.of s_l4)).trans (Oth.of s_g)).trans (Oth.of s_h)).trans (Oth.of s_si)).trans (Oth.of s_ti)).trans (Oth.of s_dj)).trans (Oth.of s_ua)).trans (Oth.of s_ub)).trans (Oth.of s_k)).trans (Oth.of s_l5)).trans (Oth.of s_uc)).trans (Oth.of s_l)).trans (Oth.of s_ud)) (Tp.ne h_st (Bx.same b_k s_st)))).sq (dp_strs _)) ((h_r.oth (((((((((((((((((((((((((((((((((((((((o_w.trans o_f).trans (Oth.of s_z)).trans (Oth.of s_dB)).trans (Oth.of s_lr)).trans (Oth.of s_3)).trans (Oth.of s_th)).trans (Oth.of s_4)).trans (Oth.of s_sp)).trans (Oth.of s_tq)).trans (Oth.of s_td)).trans (Oth.of s_5)).trans (Oth.of s_6)).trans (Oth.of s_lh)).trans (Oth.of s_7)).trans (Oth.of s_l1)).trans (Oth.of s_l2)).trans (Oth.of s_8)).trans (Oth.of s_9)).trans (Oth.of s_s9)).trans (Oth.of s_t9)).trans (Oth.of s_a)).trans (Oth.of s_b)).trans (Oth.of s_c)).trans (Oth.of s_d)).trans (Oth.of s_e)).trans (Oth.of s_l3)).trans (Oth.of s_l4)).trans (Oth.of s_g)).trans (Oth.of s_h)).trans (Oth.of s_si)).trans (Oth.of s_ti)).trans (Oth.of s_dj)).trans (Oth.of s_ua)).trans (Oth.of s_ub)).trans (Oth.of s_k)).trans (Oth.of s_l5)).trans (Oth.of s_uc)).trans (Oth.of s_l)).trans (Oth.of s_ud)) b_r)).dp, (by rw [dL]; exact fL.dep), (by rw [dL]; exact Nat.le_trans fL.wid (by decide)), fun H_m ym s_m hnwm => ?_⟩
      obtain ⟨ty, ya, yb, rfl, h_ty, h_ya, h_yb⟩ := nw_two (K := K) hnwm okp0
      refine ⟨ty, tx, ya, yb, xa, xb, one, two, _, _, rfl, .inl (.inl (.inl h_ty)), .inl (.inl (.inl ((s_ud.trans s_m) _ _ h_tx))), .inl (.inl (.inl h_ya)), .inl (.inl (.inl ((s_ud.trans s_m) _ _ h_xa))), pqs_ll h_yb, pqs_ll (h_xb.same (s_ud.trans s_m)), dis, by omega, by omega, by rw [List.length_map]; omega, by rw [List.length_map]; omega, fun H_n tn thn ttn pn s_n h_tn h_thn h_ttn a_n pmn pwn => ?_⟩
      rw [← ezs] at h_thn
      have h_l5n := (((((s_uc.trans s_l).trans s_ud).trans s_m).trans s_n) _ _ h_l5)
      refine ⟨l5, _, _, rfl, rfl, h_l5n, (by show 1 < sizeLine; decide), ?_⟩
      have s_o : Same H_kk (upd H_n l5 (.lst ([V.ref tk] ++ [V.ref tn]))) := same_put (((((s_l5.trans s_uc).trans s_l).trans s_ud).trans s_m).trans s_n) nl5
      have h_l5o : (upd H_n l5 (.lst ([V.ref tk] ++ [V.ref tn]))) l5 = some (.lst [.ref tk, .ref tn]) := upd_same
      have h_tno : (upd H_n l5 (.lst ([V.ref tk] ++ [V.ref tn]))) tn = some (.tup [.ref thn, .ref ttn]) := keep_l h_l5n h_tn (fun _ z => nomatch z)
      have h_thno := h_thn.keepL (o' := .lst ([V.ref tk] ++ [V.ref tn])) h_l5n
      have h_ttno := h_ttn.keepL (o' := .lst ([V.ref tk] ++ [V.ref tn])) h_l5n
      have a_no : ∀ q ∈ pn, AtT (upd H_n l5 (.lst ([V.ref tk] ++ [V.ref tn]))) q := fun q hq => (a_n q hq).keepL h_l5n
      generalize (upd H_n l5 (.lst ([V.ref tk] ++ [V.ref tn]))) = H_o at *
      refine ⟨.ref l5, rfl, .ref dj, rfl, .ref dj, rfl, (by decide : (2 : Nat) ≤ sizeLine), fun l6 nl6 => ?_⟩
      have s_l6 : Same H_o (upd H_o l6 (.lst [.ref dj, .ref dj])) := same_upd nl6
      have h_l6 : (upd H_o l6 (.lst [.ref dj, .ref dj])) l6 = some (.lst [.ref dj, .ref dj]) := upd_same
      have e_l6 : l6 ≠ p := (Bx.new (Bx.same b_f ((((((((((((((((((((((((((((((((((s_z.trans s_dB).trans s_lr).trans s_3).trans s_th).trans s_4).trans s_sp).trans s_tq).trans s_td).trans s_5).trans s_6).trans s_lh).trans s_7).trans s_l1).trans s_l2).trans s_8).trans s_9).trans s_s9).trans s_t9).trans s_a).trans s_b).trans s_c).trans s_d).trans s_e).trans s_l3).trans s_l4).trans s_g).trans s_h).trans s_si).trans s_ti).trans s_dj).trans s_ua).trans s_ub).trans s_k).trans s_o)) nl6).symm
      generalize (upd H_o l6 (.lst [.ref dj, .ref dj])) = H_l6 at *
      have ek3 : pk.map (·.2) = pi.map (·.2) := leP_one (pmk.trans pmi.symm) pwk ppwi
      have en3 : pn.map (·.2) = pi.map (·.2) := leP_one (pmn.trans pmi.symm) pwn ppwi
      have f4 := fine_hq (zs := zs) nm_u qdi (by omega) (by rw [List.length_map]; omega)
      have f5 := fine_l2 f4 f4
      refine ⟨.ref l5, .ref l6, _, rfl, ltwo_dp (s_l6 _ _ h_l5o) (two_dp ((s_o.trans s_l6) _ _ h_tk) (.tup ((tpS h_thk (s_o.trans s_l6))).sq (dp_strs _)) (tpP_dp (tpS h_ttk (s_o.trans s_l6)) (fun x hx => (s_o.trans s_l6) _ _ (a_k x hx)) ek3)) (two_dp (s_l6 _ _ h_tno) (.tup ((tpS h_thno s_l6)).sq (dp_strs _)) (tpP_dp (tpS h_ttno s_l6) (fun x hx => s_l6 _ _ (a_no x hx)) en3)), ltwo_dp h_l6 (two_dp (((((s_ua.trans s_ub).trans s_k).trans s_o).trans s_l6) _ _ h_dj) (.tup ((Tp.oth h_u (((((((((((((((((((((((((((((((((((((((((o_k.trans (Oth.of s_st)).trans (Oth.of s_lo)).trans o_r).trans o_w).trans o_f).trans (Oth.of s_z)).trans (Oth.of s_dB)).trans (Oth.of s_lr)).trans (Oth.of s_3)).trans (Oth.of s_th)).trans (Oth.of s_4)).trans (Oth.of s_sp)).trans (Oth.of s_tq)).trans (Oth.of s_td)).trans (Oth.of s_5)).trans (Oth.of s_6)).trans (Oth.of s_lh)).trans (Oth.of s_7)).trans (Oth.of s_l1)).trans (Oth.of s_l2)).trans (Oth.of s_8)).trans (Oth.of s_9)).trans (Oth.of s_s9)).trans (Oth.of s_t9)).trans (Oth.of s_a)).trans (Oth.of s_b)).trans (Oth.of s_c)).trans (Oth.of s_d)).trans (Oth.of s_e)).trans (Oth.of s_l3)).trans (Oth.of s_l4)).trans (Oth.of s_g)).trans (Oth.of s_h)).trans (Oth.of s_si)).trans (Oth.of s_ti)).trans (Oth.of s_dj)).trans (Oth.of s_ua)).trans (Oth.of s_ub)).trans (Oth.of s_k)).trans (Oth.of s_o)).trans (Oth.of s_l6)) (Tp.ne h_u b_u))).sq (dp_strs _)) (tpP_dp (tpS h_ti (((((s_dj.trans s_ua).trans s_ub).trans s_k).trans s_o).trans s_l6)) (fun x hx => (((((((s_si.trans s_ti).trans s_dj).trans s_ua).trans s_ub).trans s_k).trans s_o).trans s_l6) _ _ (ati x hx)) rfl)) (two_dp (((((s_ua.trans s_ub).trans s_k).trans s_o).trans s_l6) _ _ h_dj) (.tup ((Tp.oth h_u (((((((((((((((((((((((((((((((((((((((((o_k.trans (Oth.of s_st)).trans (Oth.of s_lo)).trans o_r).trans o_w).trans o_f).trans (Oth.of s_z)).trans (Oth.of s_dB)).trans (Oth.of s_lr)).trans (Oth.of s_3)).trans (Oth.of s_th)).trans (Oth.of s_4)).trans (Oth.of s_sp)).trans (Oth.of s_tq)).trans (Oth.of s_td)).trans (Oth.of s_5)).trans (Oth.of s_6)).trans (Oth.of s_lh)).trans (Oth.of s_7)).trans (Oth.of s_l1)).trans (Oth.of s_l2)).trans (Oth.of s_8)).trans (Oth.of s_9)).trans (Oth.of s_s9)).trans (Oth.of s_t9)).trans (Oth.of s_a)).trans (Oth.of s_b)).trans (Oth.of s_c)).trans (Oth.of s_d)).trans (Oth.of s_e)).trans (Oth.of s_l3)).trans (Oth.of s_l4)).trans (Oth.of s_g)).trans (Oth.of s_h)).trans (Oth.of s_si)).trans (Oth.of s_ti)).trans (Oth.of s_dj)).trans (Oth.of s_ua)).trans (Oth.of s_ub)).trans (Oth.of s_k)).trans (Oth.of s_o)).trans (Oth.of s_l6)) (Tp.ne h_u b_u))).sq (dp_strs _)) (tpP_dp (tpS h_ti (((((s_dj.trans s_ua).trans s_ub).trans s_k).trans s_o).trans s_l6)) (fun x hx => (((((((s_si.trans s_ti).trans s_dj).trans s_ua).trans s_ub).trans s_k).trans s_o).trans s_l6) _ _ (ati x hx)) rfl)), f5.lay, f5.dep, Nat.le_trans f5.dep (by decide), Nat.le_trans f5.wid (by decide), fun H_p s_p => ⟨_, rfl, iteF ?_⟩⟩
      refine ⟨.ref p, rfl, .ref st, rfl, p, st, c_f, _, rfl, (Bx.same b_f ((((((((((((((((((((((((((((((((((((s_z.trans s_dB).trans s_lr).trans s_3).trans s_th).trans s_4).trans s_sp).trans s_tq).trans s_td).trans s_5).trans s_6).trans s_lh).trans s_7).trans s_l1).trans s_l2).trans s_8).trans s_9).trans s_s9).trans s_t9).trans s_a).trans s_b).trans s_c).trans s_d).trans s_e).trans s_l3).trans s_l4).trans s_g).trans s_h).trans s_si).trans s_ti).trans s_dj).trans s_ua).trans s_ub).trans s_k).trans s_o).trans s_l6).trans s_p)), by omega, ((Tp.oth h_st (((((((((((((((((((((((((((((((((((((((((Oth.of s_lo).trans o_r).trans o_w).trans o_f).trans (Oth.of s_z)).trans (Oth.of s_dB)).trans (Oth.of s_lr)).trans (Oth.of s_3)).trans (Oth.of s_th)).trans (Oth.of s_4)).trans (Oth.of s_sp)).trans (Oth.of s_tq)).trans (Oth.of s_td)).trans (Oth.of s_5)).trans (Oth.of s_6)).trans (Oth.of s_lh)).trans (Oth.of s_7)).trans (Oth.of s_l1)).trans (Oth.of s_l2)).trans (Oth.of s_8)).trans (Oth.of s_9)).trans (Oth.of s_s9)).trans (Oth.of s_t9)).trans (Oth.of s_a)).trans (Oth.of s_b)).trans (Oth.of s_c)).trans (Oth.of s_d)).trans (Oth.of s_e)).trans (Oth.of s_l3)).trans (Oth.of s_l4)).trans (Oth.of s_g)).trans (Oth.of s_h)).trans (Oth.of s_si)).trans (Oth.of s_ti)).trans (Oth.of s_dj)).trans (Oth.of s_ua)).trans (Oth.of s_ub)).trans (Oth.of s_k)).trans (Oth.of s_o)).trans (Oth.of s_l6)).trans (Oth.of s_p)) (Tp.ne h_st (Bx.same b_k s_st)))).ne (Bx.same b_f ((((((((((((((((((((((((((((((((((((s_z.trans s_dB).trans s_lr).trans s_3).trans s_th).trans s_4).trans s_sp).trans s_tq).trans s_td).trans s_5).trans s_6).trans s_lh).trans s_7).trans s_l1).trans s_l2).trans s_8).trans s_9).trans s_s9).trans s_t9).trans s_a).trans s_b).trans s_c).trans s_d).trans s_e).trans s_l3).trans s_l4).trans s_g).trans s_h).trans s_si).trans s_ti).trans s_dj).trans s_ua).trans s_ub).trans s_k).trans s_o).trans s_l6).trans s_p)), .inr ((Tp.oth h_st (((((((((((((((((((((((((((((((((((((((((Oth.of s_lo).trans o_r).trans o_w).trans o_f).trans (Oth.of s_z)).trans (Oth.of s_dB)).trans (Oth.of s_lr)).trans (Oth.of s_3)).trans (Oth.of s_th)).trans (Oth.of s_4)).trans (Oth.of s_sp)).trans (Oth.of s_tq)).trans (Oth.of s_td)).trans (Oth.of s_5)).trans (Oth.of s_6)).trans (Oth.of s_lh)).trans (Oth.of s_7)).trans (Oth.of s_l1)).trans (Oth.of s_l2)).trans (Oth.of s_8)).trans (Oth.of s_9)).trans (Oth.of s_s9)).trans (Oth.of s_t9)).trans (Oth.of s_a)).trans (Oth.of s_b)).trans (Oth.of s_c)).trans (Oth.of s_d)).trans (Oth.of s_e)).trans (Oth.of s_l3)).trans (Oth.of s_l4)).trans (Oth.of s_g)).trans (Oth.of s_h)).trans (Oth.of s_si)).trans (Oth.of s_ti)).trans (Oth.of s_dj)).trans (Oth.of s_ua)).trans (Oth.of s_ub)).trans (Oth.of s_k)).trans (Oth.of s_o)).trans (Oth.of s_l6)).trans (Oth.of s_p)) (Tp.ne h_st (Bx.same b_k s_st)))).sq, by rw [List.length_map]; omega, fun H_q g gs c_q ng o_q h_g0 gpm b_q hcq1 hcq2 => ?_⟩
      rw [List.length_map] at hcq2
      obtain ⟨ms, rfl, mpm⟩ := perm_strs gpm
      have e_g : g ≠ p := bx_strs b_q h_g0
      refine ⟨.ref p, rfl, p, _, c_q, rfl, b_q, by omega, by decide, by decide, fun k3 c_k3 ob_k3 h_k30 h_k31 hc1_k3 hc2_k3 b_k3 => ?_⟩
      obtain ⟨k3, rfl⟩ := Int.eq_ofNat_of_zero_le h_k30
      have o_k3 : Oth p H_q (upd H_q p ob_k3) := Oth.put
      generalize (upd H_q p ob_k3) = H_k3 at *
      refine ⟨_, _, rfl, rfl, ?_⟩
      have ek4 : (1 + ((k3 : Nat) : Int)) = (((k3 + 1 : Nat)) : Int) := by omega
      dsimp only
      rw [ek4]
      refine ⟨_, rfl, g, _, rfl, .inl (.inl (o_k3 _ _ h_g0 e_g)), fun sh nsh => ?_⟩
      rw [cutTo, ← List.map_take]
      have msub : ∀ x ∈ ms.take (k3 + 1), x ∈ one := fun x hx => mpm.mem_iff.mp (List.mem_of_mem_take hx)
      have shl : (ms.take (k3 + 1)).length ≤ 12 := by
        have := mpm.length_eq
        rw [List.length_take]
        omega
      obtain ⟨m0, mr, em⟩ : ∃ m0 mr, ms.take (k3 + 1) = m0 :: mr := by
        have := mpm.length_eq
        cases ms with
        | nil => simp at this; omega
        | cons a b => exact ⟨a, b.take k3, rfl⟩
      generalize ms.take (k3 + 1) = shr at *
      have s_sh : Same H_k3 (upd H_k3 sh (.lst (shr.map V.str))) := same_upd nsh
      have h_sh : (upd H_k3 sh (.lst (shr.map V.str))) sh = some (.lst (shr.map V.str)) := upd_same
      have e_sh : sh ≠ p := (Bx.new b_k3 nsh).symm
      generalize (upd H_k3 sh (.lst (shr.map V.str))) = H_sh at *
      dsimp only [tNext, gName]
      refine sl_cut [some (.ref p), some (.ref u), some (.int ((k + 1 : Nat) : Int)), some (.ref st), some (.ref lo), some (.ref r), some (.ref w), some (.ref f), some (.ref dB), some (.str SH), some (.ref dj), some (.ref l5), some (.ref sh), none, none, none, none, none] rfl ?_
      refine ⟨.ref st, rfl, .ref r, rfl, (by decide : (2 : Nat) ≤ sizeLine), fun va nva => ?_⟩
      have s_va : Same H_sh (upd H_sh va (.tup [.ref st, .ref r])) := same_upd nva
      have h_va : (upd H_sh va (.tup [.ref st, .ref r])) va = some (.tup [.ref st, .ref r]) := upd_same
      have e_va : va ≠ p := (Bx.new (Bx.same b_k3 s_sh) nva).symm
      generalize (upd H_sh va (.tup [.ref st, .ref r])) = H_va at *
      refine ⟨.ref lo, rfl, .ref sh, rfl, sh, _, rfl, .inl (.inl (s_va _ _ h_sh)), fun ts obts nts qts1 qts2 => ?_⟩
      have s_ts : Same H_va (upd H_va ts (.frz obts (.tup (shr.map V.str)))) := same_upd nts
      have h_ts : Tp (upd H_va ts (.frz obts (.tup (shr.map V.str)))) ts (shr.map V.str) := ⟨obts, upd_same, qts1, qts2⟩
      generalize (upd H_va ts (.frz obts (.tup (shr.map V.str)))) = H_ts at *
      refine ⟨lo, ts, _, _, rfl, rfl, (Tp.oth h_lo ((((((((((((((((((((((((((((((((((((((((((((o_r.trans o_w).trans o_f).trans (Oth.of s_z)).trans (Oth.of s_dB)).trans (Oth.of s_lr)).trans (Oth.of s_3)).trans (Oth.of s_th)).trans (Oth.of s_4)).trans (Oth.of s_sp)).trans (Oth.of s_tq)).trans (Oth.of s_td)).trans (Oth.of s_5)).trans (Oth.of s_6)).trans (Oth.of s_lh)).trans (Oth.of s_7)).trans (Oth.of s_l1)).trans (Oth.of s_l2)).trans (Oth.of s_8)).trans (Oth.of s_9)).trans (Oth.of s_s9)).trans (Oth.of s_t9)).trans (Oth.of s_a)).trans (Oth.of s_b)).trans (Oth.of s_c)).trans (Oth.of s_d)).trans (Oth.of s_e)).trans (Oth.of s_l3)).trans (Oth.of s_l4)).trans (Oth.of s_g)).trans (Oth.of s_h)).trans (Oth.of s_si)).trans (Oth.of s_ti)).trans (Oth.of s_dj)).trans (Oth.of s_ua)).trans (Oth.of s_ub)).trans (Oth.of s_k)).trans (Oth.of s_o)).trans (Oth.of s_l6)).trans (Oth.of s_p)).trans o_q).trans o_k3).trans (Oth.of s_sh)).trans (Oth.of s_va)).trans (Oth.of s_ts)) (Tp.ne h_lo (Bx.same b_k (s_st.trans s_lo)))), h_ts, by rw [List.length_map, List.length_map, sizeLine_eq]; omega, fun lb H_lb s_lb h_lb => ?_⟩
      rw [← List.map_append] at h_lb
      refine ⟨.ref w, rfl, (by decide : (2 : Nat) ≤ sizeLine), fun vb nvb => ?_⟩
      have s_vb : Same H_lb (upd H_lb vb (.tup [.ref lb, .ref w])) := same_upd nvb
      have h_vb : (upd H_lb vb (.tup [.ref lb, .ref w])) vb = some (.tup [.ref lb, .ref w]) := upd_same
      have e_vb : vb ≠ p := (Bx.new (Bx.same b_k3 (((s_sh.trans s_va).trans s_ts).trans s_lb)) nvb).symm
      generalize (upd H_lb vb (.tup [.ref lb, .ref w])) = H_vb at *
      have hm0 : ∀ x ∈ shr, x ∈ srt (one.filter (inL (two ++ shr))) := fun x hx => (srt_perm _).mem_iff.mpr (List.mem_filter.mpr ⟨msub x hx, decide_eq_true (List.mem_append_right _ hx)⟩)
      refine ⟨va, vb, st, r, lb, w, one, two ++ shr, _, _, rfl, .inr (.inl (.inl (((s_ts.trans s_lb).trans s_vb) _ _ h_va))), .inr (.inl (.inl h_vb)), .inr (Tp.oth h_st ((((((((((((((((((((((((((((((((((((((((((((((((Oth.of s_lo).trans o_r).trans o_w).trans o_f).trans (Oth.of s_z)).trans (Oth.of s_dB)).trans (Oth.of s_lr)).trans (Oth.of s_3)).trans (Oth.of s_th)).trans (Oth.of s_4)).trans (Oth.of s_sp)).trans (Oth.of s_tq)).trans (Oth.of s_td)).trans (Oth.of s_5)).trans (Oth.of s_6)).trans (Oth.of s_lh)).trans (Oth.of s_7)).trans (Oth.of s_l1)).trans (Oth.of s_l2)).trans (Oth.of s_8)).trans (Oth.of s_9)).trans (Oth.of s_s9)).trans (Oth.of s_t9)).trans (Oth.of s_a)).trans (Oth.of s_b)).trans (Oth.of s_c)).trans (Oth.of s_d)).trans (Oth.of s_e)).trans (Oth.of s_l3)).trans (Oth.of s_l4)).trans (Oth.of s_g)).trans (Oth.of s_h)).trans (Oth.of s_si)).trans (Oth.of s_ti)).trans (Oth.of s_dj)).trans (Oth.of s_ua)).trans (Oth.of s_ub)).trans (Oth.of s_k)).trans (Oth.of s_o)).trans (Oth.of s_l6)).trans (Oth.of s_p)).trans o_q).trans o_k3).trans (Oth.of s_sh)).trans (Oth.of s_va)).trans (Oth.of s_ts)).trans (Oth.of s_lb)).trans (Oth.of s_vb)) (Tp.ne h_st (Bx.same b_k s_st))), .inr (tpS h_lb s_vb), Pqs.ofT ((h_r.oth (((((((((((((((((((((((((((((((((((((((((((((o_w.trans o_f).trans (Oth.of s_z)).trans (Oth.of s_dB)).trans (Oth.of s_lr)).trans (Oth.of s_3)).trans (Oth.of s_th)).trans (Oth.of s_4)).trans (Oth.of s_sp)).trans (Oth.of s_tq)).trans (Oth.of s_td)).trans (Oth.of s_5)).trans (Oth.of s_6)).trans (Oth.of s_lh)).trans (Oth.of s_7)).trans (Oth.of s_l1)).trans (Oth.of s_l2)).trans (Oth.of s_8)).trans (Oth.of s_9)).trans (Oth.of s_s9)).trans (Oth.of s_t9)).trans (Oth.of s_a)).trans (Oth.of s_b)).trans (Oth.of s_c)).trans (Oth.of s_d)).trans (Oth.of s_e)).trans (Oth.of s_l3)).trans (Oth.of s_l4)).trans (Oth.of s_g)).trans (Oth.of s_h)).trans (Oth.of s_si)).trans (Oth.of s_ti)).trans (Oth.of s_dj)).trans (Oth.of s_ua)).trans (Oth.of s_ub)).trans (Oth.of s_k)).trans (Oth.of s_o)).trans (Oth.of s_l6)).trans (Oth.of s_p)).trans o_q).trans o_k3).trans (Oth.of s_sh)).trans (Oth.of s_va)).trans (Oth.of s_ts)).trans (Oth.of s_lb)).trans (Oth.of s_vb)) b_r)).pq, Pqs.ofT ((h_w.oth ((((((((((((((((((((((((((((((((((((((((((((o_f.trans (Oth.of s_z)).trans (Oth.of s_dB)).trans (Oth.of s_lr)).trans (Oth.of s_3)).trans (Oth.of s_th)).trans (Oth.of s_4)).trans (Oth.of s_sp)).trans (Oth.of s_tq)).trans (Oth.of s_td)).trans (Oth.of s_5)).trans (Oth.of s_6)).trans (Oth.of s_lh)).trans (Oth.of s_7)).trans (Oth.of s_l1)).trans (Oth.of s_l2)).trans (Oth.of s_8)).trans (Oth.of s_9)).trans (Oth.of s_s9)).trans (Oth.of s_t9)).trans (Oth.of s_a)).trans (Oth.of s_b)).trans (Oth.of s_c)).trans (Oth.of s_d)).trans (Oth.of s_e)).trans (Oth.of s_l3)).trans (Oth.of s_l4)).trans (Oth.of s_g)).trans (Oth.of s_h)).trans (Oth.of s_si)).trans (Oth.of s_ti)).trans (Oth.of s_dj)).trans (Oth.of s_ua)).trans (Oth.of s_ub)).trans (Oth.of s_k)).trans (Oth.of s_o)).trans (Oth.of s_l6)).trans (Oth.of s_p)).trans o_q).trans o_k3).trans (Oth.of s_sh)).trans (Oth.of s_va)).trans (Oth.of s_ts)).trans (Oth.of s_lb)).trans (Oth.of s_vb)) b_w)).pq, by omega, by rw [List.length_append]; omega, by rw [List.length_map]; omega, by rw [List.length_map]; omega, fun e => absurd (hm0 m0 (by rw [em]; exact List.mem_cons_self)) (by rw [e]; exact fun h => nomatch h), fun m rr2 em2 H_s ls s_s h_ls => ?_⟩
      dsimp only [tNext, gName]
      refine sl_cut [some (.ref p), some (.ref u), some (.int ((k + 1 : Nat) : Int)), some (.ref st), some (.ref lo), some (.ref r), some (.ref w), some (.ref f), some (.ref dB), some (.str SH), some (.ref dj), some (.ref ls), some (.ref sh), none, none, none, none, none] rfl ?_
      refine ⟨.ref ls, rfl, .ref sh, rfl, sh, m0, mr, rfl, .inl (.inl (by rw [← em]; exact (((((s_va.trans s_ts).trans s_lb).trans s_vb).trans s_s) _ _ h_sh))), fun mn hmn1 hmn2 => ⟨(by decide : (2 : Nat) ≤ sizeLine), fun l7 nl7 => ?_⟩⟩
      have hmn3 : mn ∈ shr := by rw [em]; exact hmn1
      have emn : mn = m := by
        have hm : m ∈ one.filter (inL (two ++ shr)) := (srt_perm _).mem_iff.mp (by rw [em2]; exact List.mem_cons_self)
        obtain ⟨h1, h2⟩ := List.mem_filter.mp hm
        have h3 : m ∈ shr := (List.mem_append.mp (of_decide_eq_true h2)).resolve_left (dis m h1)
        have h5 := srt_rise (one.filter (inL (two ++ shr)))
        have h4 := hm0 mn hmn3
        rw [em2] at h5 h4
        refine str_anti (hmn2 m (by rw [← em]; exact h3)) ?_
        rcases List.mem_cons.mp h4 with rfl | h4
        · exact List.le_refl _
        · exact (List.pairwise_cons.mp h5).1 mn h4
      subst emn
      have s_l7 : Same H_s (upd H_s l7 (.lst [.str "shared", .str mn])) := same_upd nl7
      have h_l7 : (upd H_s l7 (.lst [.str "shared", .str mn])) l7 = some (.lst [.str "shared", .str mn]) := upd_same
      have e_l7 : l7 ≠ p := (Bx.new (Bx.same b_k3 (((((s_sh.trans s_va).trans s_ts).trans s_lb).trans s_vb).trans s_s)) nl7).symm
      generalize (upd H_s l7 (.lst [.str "shared", .str mn])) = H_l7 at *
      have f6 : Fine 1 1000 100 (.list [.str "shared", .str mn]) := (Fine.list (FineL.cons (m := 0) (fine_str (by unfold Nm Lt; decide +kernel)) (FineL.cons (fine_str (nm1 mn (msub mn hmn3))) (FineL.nil (W := 0)))) (by show 2 ≤ 1000; decide)).mono (by decide) (by decide) (by decide)
      refine ⟨.ref ls, .ref l7, _, rfl, .lst (.inl (.inl (s_l7 _ _ h_ls))) (.cons (.str _) (.cons (.str _) .nil)), .lst (.inl (.inl h_l7)) (.cons (.str _) (.cons (.str _) .nil)), f6.lay, Nat.le_trans f6.dep (by decide), Nat.le_trans f6.dep (by decide), Nat.le_trans f6.wid (by decide), fun H_t s_t => ⟨_, rfl, iteF ?_⟩⟩
      dsimp only [tNext, gName]
      refine sl_cut [some (.ref p), some (.ref u), some (.int ((k + 1 : Nat) : Int)), some (.ref st), some (.ref lo), some (.ref r), some (.ref w), some (.ref f), some (.ref dB), some (.str SH), some (.ref dj), some (.ref ls), some (.ref sh), none, none, none, none, none] rfl ?_
      refine ⟨.ref p, rfl, .ref st, rfl, p, st, c_k3, _, rfl, (Bx.same b_k3 (((((((s_sh.trans s_va).trans s_ts).trans s_lb).trans s_vb).trans s_s).trans s_l7).trans s_t)), by omega, ((Tp.oth h_st (((((((((((((((((((((((((((((((((((((((((((((((((((Oth.of s_lo).trans o_r).trans o_w).trans o_f).trans (Oth.of s_z)).trans (Oth.of s_dB)).trans (Oth.of s_lr)).trans (Oth.of s_3)).trans (Oth.of s_th)).trans (Oth.of s_4)).trans (Oth.of s_sp)).trans (Oth.of s_tq)).trans (Oth.of s_td)).trans (Oth.of s_5)).trans (Oth.of s_6)).trans (Oth.of s_lh)).trans (Oth.of s_7)).trans (Oth.of s_l1)).trans (Oth.of s_l2)).trans (Oth.of s_8)).trans (Oth.of s_9)).trans (Oth.of s_s9)).trans (Oth.of s_t9)).trans (Oth.of s_a)).trans (Oth.of s_b)).trans (Oth.of s_c)).trans (Oth.of s_d)).trans (Oth.of s_e)).trans (Oth.of s_l3)).trans (Oth.of s_l4)).trans (Oth.of s_g)).trans (Oth.of s_h)).trans (Oth.of s_si)).trans (Oth.of s_ti)).trans (Oth.of s_dj)).trans (Oth.of s_ua)).trans (Oth.of s_ub)).trans (Oth.of s_k)).trans (Oth.of s_o)).trans (Oth.of s_l6)).trans (Oth.of s_p)).trans o_q).trans o_k3).trans (Oth.of s_sh)).trans (Oth.of s_va)).trans (Oth.of s_ts)).trans (Oth.of s_lb)).trans (Oth.of s_vb)).trans (Oth.of s_s)).trans (Oth.of s_l7)).trans (Oth.of s_t)) (Tp.ne h_st (Bx.same b_k s_st)))).ne (Bx.same b_k3 (((((((s_sh.trans s_va).trans s_ts).trans s_lb).trans s_vb).trans s_s).trans s_l7).trans s_t)), .inr ((Tp.oth h_st (((((((((((((((((((((((((((((((((((((((((((((((((((Oth.of s_lo).trans o_r).trans o_w).trans o_f).trans (Oth.of s_z)).trans (Oth.of s_dB)).trans (Oth.of s_lr)).trans (Oth.of s_3)).trans (Oth.of s_th)).trans (Oth.of s_4)).trans (Oth.of s_sp)).trans (Oth.of s_tq)).trans (Oth.of s_td)).trans (Oth.of s_5)).trans (Oth.of s_6)).trans (Oth.of s_lh)).trans (Oth.of s_7)).trans (Oth.of s_l1)).trans (Oth.of s_l2)).trans (Oth.of s_8)).trans (Oth.of s_9)).trans (Oth.of s_s9)).trans (Oth.of s_t9)).trans (Oth.of s_a)).trans (Oth.of s_b)).trans (Oth.of s_c)).trans (Oth.of s_d)).trans (Oth.of s_e)).trans (Oth.of s_l3)).trans (Oth.of s_l4)).trans (Oth.of s_g)).trans (Oth.of s_h)).trans (Oth.of s_si)).trans (Oth.of s_ti)).trans (Oth.of s_dj)).trans (Oth.of s_ua)).trans (Oth.of s_ub)).trans (Oth.of s_k)).trans (Oth.of s_o)).trans (Oth.of s_l6)).trans (Oth.of s_p)).trans o_q).trans o_k3).trans (Oth.of s_sh)).trans (Oth.of s_va)).trans (Oth.of s_ts)).trans (Oth.of s_lb)).trans (Oth.of s_vb)).trans (Oth.of s_s)).trans (Oth.of s_l7)).trans (Oth.of s_t)) (Tp.ne h_st (Bx.same b_k s_st)))).sq, by rw [List.length_map]; omega, fun H_v g2 gs2 c_v ng2 o_v h_g2 gpm2 b_v hcv1 hcv2 => ?_⟩
      rw [List.length_map] at hcv2
      obtain ⟨ms2, rfl, mpm2⟩ := perm_strs gpm2
      have e_g2 : g2 ≠ p := bx_strs b_v h_g2
      refine ⟨.ref p, rfl, .ref st, rfl, st, _, rfl, .inr ((Tp.oth h_st ((((((((((((((((((((((((((((((((((((((((((((((((((((Oth.of s_lo).trans o_r).trans o_w).trans o_f).trans (Oth.of s_z)).trans (Oth.of s_dB)).trans (Oth.of s_lr)).trans (Oth.of s_3)).trans (Oth.of s_th)).trans (Oth.of s_4)).trans (Oth.of s_sp)).trans (Oth.of s_tq)).trans (Oth.of s_td)).trans (Oth.of s_5)).trans (Oth.of s_6)).trans (Oth.of s_lh)).trans (Oth.of s_7)).trans (Oth.of s_l1)).trans (Oth.of s_l2)).trans (Oth.of s_8)).trans (Oth.of s_9)).trans (Oth.of s_s9)).trans (Oth.of s_t9)).trans (Oth.of s_a)).trans (Oth.of s_b)).trans (Oth.of s_c)).trans (Oth.of s_d)).trans (Oth.of s_e)).trans (Oth.of s_l3)).trans (Oth.of s_l4)).trans (Oth.of s_g)).trans (Oth.of s_h)).trans (Oth.of s_si)).trans (Oth.of s_ti)).trans (Oth.of s_dj)).trans (Oth.of s_ua)).trans (Oth.of s_ub)).trans (Oth.of s_k)).trans (Oth.of s_o)).trans (Oth.of s_l6)).trans (Oth.of s_p)).trans o_q).trans o_k3).trans (Oth.of s_sh)).trans (Oth.of s_va)).trans (Oth.of s_ts)).trans (Oth.of s_lb)).trans (Oth.of s_vb)).trans (Oth.of s_s)).trans (Oth.of s_l7)).trans (Oth.of s_t)).trans o_v) (Tp.ne h_st (Bx.same b_k s_st)))).sq, p, _, c_v, rfl, b_v, by omega, (by rw [List.length_map]; show (0 : Int) < ((one.length : Nat) : Int); omega), (by rw [List.length_map]; show ((one.length : Nat) : Int) < 1000000; omega), fun k5 c_k5 ob_k5 h_k50 h_k51 hc1_k5 hc2_k5 b_k5 => ?_⟩
      obtain ⟨k5, rfl⟩ := Int.eq_ofNat_of_zero_le h_k50
      have o_k5 : Oth p H_v (upd H_v p ob_k5) := Oth.put
      generalize (upd H_v p ob_k5) = H_k5 at *
      refine ⟨_, _, rfl, rfl, ?_⟩
      have ek6 : (1 + ((k5 : Nat) : Int)) = (((k5 + 1 : Nat)) : Int) := by omega
      dsimp only
      rw [ek6]
      refine ⟨_, rfl, g2, _, rfl, .inl (.inl (o_k5 _ _ h_g2 e_g2)), fun so nso => ?_⟩
      rw [cutTo, ← List.map_take]
      have sml : (ms2.take (k5 + 1)).length ≤ 12 := by
        have := mpm2.length_eq
        rw [List.length_take]
        omega
      generalize ms2.take (k5 + 1) = sm at *
      have s_so : Same H_k5 (upd H_k5 so (.lst (sm.map V.str))) := same_upd nso
      have h_so : (upd H_k5 so (.lst (sm.map V.str))) so = some (.lst (sm.map V.str)) := upd_same
      have e_so : so ≠ p := (Bx.new b_k5 nso).symm
      generalize (upd H_k5 so (.lst (sm.map V.str))) = H_so at *
      dsimp only [tNext, gName]
      refine sl_cut [some (.ref p), some (.ref u), some (.int ((k + 1 : Nat) : Int)), some (.ref st), some (.ref lo), some (.ref r), some (.ref w), some (.ref f), some (.ref dB), some (.str SH), some (.ref dj), some (.ref ls), some (.ref sh), some (.ref so), none, none, none, none] rfl ?_
      have hLt2 := ((h_r.oth (((((((((((((((((((((((((((((((((((((((((((((((((((o_w.trans o_f).trans (Oth.of s_z)).trans (Oth.of s_dB)).trans (Oth.of s_lr)).trans (Oth.of s_3)).trans (Oth.of s_th)).trans (Oth.of s_4)).trans (Oth.of s_sp)).trans (Oth.of s_tq)).trans (Oth.of s_td)).trans (Oth.of s_5)).trans (Oth.of s_6)).trans (Oth.of s_lh)).trans (Oth.of s_7)).trans (Oth.of s_l1)).trans (Oth.of s_l2)).trans (Oth.of s_8)).trans (Oth.of s_9)).trans (Oth.of s_s9)).trans (Oth.of s_t9)).trans (Oth.of s_a)).trans (Oth.of s_b)).trans (Oth.of s_c)).trans (Oth.of s_d)).trans (Oth.of s_e)).trans (Oth.of s_l3)).trans (Oth.of s_l4)).trans (Oth.of s_g)).trans (Oth.of s_h)).trans (Oth.of s_si)).trans (Oth.of s_ti)).trans (Oth.of s_dj)).trans (Oth.of s_ua)).trans (Oth.of s_ub)).trans (Oth.of s_k)).trans (Oth.of s_o)).trans (Oth.of s_l6)).trans (Oth.of s_p)).trans o_q).trans o_k3).trans (Oth.of s_sh)).trans (Oth.of s_va)).trans (Oth.of s_ts)).trans (Oth.of s_lb)).trans (Oth.of s_vb)).trans (Oth.of s_s)).trans (Oth.of s_l7)).trans (Oth.of s_t)).trans o_v).trans o_k5).trans (Oth.of s_so)) b_r)).trs
      refine ⟨.ref r, rfl, r, rfl, iseq (.inr (hLt2.1).sq) fun J4 wk4 D5 nD5 => lc_prf (ps := trs L) wk4 nD5 (by unfold trs; rw [List.length_map]; omega) (fun H2 s2 => Kp.of s2) (bothIn sm) (fun q H1 hq s1 T F hT hF => ?_) (fun H_w5 s_w5 h_D5 => ?_)⟩
      · have hq2 : H1 q.1 = some (.tup [.str q.2.1, .str q.2.2]) := s1 _ _ (hLt2.2 q hq)
        have hso1 := s1 _ _ h_so
        refine ⟨rfl, .ref q.1, rfl, q.1, _, 0, .str q.2.1, rfl, rfl, .inl (.inl hq2), atI_nat (j := 0) rfl, .ref so, rfl, so, _, rfl, .inl (.inl (.inl hso1)), rfl, strs_all, _, rfl, ?_⟩
        have eb : bothIn sm q.2 = (decide (q.2.1 ∈ sm) && decide (q.2.2 ∈ sm)) := rfl
        rw [if_neg (by decide), inV_strs]
        cases e0 : decide (q.2.1 ∈ sm) with
        | false => exact iteF (iteF (hF (by rw [eb, e0]; rfl) _ (Same.refl _)))
        | true =>
          refine iteT ⟨.ref q.1, rfl, q.1, _, 1, .str q.2.2, rfl, rfl, .inl (.inl hq2), atI_nat (j := 1) rfl, .ref so, rfl, so, _, rfl, .inl (.inl (.inl hso1)), rfl, strs_all, _, rfl, ?_⟩
          rw [if_neg (by decide), inV_strs]
          cases e1 : decide (q.2.2 ∈ sm) with
          | false => exact iteF (hF (by rw [eb, e0, e1]; rfl) _ (Same.refl _))
          | true => exact iteT ⟨.ref q.1, rfl, hT (by rw [eb, e0, e1]; rfl) _ (Same.refl _)⟩
      have at5 : ∀ q ∈ (trs L).filter (fun p => bothIn sm p.2), AtT H_w5 q := fun q hq => s_w5 _ _ (hLt2.2 q (List.mem_filter.mp hq).1)
      have e5s : ((trs L).filter fun p => bothIn sm p.2).map (·.2) = (L.map prOf).filter (bothIn sm) := by
        rw [← trs_snd, List.filter_map]
        rfl
      generalize (trs L).filter (fun p => bothIn sm p.2) = pf at *
      refine ⟨D5, _, rfl, .inl (.inl h_D5), fun tz obtz ntz qtz1 qtz2 => ?_⟩
      have s_tz : Same H_w5 (upd H_w5 tz (.frz obtz (.tup (rfs pf)))) := same_upd ntz
      have h_tz : Tp (upd H_w5 tz (.frz obtz (.tup (rfs pf)))) tz (rfs pf) := ⟨obtz, upd_same, qtz1, qtz2⟩
      generalize (upd H_w5 tz (.frz obtz (.tup (rfs pf)))) = H_tz at *
      dsimp only [tNext, gName]
      refine sl_cut [some (.ref p), some (.ref u), some (.int ((k + 1 : Nat) : Int)), some (.ref st), some (.ref lo), some (.ref r), some (.ref w), some (.ref f), some (.ref dB), some (.str SH), some (.ref tz), some (.ref ls), some (.ref sh), some (.ref so), none, none, none, none] rfl ?_
      refine ⟨.ref st, rfl, st, rfl, iseq (.inr ((Tp.oth h_st ((((((((((((((((((((((((((((((((((((((((((((((((((((((((Oth.of s_lo).trans o_r).trans o_w).trans o_f).trans (Oth.of s_z)).trans (Oth.of s_dB)).trans (Oth.of s_lr)).trans (Oth.of s_3)).trans (Oth.of s_th)).trans (Oth.of s_4)).trans (Oth.of s_sp)).trans (Oth.of s_tq)).trans (Oth.of s_td)).trans (Oth.of s_5)).trans (Oth.of s_6)).trans (Oth.of s_lh)).trans (Oth.of s_7)).trans (Oth.of s_l1)).trans (Oth.of s_l2)).trans (Oth.of s_8)).trans (Oth.of s_9)).trans (Oth.of s_s9)).trans (Oth.of s_t9)).trans (Oth.of s_a)).trans (Oth.of s_b)).trans (Oth.of s_c)).trans (Oth.of s_d)).trans (Oth.of s_e)).trans (Oth.of s_l3)).trans (Oth.of s_l4)).trans (Oth.of s_g)).trans (Oth.of s_h)).trans (Oth.of s_si)).trans (Oth.of s_ti)).trans (Oth.of s_dj)).trans (Oth.of s_ua)).trans (Oth.of s_ub)).trans (Oth.of s_k)).trans (Oth.of s_o)).trans (Oth.of s_l6)).trans (Oth.of s_p)).trans o_q).trans o_k3).trans (Oth.of s_sh)).trans (Oth.of s_va)).trans (Oth.of s_ts)).trans (Oth.of s_lb)).trans (Oth.of s_vb)).trans (Oth.of s_s)).trans (Oth.of s_l7)).trans (Oth.of s_t)).trans o_v).trans o_k5).trans (Oth.of s_so)).trans (Oth.of s_w5)).trans (Oth.of s_tz)) (Tp.ne h_st (Bx.same b_k s_st)))).sq) fun J5 wk5 D6 nD6 => lc_s wk5 nD6 (by omega) (fun H2 s2 => Kp.of s2) (fun z => if inL sm z = true then some (.str z) else none) (fun i z H2 hz2 s2 T F2 hT hF => ?_) (fun H_w6 s_w6 h_D6 => ?_)⟩
      · have hso2 := s2 _ _ ((s_w5.trans s_tz) _ _ h_so)
        refine ⟨rfl, .str z, rfl, .ref so, rfl, so, _, rfl, .inl (.inl (.inl hso2)), rfl, strs_all, _, rfl, ?_⟩
        rw [if_neg (by decide), inV_strs]
        exact ite2 (fun e => ⟨.str z, rfl, hT _ _ (Same.refl _) (if_pos e)⟩) (fun e => hF _ (Same.refl _) (if_neg e))
      rw [fmF] at h_D6
      refine ⟨D6, _, rfl, .inl (.inl h_D6), fun tv obtv ntv qtv1 qtv2 => ?_⟩
      have s_tv : Same H_w6 (upd H_w6 tv (.frz obtv (.tup ((one.filter (inL sm)).map V.str)))) := same_upd ntv
      have h_tv : Tp (upd H_w6 tv (.frz obtv (.tup ((one.filter (inL sm)).map V.str)))) tv ((one.filter (inL sm)).map V.str) := ⟨obtv, upd_same, qtv1, qtv2⟩
      generalize (upd H_w6 tv (.frz obtv (.tup ((one.filter (inL sm)).map V.str)))) = H_tv at *
      refine ⟨.ref tz, rfl, (by decide : (2 : Nat) ≤ sizeLine), fun dz ndz => ?_⟩
      have s_dz : Same H_tv (upd H_tv dz (.tup [.ref tv, .ref tz])) := same_upd ndz
      have h_dz : (upd H_tv dz (.tup [.ref tv, .ref tz])) dz = some (.tup [.ref tv, .ref tz]) := upd_same
      have e_dz : dz ≠ p := (Bx.new (Bx.same b_k5 ((((s_so.trans s_w5).trans s_tz).trans s_w6).trans s_tv)) ndz).symm
      generalize (upd H_tv dz (.tup [.ref tv, .ref tz])) = H_dz at *
      dsimp only [tNext, gName]
      refine sl_cut [some (.ref p), some (.ref u), some (.int ((k + 1 : Nat) : Int)), some (.ref st), some (.ref lo), some (.ref r), some (.ref w), some (.ref f), some (.ref dB), some (.str SH), some (.ref dz), some (.ref ls), some (.ref sh), some (.ref so), none, none, none, none] rfl ?_
      refine ⟨.ref st, rfl, .ref r, rfl, .ref so, rfl, st, r, so, one, sm, _, rfl, .inr (Tp.oth h_st (((((((((((((((((((((((((((((((((((((((((((((((((((((((((((Oth.of s_lo).trans o_r).trans o_w).trans o_f).trans (Oth.of s_z)).trans (Oth.of s_dB)).trans (Oth.of s_lr)).trans (Oth.of s_3)).trans (Oth.of s_th)).trans (Oth.of s_4)).trans (Oth.of s_sp)).trans (Oth.of s_tq)).trans (Oth.of s_td)).trans (Oth.of s_5)).trans (Oth.of s_6)).trans (Oth.of s_lh)).trans (Oth.of s_7)).trans (Oth.of s_l1)).trans (Oth.of s_l2)).trans (Oth.of s_8)).trans (Oth.of s_9)).trans (Oth.of s_s9)).trans (Oth.of s_t9)).trans (Oth.of s_a)).trans (Oth.of s_b)).trans (Oth.of s_c)).trans (Oth.of s_d)).trans (Oth.of s_e)).trans (Oth.of s_l3)).trans (Oth.of s_l4)).trans (Oth.of s_g)).trans (Oth.of s_h)).trans (Oth.of s_si)).trans (Oth.of s_ti)).trans (Oth.of s_dj)).trans (Oth.of s_ua)).trans (Oth.of s_ub)).trans (Oth.of s_k)).trans (Oth.of s_o)).trans (Oth.of s_l6)).trans (Oth.of s_p)).trans o_q).trans o_k3).trans (Oth.of s_sh)).trans (Oth.of s_va)).trans (Oth.of s_ts)).trans (Oth.of s_lb)).trans (Oth.of s_vb)).trans (Oth.of s_s)).trans (Oth.of s_l7)).trans (Oth.of s_t)).trans o_v).trans o_k5).trans (Oth.of s_so)).trans (Oth.of s_w5)).trans (Oth.of s_tz)).trans (Oth.of s_w6)).trans (Oth.of s_tv)).trans (Oth.of s_dz)) (Tp.ne h_st (Bx.same b_k s_st))), Pqs.ofT ((h_r.oth ((((((((((((((((((((((((((((((((((((((((((((((((((((((((o_w.trans o_f).trans (Oth.of s_z)).trans (Oth.of s_dB)).trans (Oth.of s_lr)).trans (Oth.of s_3)).trans (Oth.of s_th)).trans (Oth.of s_4)).trans (Oth.of s_sp)).trans (Oth.of s_tq)).trans (Oth.of s_td)).trans (Oth.of s_5)).trans (Oth.of s_6)).trans (Oth.of s_lh)).trans (Oth.of s_7)).trans (Oth.of s_l1)).trans (Oth.of s_l2)).trans (Oth.of s_8)).trans (Oth.of s_9)).trans (Oth.of s_s9)).trans (Oth.of s_t9)).trans (Oth.of s_a)).trans (Oth.of s_b)).trans (Oth.of s_c)).trans (Oth.of s_d)).trans (Oth.of s_e)).trans (Oth.of s_l3)).trans (Oth.of s_l4)).trans (Oth.of s_g)).trans (Oth.of s_h)).trans (Oth.of s_si)).trans (Oth.of s_ti)).trans (Oth.of s_dj)).trans (Oth.of s_ua)).trans (Oth.of s_ub)).trans (Oth.of s_k)).trans (Oth.of s_o)).trans (Oth.of s_l6)).trans (Oth.of s_p)).trans o_q).trans o_k3).trans (Oth.of s_sh)).trans (Oth.of s_va)).trans (Oth.of s_ts)).trans (Oth.of s_lb)).trans (Oth.of s_vb)).trans (Oth.of s_s)).trans (Oth.of s_l7)).trans (Oth.of s_t)).trans o_v).trans o_k5).trans (Oth.of s_so)).trans (Oth.of s_w5)).trans (Oth.of s_tz)).trans (Oth.of s_w6)).trans (Oth.of s_tv)).trans (Oth.of s_dz)) b_r)).pq, .inl (.inl (.inl (((((s_w5.trans s_tz).trans s_w6).trans s_tv).trans s_dz) _ _ h_so))), by omega, by rw [List.length_map]; omega, fun H_x1 tA thA ttA pA s_x1 h_tA h_thA h_ttA a_A pmA pwA => ?_⟩
      refine ⟨.ref so, rfl, so, _, rfl, .inl (.inl ((((((s_w5.trans s_tz).trans s_w6).trans s_tv).trans s_dz).trans s_x1) _ _ h_so)), fun tB obtB ntB qtB1 qtB2 => ?_⟩
      have s_tB : Same H_x1 (upd H_x1 tB (.frz obtB (.tup (sm.map V.str)))) := same_upd ntB
      have h_tB : Tp (upd H_x1 tB (.frz obtB (.tup (sm.map V.str)))) tB (sm.map V.str) := ⟨obtB, upd_same, qtB1, qtB2⟩
      generalize (upd H_x1 tB (.frz obtB (.tup (sm.map V.str)))) = H_tB at *
      refine ⟨.ref r, rfl, .ref r, dTies L, rfl, ((h_r.oth ((((((((((((((((((((((((((((((((((((((((((((((((((((((((((o_w.trans o_f).trans (Oth.of s_z)).trans (Oth.of s_dB)).trans (Oth.of s_lr)).trans (Oth.of s_3)).trans (Oth.of s_th)).trans (Oth.of s_4)).trans (Oth.of s_sp)).trans (Oth.of s_tq)).trans (Oth.of s_td)).trans (Oth.of s_5)).trans (Oth.of s_6)).trans (Oth.of s_lh)).trans (Oth.of s_7)).trans (Oth.of s_l1)).trans (Oth.of s_l2)).trans (Oth.of s_8)).trans (Oth.of s_9)).trans (Oth.of s_s9)).trans (Oth.of s_t9)).trans (Oth.of s_a)).trans (Oth.of s_b)).trans (Oth.of s_c)).trans (Oth.of s_d)).trans (Oth.of s_e)).trans (Oth.of s_l3)).trans (Oth.of s_l4)).trans (Oth.of s_g)).trans (Oth.of s_h)).trans (Oth.of s_si)).trans (Oth.of s_ti)).trans (Oth.of s_dj)).trans (Oth.of s_ua)).trans (Oth.of s_ub)).trans (Oth.of s_k)).trans (Oth.of s_o)).trans (Oth.of s_l6)).trans (Oth.of s_p)).trans o_q).trans o_k3).trans (Oth.of s_sh)).trans (Oth.of s_va)).trans (Oth.of s_ts)).trans (Oth.of s_lb)).trans (Oth.of s_vb)).trans (Oth.of s_s)).trans (Oth.of s_l7)).trans (Oth.of s_t)).trans o_v).trans o_k5).trans (Oth.of s_so)).trans (Oth.of s_w5)).trans (Oth.of s_tz)).trans (Oth.of s_w6)).trans (Oth.of s_tv)).trans (Oth.of s_dz)).trans (Oth.of s_x1)).trans (Oth.of s_tB)) b_r)).dp, Nat.le_trans (ties_depth L) (by decide), ties_wide okp0 (by omega), fun H_x2 yx s_x2 hnwx => ?_⟩
      obtain ⟨rq, rfl, nrq, h_rq⟩ := nw_pq (K := K) hnwx okp0
      refine ⟨.ref st, rfl, st, _, rfl, .inr ((Tp.oth h_st ((((((((((((((((((((((((((((((((((((((((((((((((((((((((((((((Oth.of s_lo).trans o_r).trans o_w).trans o_f).trans (Oth.of s_z)).trans (Oth.of s_dB)).trans (Oth.of s_lr)).trans (Oth.of s_3)).trans (Oth.of s_th)).trans (Oth.of s_4)).trans (Oth.of s_sp)).trans (Oth.of s_tq)).trans (Oth.of s_td)).trans (Oth.of s_5)).trans (Oth.of s_6)).trans (Oth.of s_lh)).trans (Oth.of s_7)).trans (Oth.of s_l1)).trans (Oth.of s_l2)).trans (Oth.of s_8)).trans (Oth.of s_9)).trans (Oth.of s_s9)).trans (Oth.of s_t9)).trans (Oth.of s_a)).trans (Oth.of s_b)).trans (Oth.of s_c)).trans (Oth.of s_d)).trans (Oth.of s_e)).trans (Oth.of s_l3)).trans (Oth.of s_l4)).trans (Oth.of s_g)).trans (Oth.of s_h)).trans (Oth.of s_si)).trans (Oth.of s_ti)).trans (Oth.of s_dj)).trans (Oth.of s_ua)).trans (Oth.of s_ub)).trans (Oth.of s_k)).trans (Oth.of s_o)).trans (Oth.of s_l6)).trans (Oth.of s_p)).trans o_q).trans o_k3).trans (Oth.of s_sh)).trans (Oth.of s_va)).trans (Oth.of s_ts)).trans (Oth.of s_lb)).trans (Oth.of s_vb)).trans (Oth.of s_s)).trans (Oth.of s_l7)).trans (Oth.of s_t)).trans o_v).trans o_k5).trans (Oth.of s_so)).trans (Oth.of s_w5)).trans (Oth.of s_tz)).trans (Oth.of s_w6)).trans (Oth.of s_tv)).trans (Oth.of s_dz)).trans (Oth.of s_x1)).trans (Oth.of s_tB)).trans (Oth.of s_x2)) (Tp.ne h_st (Bx.same b_k s_st)))).sq, fun lq nlq => ?_⟩
      have s_lq : Same H_x2 (upd H_x2 lq (.lst (one.map V.str))) := same_upd nlq
      have h_lq : (upd H_x2 lq (.lst (one.map V.str))) lq = some (.lst (one.map V.str)) := upd_same
      have e_lq : lq ≠ p := (Bx.new (Bx.same b_k5 ((((((((s_so.trans s_w5).trans s_tz).trans s_w6).trans s_tv).trans s_dz).trans s_x1).trans s_tB).trans s_x2)) nlq).symm
      generalize (upd H_x2 lq (.lst (one.map V.str))) = H_lq at *
      refine ⟨lq, rq, tB, one, sm, _, rfl, .inl (.inl (.inl h_lq)), pqs_ll (h_rq.same s_lq), .inr ((tpS h_tB (s_x2.trans s_lq))).sq, by omega, by rw [List.length_map]; omega, fun H_x3 tC thC ttC pC s_x3 h_tC h_thC h_ttC a_C pmC pwC => ?_⟩
      refine ⟨(by decide : (2 : Nat) ≤ sizeLine), fun l8 nl8 => ?_⟩
      have s_l8 : Same H_x3 (upd H_x3 l8 (.lst [.ref tA, .ref tC])) := same_upd nl8
      have h_l8 : (upd H_x3 l8 (.lst [.ref tA, .ref tC])) l8 = some (.lst [.ref tA, .ref tC]) := upd_same
      have e_l8 : l8 ≠ p := (Bx.new (Bx.same b_k5 ((((((((((s_so.trans s_w5).trans s_tz).trans s_w6).trans s_tv).trans s_dz).trans s_x1).trans s_tB).trans s_x2).trans s_lq).trans s_x3)) nl8).symm
      generalize (upd H_x3 l8 (.lst [.ref tA, .ref tC])) = H_l8 at *
      dsimp only [tNext, gName]
      refine sl_cut [some (.ref p), some (.ref u), some (.int ((k + 1 : Nat) : Int)), some (.ref st), some (.ref lo), some (.ref r), some (.ref w), some (.ref f), some (.ref dB), some (.str SH), some (.ref dz), some (.ref l8), some (.ref sh), some (.ref so), none, none, none, none] rfl ?_
      refine ⟨.ref l8, rfl, .ref dz, rfl, .ref dz, rfl, (by decide : (2 : Nat) ≤ sizeLine), fun l9 nl9 => ?_⟩
      have s_l9 : Same H_l8 (upd H_l8 l9 (.lst [.ref dz, .ref dz])) := same_upd nl9
      have h_l9 : (upd H_l8 l9 (.lst [.ref dz, .ref dz])) l9 = some (.lst [.ref dz, .ref dz]) := upd_same
      have e_l9 : l9 ≠ p := (Bx.new (Bx.same b_k5 (((((((((((s_so.trans s_w5).trans s_tz).trans s_w6).trans s_tv).trans s_dz).trans s_x1).trans s_tB).trans s_x2).trans s_lq).trans s_x3).trans s_l8)) nl9).symm
      generalize (upd H_l8 l9 (.lst [.ref dz, .ref dz])) = H_l9 at *
      have eA : pA.map (·.2) = pf.map (·.2) := leP_one (by rw [e5s]; exact pmA) pwA (by rw [e5s]; exact le0.filter _)
      have eC : pC.map (·.2) = pf.map (·.2) := leP_one (by rw [e5s]; exact pmC) pwC (by rw [e5s]; exact le0.filter _)
      have qdf : ∀ q ∈ pf.map (·.2), Nm q.1 ∧ Nm q.2 := fun q hq => qn0 q (by rw [e5s] at hq; exact (List.mem_filter.mp hq).1)
      have plf : (pf.map (·.2)).length ≤ 144 := by
        rw [e5s]
        exact Nat.le_trans (List.length_filter_le _ _) (by rw [List.length_map]; exact hLl)
      have f7 := fine_hq (zs := one.filter (inL sm)) (fun z hz => nm1 z (List.mem_filter.mp hz).1) qdf (Nat.le_trans (List.length_filter_le _ _) (by omega)) (by omega)
      have f8 := fine_l2 f7 f7
      refine ⟨.ref l8, .ref l9, _, rfl, ltwo_dp (s_l9 _ _ h_l8) (two_dp ((((((s_tB.trans s_x2).trans s_lq).trans s_x3).trans s_l8).trans s_l9) _ _ h_tA) (.tup ((tpS h_thA (((((s_tB.trans s_x2).trans s_lq).trans s_x3).trans s_l8).trans s_l9))).sq (dp_strs _)) (tpP_dp (tpS h_ttA (((((s_tB.trans s_x2).trans s_lq).trans s_x3).trans s_l8).trans s_l9)) (fun x hx => (((((s_tB.trans s_x2).trans s_lq).trans s_x3).trans s_l8).trans s_l9) _ _ (a_A x hx)) eA)) (two_dp ((s_l8.trans s_l9) _ _ h_tC) (.tup ((tpS h_thC (s_l8.trans s_l9))).sq (dp_strs _)) (tpP_dp (tpS h_ttC (s_l8.trans s_l9)) (fun x hx => (s_l8.trans s_l9) _ _ (a_C x hx)) eC)), ltwo_dp h_l9 (two_dp (((((((s_x1.trans s_tB).trans s_x2).trans s_lq).trans s_x3).trans s_l8).trans s_l9) _ _ h_dz) (.tup ((tpS h_tv (((((((s_dz.trans s_x1).trans s_tB).trans s_x2).trans s_lq).trans s_x3).trans s_l8).trans s_l9))).sq (dp_strs _)) (tpP_dp (tpS h_tz (((((((((s_w6.trans s_tv).trans s_dz).trans s_x1).trans s_tB).trans s_x2).trans s_lq).trans s_x3).trans s_l8).trans s_l9)) (fun x hx => ((((((((((s_tz.trans s_w6).trans s_tv).trans s_dz).trans s_x1).trans s_tB).trans s_x2).trans s_lq).trans s_x3).trans s_l8).trans s_l9) _ _ (at5 x hx)) rfl)) (two_dp (((((((s_x1.trans s_tB).trans s_x2).trans s_lq).trans s_x3).trans s_l8).trans s_l9) _ _ h_dz) (.tup ((tpS h_tv (((((((s_dz.trans s_x1).trans s_tB).trans s_x2).trans s_lq).trans s_x3).trans s_l8).trans s_l9))).sq (dp_strs _)) (tpP_dp (tpS h_tz (((((((((s_w6.trans s_tv).trans s_dz).trans s_x1).trans s_tB).trans s_x2).trans s_lq).trans s_x3).trans s_l8).trans s_l9)) (fun x hx => ((((((((((s_tz.trans s_w6).trans s_tv).trans s_dz).trans s_x1).trans s_tB).trans s_x2).trans s_lq).trans s_x3).trans s_l8).trans s_l9) _ _ (at5 x hx)) rfl)), f8.lay, f8.dep, Nat.le_trans f8.dep (by decide), Nat.le_trans f8.wid (by decide), fun H_y1 s_y1 => ⟨_, rfl, iteT ?_⟩⟩
      refine ⟨.ref st, rfl, .ref lo, rfl, .ref r, rfl, .ref w, rfl, .ref dB, rfl, (by decide : (5 : Nat) ≤ sizeLine), fun lr2 nlr2 mlr2 => ?_⟩
      have s_lr2 : Same H_y1 (upd H_y1 lr2 (.lst [.ref st, .ref lo, .ref r, .ref w, .ref dB])) := same_upd nlr2
      have h_lr2 : (upd H_y1 lr2 (.lst [.ref st, .ref lo, .ref r, .ref w, .ref dB])) lr2 = some (.lst [.ref st, .ref lo, .ref r, .ref w, .ref dB]) := upd_same
      have e_lr2 : lr2 ≠ p := (Bx.new (Bx.same b_k5 (((((((((((((s_so.trans s_w5).trans s_tz).trans s_w6).trans s_tv).trans s_dz).trans s_x1).trans s_tB).trans s_x2).trans s_lq).trans s_x3).trans s_l8).trans s_l9).trans s_y1)) nlr2).symm
      generalize (upd H_y1 lr2 (.lst [.ref st, .ref lo, .ref r, .ref w, .ref dB])) = H_lr2 at *
      refine ⟨lr2, dB, [.ref st, .ref lo, .ref r, .ref w], _, _, rfl, h_lr2, mlr2, .cons (.tup ((Tp.oth h_st ((((((((((((((((((((((((((((((((((((((((((((((((((((((((((((((((((((Oth.of s_lo).trans o_r).trans o_w).trans o_f).trans (Oth.of s_z)).trans (Oth.of s_dB)).trans (Oth.of s_lr)).trans (Oth.of s_3)).trans (Oth.of s_th)).trans (Oth.of s_4)).trans (Oth.of s_sp)).trans (Oth.of s_tq)).trans (Oth.of s_td)).trans (Oth.of s_5)).trans (Oth.of s_6)).trans (Oth.of s_lh)).trans (Oth.of s_7)).trans (Oth.of s_l1)).trans (Oth.of s_l2)).trans (Oth.of s_8)).trans (Oth.of s_9)).trans (Oth.of s_s9)).trans (Oth.of s_t9)).trans (Oth.of s_a)).trans (Oth.of s_b)).trans (Oth.of s_c)).trans (Oth.of s_d)).trans (Oth.of s_e)).trans (Oth.of s_l3)).trans (Oth.of s_l4)).trans (Oth.of s_g)).trans (Oth.of s_h)).trans (Oth.of s_si)).trans (Oth.of s_ti)).trans (Oth.of s_dj)).trans (Oth.of s_ua)).trans (Oth.of s_ub)).trans (Oth.of s_k)).trans (Oth.of s_o)).trans (Oth.of s_l6)).trans (Oth.of s_p)).trans o_q).trans o_k3).trans (Oth.of s_sh)).trans (Oth.of s_va)).trans (Oth.of s_ts)).trans (Oth.of s_lb)).trans (Oth.of s_vb)).trans (Oth.of s_s)).trans (Oth.of s_l7)).trans (Oth.of s_t)).trans o_v).trans o_k5).trans (Oth.of s_so)).trans (Oth.of s_w5)).trans (Oth.of s_tz)).trans (Oth.of s_w6)).trans (Oth.of s_tv)).trans (Oth.of s_dz)).trans (Oth.of s_x1)).trans (Oth.of s_tB)).trans (Oth.of s_x2)).trans (Oth.of s_lq)).trans (Oth.of s_x3)).trans (Oth.of s_l8)).trans (Oth.of s_l9)).trans (Oth.of s_y1)).trans (Oth.of s_lr2)) (Tp.ne h_st (Bx.same b_k s_st)))).sq (dp_strs _)) (.cons (.tup ((Tp.oth h_lo ((((((((((((((((((((((((((((((((((((((((((((((((((((((((((((((((((o_r.trans o_w).trans o_f).trans (Oth.of s_z)).trans (Oth.of s_dB)).trans (Oth.of s_lr)).trans (Oth.of s_3)).trans (Oth.of s_th)).trans (Oth.of s_4)).trans (Oth.of s_sp)).trans (Oth.of s_tq)).trans (Oth.of s_td)).trans (Oth.of s_5)).trans (Oth.of s_6)).trans (Oth.of s_lh)).trans (Oth.of s_7)).trans (Oth.of s_l1)).trans (Oth.of s_l2)).trans (Oth.of s_8)).trans (Oth.of s_9)).trans (Oth.of s_s9)).trans (Oth.of s_t9)).trans (Oth.of s_a)).trans (Oth.of s_b)).trans (Oth.of s_c)).trans (Oth.of s_d)).trans (Oth.of s_e)).trans (Oth.of s_l3)).trans (Oth.of s_l4)).trans (Oth.of s_g)).trans (Oth.of s_h)).trans (Oth.of s_si)).trans (Oth.of s_ti)).trans (Oth.of s_dj)).trans (Oth.of s_ua)).trans (Oth.of s_ub)).trans (Oth.of s_k)).trans (Oth.of s_o)).trans (Oth.of s_l6)).trans (Oth.of s_p)).trans o_q).trans o_k3).trans (Oth.of s_sh)).trans (Oth.of s_va)).trans (Oth.of s_ts)).trans (Oth.of s_lb)).trans (Oth.of s_vb)).trans (Oth.of s_s)).trans (Oth.of s_l7)).trans (Oth.of s_t)).trans o_v).trans o_k5).trans (Oth.of s_so)).trans (Oth.of s_w5)).trans (Oth.of s_tz)).trans (Oth.of s_w6)).trans (Oth.of s_tv)).trans (Oth.of s_dz)).trans (Oth.of s_x1)).trans (Oth.of s_tB)).trans (Oth.of s_x2)).trans (Oth.of s_lq)).trans (Oth.of s_x3)).trans (Oth.of s_l8)).trans (Oth.of s_l9)).trans (Oth.of s_y1)).trans (Oth.of s_lr2)) (Tp.ne h_lo (Bx.same b_k (s_st.trans s_lo))))).sq (dp_strs _)) (.cons ((h_r.oth (((((((((((((((((((((((((((((((((((((((((((((((((((((((((((((((((o_w.trans o_f).trans (Oth.of s_z)).trans (Oth.of s_dB)).trans (Oth.of s_lr)).trans (Oth.of s_3)).trans (Oth.of s_th)).trans (Oth.of s_4)).trans (Oth.of s_sp)).trans (Oth.of s_tq)).trans (Oth.of s_td)).trans (Oth.of s_5)).trans (Oth.of s_6)).trans (Oth.of s_lh)).trans (Oth.of s_7)).trans (Oth.of s_l1)).trans (Oth.of s_l2)).trans (Oth.of s_8)).trans (Oth.of s_9)).trans (Oth.of s_s9)).trans (Oth.of s_t9)).trans (Oth.of s_a)).trans (Oth.of s_b)).trans (Oth.of s_c)).trans (Oth.of s_d)).trans (Oth.of s_e)).trans (Oth.of s_l3)).trans (Oth.of s_l4)).trans (Oth.of s_g)).trans (Oth.of s_h)).trans (Oth.of s_si)).trans (Oth.of s_ti)).trans (Oth.of s_dj)).trans (Oth.of s_ua)).trans (Oth.of s_ub)).trans (Oth.of s_k)).trans (Oth.of s_o)).trans (Oth.of s_l6)).trans (Oth.of s_p)).trans o_q).trans o_k3).trans (Oth.of s_sh)).trans (Oth.of s_va)).trans (Oth.of s_ts)).trans (Oth.of s_lb)).trans (Oth.of s_vb)).trans (Oth.of s_s)).trans (Oth.of s_l7)).trans (Oth.of s_t)).trans o_v).trans o_k5).trans (Oth.of s_so)).trans (Oth.of s_w5)).trans (Oth.of s_tz)).trans (Oth.of s_w6)).trans (Oth.of s_tv)).trans (Oth.of s_dz)).trans (Oth.of s_x1)).trans (Oth.of s_tB)).trans (Oth.of s_x2)).trans (Oth.of s_lq)).trans (Oth.of s_x3)).trans (Oth.of s_l8)).trans (Oth.of s_l9)).trans (Oth.of s_y1)).trans (Oth.of s_lr2)) b_r)).dpq (.cons ((h_w.oth ((((((((((((((((((((((((((((((((((((((((((((((((((((((((((((((((o_f.trans (Oth.of s_z)).trans (Oth.of s_dB)).trans (Oth.of s_lr)).trans (Oth.of s_3)).trans (Oth.of s_th)).trans (Oth.of s_4)).trans (Oth.of s_sp)).trans (Oth.of s_tq)).trans (Oth.of s_td)).trans (Oth.of s_5)).trans (Oth.of s_6)).trans (Oth.of s_lh)).trans (Oth.of s_7)).trans (Oth.of s_l1)).trans (Oth.of s_l2)).trans (Oth.of s_8)).trans (Oth.of s_9)).trans (Oth.of s_s9)).trans (Oth.of s_t9)).trans (Oth.of s_a)).trans (Oth.of s_b)).trans (Oth.of s_c)).trans (Oth.of s_d)).trans (Oth.of s_e)).trans (Oth.of s_l3)).trans (Oth.of s_l4)).trans (Oth.of s_g)).trans (Oth.of s_h)).trans (Oth.of s_si)).trans (Oth.of s_ti)).trans (Oth.of s_dj)).trans (Oth.of s_ua)).trans (Oth.of s_ub)).trans (Oth.of s_k)).trans (Oth.of s_o)).trans (Oth.of s_l6)).trans (Oth.of s_p)).trans o_q).trans o_k3).trans (Oth.of s_sh)).trans (Oth.of s_va)).trans (Oth.of s_ts)).trans (Oth.of s_lb)).trans (Oth.of s_vb)).trans (Oth.of s_s)).trans (Oth.of s_l7)).trans (Oth.of s_t)).trans o_v).trans o_k5).trans (Oth.of s_so)).trans (Oth.of s_w5)).trans (Oth.of s_tz)).trans (Oth.of s_w6)).trans (Oth.of s_tv)).trans (Oth.of s_dz)).trans (Oth.of s_x1)).trans (Oth.of s_tB)).trans (Oth.of s_x2)).trans (Oth.of s_lq)).trans (Oth.of s_x3)).trans (Oth.of s_l8)).trans (Oth.of s_l9)).trans (Oth.of s_y1)).trans (Oth.of s_lr2)) b_w)).dpq .nil))), hfl, (((((((((((((((((((((((((((((((((((((((((((((((((((((((((((((((Oth.of s_lr).trans (Oth.of s_3)).trans (Oth.of s_th)).trans (Oth.of s_4)).trans (Oth.of s_sp)).trans (Oth.of s_tq)).trans (Oth.of s_td)).trans (Oth.of s_5)).trans (Oth.of s_6)).trans (Oth.of s_lh)).trans (Oth.of s_7)).trans (Oth.of s_l1)).trans (Oth.of s_l2)).trans (Oth.of s_8)).trans (Oth.of s_9)).trans (Oth.of s_s9)).trans (Oth.of s_t9)).trans (Oth.of s_a)).trans (Oth.of s_b)).trans (Oth.of s_c)).trans (Oth.of s_d)).trans (Oth.of s_e)).trans (Oth.of s_l3)).trans (Oth.of s_l4)).trans (Oth.of s_g)).trans (Oth.of s_h)).trans (Oth.of s_si)).trans (Oth.of s_ti)).trans (Oth.of s_dj)).trans (Oth.of s_ua)).trans (Oth.of s_ub)).trans (Oth.of s_k)).trans (Oth.of s_o)).trans (Oth.of s_l6)).trans (Oth.of s_p)).trans o_q).trans o_k3).trans (Oth.of s_sh)).trans (Oth.of s_va)).trans (Oth.of s_ts)).trans (Oth.of s_lb)).trans (Oth.of s_vb)).trans (Oth.of s_s)).trans (Oth.of s_l7)).trans (Oth.of s_t)).trans o_v).trans o_k5).trans (Oth.of s_so)).trans (Oth.of s_w5)).trans (Oth.of s_tz)).trans (Oth.of s_w6)).trans (Oth.of s_tv)).trans (Oth.of s_dz)).trans (Oth.of s_x1)).trans (Oth.of s_tB)).trans (Oth.of s_x2)).trans (Oth.of s_lq)).trans (Oth.of s_x3)).trans (Oth.of s_l8)).trans (Oth.of s_l9)).trans (Oth.of s_y1)).trans (Oth.of s_lr2)) _ _ h_dB e_dB), m1, m2, (by rw [eS]; exact m3), ?_⟩
      rw [eS]
      refine ⟨.str SH, rfl, rfl, ?_⟩
      rw [decide_eq_true rfl]
      exact q _ _ ((((((((((((((((((((((((((((((((((((((((((((((((((((((((((((((((((((((o_u.trans o_k).trans (Oth.of s_st)).trans (Oth.of s_lo)).trans o_r).trans o_w).trans o_f).trans (Oth.of s_z)).trans (Oth.of s_dB)).trans (Oth.of s_lr)).trans (Oth.of s_3)).trans (Oth.of s_th)).trans (Oth.of s_4)).trans (Oth.of s_sp)).trans (Oth.of s_tq)).trans (Oth.of s_td)).trans (Oth.of s_5)).trans (Oth.of s_6)).trans (Oth.of s_lh)).trans (Oth.of s_7)).trans (Oth.of s_l1)).trans (Oth.of s_l2)).trans (Oth.of s_8)).trans (Oth.of s_9)).trans (Oth.of s_s9)).trans (Oth.of s_t9)).trans (Oth.of s_a)).trans (Oth.of s_b)).trans (Oth.of s_c)).trans (Oth.of s_d)).trans (Oth.of s_e)).trans (Oth.of s_l3)).trans (Oth.of s_l4)).trans (Oth.of s_g)).trans (Oth.of s_h)).trans (Oth.of s_si)).trans (Oth.of s_ti)).trans (Oth.of s_dj)).trans (Oth.of s_ua)).trans (Oth.of s_ub)).trans (Oth.of s_k)).trans (Oth.of s_o)).trans (Oth.of s_l6)).trans (Oth.of s_p)).trans o_q).trans o_k3).trans (Oth.of s_sh)).trans (Oth.of s_va)).trans (Oth.of s_ts)).trans (Oth.of s_lb)).trans (Oth.of s_vb)).trans (Oth.of s_s)).trans (Oth.of s_l7)).trans (Oth.of s_t)).trans o_v).trans o_k5).trans (Oth.of s_so)).trans (Oth.of s_w5)).trans (Oth.of s_tz)).trans (Oth.of s_w6)).trans (Oth.of s_tv)).trans (Oth.of s_dz)).trans (Oth.of s_x1)).trans (Oth.of s_tB)).trans (Oth.of s_x2)).trans (Oth.of s_lq)).trans (Oth.of s_x3)).trans (Oth.of s_l8)).trans (Oth.of s_l9)).trans (Oth.of s_y1)).trans (Oth.of s_lr2)) (Bx.same b_k5 ((((((((((((((s_so.trans s_w5).trans s_tz).trans s_w6).trans s_tv).trans s_dz).trans s_x1).trans s_tB).trans s_x2).trans s_lq).trans s_x3).trans s_l8).trans s_l9).trans s_y1).trans s_lr2)) (by omega) (by omega)
    · skip
      refine ⟨.ref p, rfl, p, _, c_w, rfl, b_w, by omega, by decide, by decide, fun k2 c_k2 ob_k2 h_k20 h_k21 hc1_k2 hc2_k2 b_k2 => ?_⟩
      obtain ⟨k2, rfl⟩ := Int.eq_ofNat_of_zero_le h_k20
      have o_k2 : Oth p H_w (upd H_w p ob_k2) := Oth.put
      generalize (upd H_w p ob_k2) = H_k2 at *
      refine ⟨rfl, _, rfl, ?_⟩
      refine ite2 (fun _ => ?_) (fun _ => ?_)
      · refine ⟨.ref p, rfl, .ref p, rfl, .ref st, rfl, st, _, rfl, .inr ((Tp.oth h_st ((((Oth.of s_lo).trans o_r).trans o_w).trans o_k2) (Tp.ne h_st (Bx.same b_k s_st)))).sq, p, c_k2, _, rfl, b_k2, by omega, by rw [List.length_map]; omega, fun H_n nl ns c_n nnl o_n h_n nsl nsnd nsnm nss b_n hcn1 hcn2 => ?_⟩
        rw [List.length_map] at nsl hcn2
        have e_n : nl ≠ p := bx_strs b_n h_n
        refine ⟨p, nl, c_n, _, rfl, b_n, by omega, e_n, .inl (.inl (.inl h_n)), by rw [List.length_map]; omega, fun H_g g gs c_g ng o_g h_g0 gpm b_g hcg1 hcg2 => ?_⟩
        rw [List.length_map] at hcg2
        obtain ⟨ys, rfl, ypm⟩ := perm_strs gpm
        exact cont (.ref g) H_g ⟨g, ys, c_g, rfl, ((o_k2.trans o_n).trans o_g), h_g0, by rw [ypm.length_eq, nsl], fun y hy => nsnm y (ypm.mem_iff.mp hy), b_g, by omega, by omega⟩
      · refine ⟨.ref p, rfl, .ref st, rfl, p, st, c_k2, _, rfl, b_k2, by omega, ((Tp.oth h_st ((((Oth.of s_lo).trans o_r).trans o_w).trans o_k2) (Tp.ne h_st (Bx.same b_k s_st)))).ne b_k2, .inr ((Tp.oth h_st ((((Oth.of s_lo).trans o_r).trans o_w).trans o_k2) (Tp.ne h_st (Bx.same b_k s_st)))).sq, by rw [List.length_map]; omega, fun H_g g gs c_g ng o_g h_g0 gpm b_g hcg1 hcg2 => ?_⟩
        rw [List.length_map] at hcg2
        obtain ⟨ys, rfl, ypm⟩ := perm_strs gpm
        exact cont (.ref g) H_g ⟨g, ys, c_g, rfl, (o_k2.trans o_g), h_g0, ypm.length_eq, fun y hy => nm1 y (ypm.mem_iff.mp hy), b_g, by omega, by omega⟩
end
end HF
namespace HF
open PySem PySem.Spec PyProof.Rows L2
abbrev nLaw : List Str := ["_law_script", "_law_boxes", "_law_k", "_law_box_here"]
theorem scLaw : FnScope nLaw ["_law_script"] (defScope sLaw) := ⟨rfl, rfl, rfl, by decide +kernel, rfl, by decide +kernel, by decide +kernel⟩
section
variable {P : Program} {w : World} {K : PySem.W.Frag} {mg : Str → Option Value} {base : Heap}
theorem ok_law {f : Addr} {fd : FuncData} (F : Fun K "law" "law" sLaw f fd) (t : TX K mg) : FnG P w K mg base CX0 7 f fd ["_law_script"] (spLaw K) := by
  have GB : FnOk P w K mg base CX0 1 t.fB t.dB ["_law_script", "_law_k"] (spBox K) := ok_box t.FB t.m_len t.m_abs t.m_int
  have GQ : FnG P w K mg base CX0 6 t.fQ t.dQ ["_law_box_here"] spRight := ok_right t
  refine okG F scLaw (fun vs H Q E h => ?_) (fun cdv A outer s H vs Q E gd hr h => ?_)
  · obtain ⟨a, ns, rfl, _⟩ := h
    rfl
  · obtain ⟨a, ns, rfl, hS, hlen, q⟩ := h
    have r1 := hr.mono (show 1 ≤ 6 by decide)
    refine ⟨_, pss_cons (ps_setLc (i := 1) (own := [("_law_k", 2)]) (g := gName 2) (tt := tYes) rfl scLaw.nd rfl rfl (sw_true rfl rfl rfl (by decide +kernel))
        (pi_range1 (by rfl) t.m_range (pa_cons (pe_op op_add pe_int (pe_callB (call_min2 rfl) (by rfl) t.m_min (by decide +kernel) (pa_cons pe_int (pa_cons (pe_callB call_len_seq (by rfl) t.m_len PySem.boot_len (pa_cons (pv 0) pa_nil)) pa_nil)))) pa_nil))
        (blkOk_by (N := nLaw) (sc := defScope sLaw) (by decide +kernel)) (fun _ _ _ _ _ => pg_name (i := 2) scLaw.nd rfl (Or.inl rfl)) (fun _ _ _ _ _ => pts_nil)
        (fun _ _ _ _ _ => pe_call GB r1 (by rfl) t.gB t.FB.kp t.bB .nil pass0 (pa_cons (pv 0) (pa_cons (pv 2) pa_nil))))
      (pss_one (ps_ret (pe_callB (cr_all rfl) (by rfl) t.m_all (by decide +kernel) (pa_cons (pe_lc (own := [("_law_box_here", 3)]) (g := gName 3) (tt := tYes) rfl scLaw.nd
        (pi_list (pe_op op_rep (pv 1) pe_int))
        (blkOk_by (N := nLaw) (sc := defScope sLaw) (by decide +kernel)) (fun _ _ _ _ _ => pg_name (i := 3) scLaw.nd rfl (Or.inl rfl)) (fun _ _ _ _ _ => pts_nil)
        (fun _ _ _ _ _ => pe_callG GQ gd hr (by rfl) t.gQ t.FQ.kp t.bQ pass0 (pa_cons (pv 3) pa_nil))) pa_nil)))), ?_⟩
    obtain ⟨n, hn1, hn4, hn⟩ : ∃ n : Nat, 1 ≤ n ∧ n ≤ 4 ∧ (1 + (if (((ns.map V.int).length : Nat) : Int) < 3 then (((ns.map V.int).length : Nat) : Int) else 3)) = (n : Int) := by
      by_cases h3 : (((ns.map V.int).length : Nat) : Int) < 3
      · rw [if_pos h3]
        exact ⟨1 + (ns.map V.int).length, by omega, by omega, by omega⟩
      · rw [if_neg h3]
        exact ⟨4, by omega, by omega, by omega⟩
    refine ⟨.ref a, rfl, a, _, rfl, .inl hS, 3, _, rfl, _, _, rfl, rfl, ?_⟩
    dsimp only
    rw [hn]
    refine ⟨n, rfl, by omega, by omega, fun D nD => lc_range (lo := 0) (n := n) (fun i H4 => ∃ bs : List Addr, bs.length = i ∧ H4 D = some (.lst (bs.map V.ref)) ∧ (∀ b ∈ bs, Bx H4 b 0) ∧ Same H H4) ?_ ?_ ?_⟩
    · exact ⟨[], rfl, upd_same, fun b hb => by simp at hb, same_upd nD⟩
    · rintro i H4 hi ⟨bs, hbl, hD, hbs, sm⟩
      refine ⟨rfl, .ref a, rfl, .int (0 + (i : Int)), rfl, a, ns, i, (by rw [Int.zero_add]; rfl), sm.seq hS, by omega, fun b o nb hb => ?_⟩
      have nDb : D ≠ b := ne_of_none hD nb
      have s5 : Same H4 (upd H4 b o) := same_upd nb
      refine ⟨_, s5 _ _ hD, ?_, bs ++ [b], by rw [List.length_append, hbl]; rfl, ?_, ?_, ?_⟩
      · rw [List.length_map, hbl, PySem.sizeLine_eq]
        omega
      · rw [upd_same, List.map_append]
        rfl
      · intro b2 hb2
        rcases List.mem_append.mp hb2 with h | h
        · have h5 := (hbs b2 h).same s5
          refine h5.ne fun e => ?_
          obtain ⟨x, y, e1, _⟩ := hbs b2 h
          rw [e, hD] at e1
          have e2 := Option.some.inj e1
          injection e2 with e3
          cases bs with
          | nil => simp at e3
          | cons b0 br => simp at e3
        · rw [List.mem_singleton.mp h]
          exact hb.ne nDb.symm
      · intro b2 o2 e
        rw [upd_ne (ne_of_none e nD)]
        exact s5 _ _ (sm _ _ e)
    · rintro H4 ⟨bs, hbl, hD, hbs, sm⟩
      refine ⟨.ref D, rfl, D, 3, _, rfl, rfl, hD, by decide, by decide, ?_, fun R nR => ?_⟩
      · rw [List.length_map, hbl, PySem.sizeLine_eq]
        show n * 3 ≤ _
        omega
      have hxs : (List.replicate (3 : Int).toNat (bs.map V.ref)).flatten.length = 3 * n := by
        rw [List.length_flatten, List.map_replicate, List.sum_replicate_nat, List.length_map, hbl]
        rfl
      have hmem : ∀ {i : Nat} {x : V}, (List.replicate (3 : Int).toNat (bs.map V.ref)).flatten[i]? = some x → ∃ b ∈ bs, x = .ref b := fun h => rep_mem h
      generalize (List.replicate (3 : Int).toNat (bs.map V.ref)).flatten = xs at *
      have hbR : ∀ b ∈ bs, b ≠ R := fun b hb => (hbs b hb).new nR
      refine ⟨R, rfl, ⟨_, .inl (.inl upd_same)⟩, fun D2 nD2 => ?_⟩
      have hb5 : ∀ b ∈ bs, Bx (upd H4 R (.lst xs)) b 0 := fun b hb => (hbs b hb).ne (hbR b hb)
      have hbD : ∀ b ∈ bs, b ≠ D2 := fun b hb => (hb5 b hb).new nD2
      have hRD : R ≠ D2 := ne_of_none upd_same nD2
      refine lc_list (xs := xs) (fun i H6 => H6 D2 = some (.lst ((List.replicate i true).map V.bl)) ∧ H6 R = some (.lst xs) ∧ ∀ b ∈ bs, ∃ c, Bx H6 b c ∧ c ≤ 2000 * (i : Int)) ?_ ?_ ?_ ?_
      · refine ⟨upd_same, ?_, fun b hb => ⟨0, (hb5 b hb).ne (hbD b hb), by omega⟩⟩
        rw [upd_ne hRD, upd_same]
      · rintro i H6 hi ⟨h1, h2, h3⟩
        exact .inl (.inl h2)
      · rintro i x H6 hx ⟨h1, h2, h3⟩
        obtain ⟨b, hb, rfl⟩ := hmem hx
        obtain ⟨c, hB, hc⟩ := h3 b hb
        have hi : i < xs.length := (List.getElem?_eq_some_iff.mp hx).1
        refine ⟨rfl, .ref b, rfl, b, c, rfl, hB, by omega, fun H7 c7 ho7 hb7 hc7 hc8 => ?_⟩
        have hD7 := ho7 _ _ h1 (hbD b hb).symm
        refine ⟨_, hD7, ?_, ?_, ?_, fun b2 hb2 => ?_⟩
        · rw [List.length_map, List.length_replicate, PySem.sizeLine_eq]
          omega
        · rw [upd_same, List.replicate_succ', List.map_append]
          rfl
        · rw [upd_ne hRD]
          exact ho7 _ _ h2 (hbR b hb).symm
        · by_cases e : b2 = b
          · subst e
            exact ⟨c7, hb7.ne (hbD _ hb2), by omega⟩
          · obtain ⟨c2, hB2, hc2⟩ := h3 b2 hb2
            exact ⟨c2, (hB2.oth ho7 e).ne (hbD b2 hb2), by omega⟩
      · rintro H6 ⟨h1, h2, h3⟩
        refine ⟨D2, _, rfl, .inl (.inl h1), ?_⟩
        rw [trues (bs := List.replicate xs.length true) fun z hz => (List.mem_replicate.mp hz).2]
        exact q H6
end
end HF
namespace HF
open PySem PySem.Spec PyProof.Rows L2
theorem kb_kC {K : PySem.W.Frag} {f : Addr} {fd : FuncData} (F : Fun K "called" "called" sCal f fd) : KBinds K fd ["heap", "ties", "names"] ["names", "ties", "heap"] g321 g321 := by
  obtain ⟨oc, od, kV, doc, pm, an, cdv, ct, osl, rfl, lk, hcd⟩ := F.ex
  refine ⟨fun s us ws _ hl => ?_, fun h1 h2 => g321_rel h1 h2⟩
  match us, ws, hl with
  | [], [a, b, c], _ => exact .of_eq rfl
theorem kb_kT {K : PySem.W.Frag} {f : Addr} {fd : FuncData} (F : Fun K "turned" "turned" sTrn f fd) : KBinds K fd ["ties"] ["ties"] gk1 gk1 := by
  obtain ⟨oc, od, kV, doc, pm, an, cdv, ct, osl, rfl, lk, hcd⟩ := F.ex
  refine ⟨fun s us ws _ hl => ?_, fun h1 h2 => gk1_rel h1 h2⟩
  match us, ws, hl with
  | [], [a], _ => exact .of_eq rfl
theorem kb_kP {K : PySem.W.Frag} {f : Addr} {fd : FuncData} (F : Fun K "piled" "piled" sPil f fd) : KBinds K fd ["upper", "lower"] ["lower", "upper"] g21 g21 := by
  obtain ⟨oc, od, kV, doc, pm, an, cdv, ct, osl, rfl, lk, hcd⟩ := F.ex
  refine ⟨fun s us ws _ hl => ?_, fun h1 h2 => g21_rel h1 h2⟩
  match us, ws, hl with
  | [], [a, b], _ => exact .of_eq rfl
theorem kb_kO {K : PySem.W.Frag} {f : Addr} {fd : FuncData} (F : Fun K "only" "only" sOnl f fd) : KBinds K fd ["heap", "ties", "books"] ["books", "ties", "heap"] g321 g321 := by
  obtain ⟨oc, od, kV, doc, pm, an, cdv, ct, osl, rfl, lk, hcd⟩ := F.ex
  refine ⟨fun s us ws _ hl => ?_, fun h1 h2 => g321_rel h1 h2⟩
  match us, ws, hl with
  | [], [a, b, c], _ => exact .of_eq rfl
theorem all_mk {l : PySem.W.OpenLaw} {w : World} {K : PySem.W.Frag} {h : Heap} {mg : Str → Option Value} {fa : Addr} (X : K.In h) (G : h.Ns mainGlobals mg) (hfa : mg "law" = some (.ref fa))
    {fRi : Addr} (aRi : At K "rising_ties" sRis fRi)
    {fe0 : Addr} (ae0 : At K "called" sCal fe0)
    {fe1 : Addr} (ae1 : At K "turned" sTrn fe1)
    {fPi : Addr} (aPi : At K "piled" sPil fPi)
    {fOn : Addr} (aOn : At K "only" sOnl fOn)
    {fB : Addr} (aB : At K "_law_box" sBox fB)
    {fT : Addr} (aT : At K "_law_take" sTake fT)
    {fG : Addr} (aG : At K "_law_same" sSame fG)
    {fJ : Addr} (aJ : At K "_law_listed" sListed fJ)
    {fS : Addr} (aS : At K "_law_strewn" sStrewn fS)
    {fN : Addr} (aN : At K "_law_names" sNames fN)
    {fH : Addr} (aH : At K "_law_heap" sHeap fH)
    {fY : Addr} (aY : At K "_law_ties" sTies fY)
    {fe2 : Addr} (ae2 : At K "_law_told" sTol fe2)
    {fQ : Addr} (aQ : At K "_law_right" sRight fQ)
    {fLaw : Addr} (aLaw : At K "law" sLaw fLaw)
    {CS fSI : Addr} (aSX : AtX K "Shared" "Shared.__init__" sSh "book" "RuntimeError" "RuntimeError.__new__" "RuntimeError.__init__" bmRE CS fSI)
    {CB : Addr} (pB : PySem.W.nsIn K mainGlobals "Barred" = some (some (.ref CB)))
    {CN : Addr} (pN : PySem.W.nsIn K mainGlobals "NoBook" = some (some (.ref CN)))
    {CU : Addr} (pU : PySem.W.nsIn K mainGlobals "Unlike" = some (some (.ref CU)))
    (xSx : PySem.W.exmAny K (.ref CS) [.ref CB, .ref CN, .ref CS, .ref CU] = some true)
    (ss : PySem.W.kitOne K (.ref CS) (.ref CS) = some true)
    (sr : PySem.W.kitOne K (.ref CS) (.type "RuntimeError") = some true)
    (z_LookupError : PySem.W.nsIn K mainGlobals "LookupError" = some none)
    (z_RuntimeError : PySem.W.nsIn K mainGlobals "RuntimeError" = some none)
    (z_ValueError : PySem.W.nsIn K mainGlobals "ValueError" = some none)
    (z_abs : PySem.W.nsIn K mainGlobals "abs" = some none)
    (z_all : PySem.W.nsIn K mainGlobals "all" = some none)
    (z_bool : PySem.W.nsIn K mainGlobals "bool" = some none)
    (z_dict : PySem.W.nsIn K mainGlobals "dict" = some none)
    (z_int : PySem.W.nsIn K mainGlobals "int" = some none)
    (z_isinstance : PySem.W.nsIn K mainGlobals "isinstance" = some none)
    (z_len : PySem.W.nsIn K mainGlobals "len" = some none)
    (z_list : PySem.W.nsIn K mainGlobals "list" = some none)
    (z_min : PySem.W.nsIn K mainGlobals "min" = some none)
    (z_range : PySem.W.nsIn K mainGlobals "range" = some none)
    (z_repr : PySem.W.nsIn K mainGlobals "repr" = some none)
    (z_set : PySem.W.nsIn K mainGlobals "set" = some none)
    (z_sorted : PySem.W.nsIn K mainGlobals "sorted" = some none)
    (z_str : PySem.W.nsIn K mainGlobals "str" = some none)
    (z_tuple : PySem.W.nsIn K mainGlobals "tuple" = some none)
    (z_zip : PySem.W.nsIn K mainGlobals "zip" = some none)
    : ∃ fd : FuncData, (∀ (s : Shared) (v : Value), BindsTo s fd ⟨[v], []⟩ [("_law_script", v)]) ∧ ∀ base : Heap, K.In base → base.Ns mainGlobals mg → FnG l.prog w K mg base CX0 7 fa fd ["_law_script"] (spLaw K) := by
  have e := hfa.symm.trans (PySem.W.mg_of X G aLaw.ns)
  cases e
  obtain ⟨dRi, FRi, kRi1, kRi2, kRi3, kRi4, kRi5, kRi6, eRi⟩ := aRi.fun
  obtain ⟨de0, Fe0, ke01, ke02, ke03, ke04, ke05, ke06, ee0⟩ := ae0.fun
  obtain ⟨de1, Fe1, ke11, ke12, ke13, ke14, ke15, ke16, ee1⟩ := ae1.fun
  obtain ⟨dPi, FPi, kPi1, kPi2, kPi3, kPi4, kPi5, kPi6, ePi⟩ := aPi.fun
  obtain ⟨dOn, FOn, kOn1, kOn2, kOn3, kOn4, kOn5, kOn6, eOn⟩ := aOn.fun
  obtain ⟨dB, FB, kB1, kB2, kB3, kB4, kB5, kB6, eB⟩ := aB.fun
  obtain ⟨dT, FT, kT1, kT2, kT3, kT4, kT5, kT6, eT⟩ := aT.fun
  obtain ⟨dG, FG, kG1, kG2, kG3, kG4, kG5, kG6, eG⟩ := aG.fun
  obtain ⟨dJ, FJ, kJ1, kJ2, kJ3, kJ4, kJ5, kJ6, eJ⟩ := aJ.fun
  obtain ⟨dS, FS, kS1, kS2, kS3, kS4, kS5, kS6, eS⟩ := aS.fun
  obtain ⟨dN, FN, kN1, kN2, kN3, kN4, kN5, kN6, eN⟩ := aN.fun
  obtain ⟨dH, FH, kH1, kH2, kH3, kH4, kH5, kH6, eH⟩ := aH.fun
  obtain ⟨dY, FY, kY1, kY2, kY3, kY4, kY5, kY6, eY⟩ := aY.fun
  obtain ⟨de2, Fe2, ke21, ke22, ke23, ke24, ke25, ke26, ee2⟩ := ae2.fun
  obtain ⟨dQ, FQ, kQ1, kQ2, kQ3, kQ4, kQ5, kQ6, eQ⟩ := aQ.fun
  obtain ⟨dLaw, FLaw, kLaw1, kLaw2, kLaw3, kLaw4, kLaw5, kLaw6, eLaw⟩ := aLaw.fun
  obtain ⟨tS⟩ := aSX.xt X G PySem.F.excBase_RuntimeError PySem.F.store_RuntimeError (fun fd F => F.binds fun _ _ _ _ _ _ us hl => (match us, hl with | [_, _], _ => rfl))
  refine ⟨dLaw, fun s v => by rw [eLaw]; exact .of_eq rfl, fun base _ _ => ok_law FLaw { fRi := fRi, dRi := dRi, FRi := FRi, bRi := FRi.binds fun _ _ _ _ _ _ us hl => (match us, hl with | [_], _ => rfl), gRi := PySem.W.mg_of X G aRi.ns, fe0 := fe0, de0 := de0, Fe0 := Fe0, be0 := Fe0.binds fun _ _ _ _ _ _ us hl => (match us, hl with | [_, _, _], _ => rfl), ge0 := PySem.W.mg_of X G ae0.ns, fe1 := fe1, de1 := de1, Fe1 := Fe1, be1 := Fe1.binds fun _ _ _ _ _ _ us hl => (match us, hl with | [_], _ => rfl), ge1 := PySem.W.mg_of X G ae1.ns, fPi := fPi, dPi := dPi, FPi := FPi, bPi := FPi.binds fun _ _ _ _ _ _ us hl => (match us, hl with | [_, _], _ => rfl), gPi := PySem.W.mg_of X G aPi.ns, fOn := fOn, dOn := dOn, FOn := FOn, bOn := FOn.binds fun _ _ _ _ _ _ us hl => (match us, hl with | [_, _, _], _ => rfl), gOn := PySem.W.mg_of X G aOn.ns, fB := fB, dB := dB, FB := FB, bB := FB.binds fun _ _ _ _ _ _ us hl => (match us, hl with | [_, _], _ => rfl), gB := PySem.W.mg_of X G aB.ns, fT := fT, dT := dT, FT := FT, bT := FT.binds fun _ _ _ _ _ _ us hl => (match us, hl with | [_, _], _ => rfl), gT := PySem.W.mg_of X G aT.ns, fG := fG, dG := dG, FG := FG, bG := FG.binds fun _ _ _ _ _ _ us hl => (match us, hl with | [_, _], _ => rfl), gG := PySem.W.mg_of X G aG.ns, fJ := fJ, dJ := dJ, FJ := FJ, bJ := FJ.binds fun _ _ _ _ _ _ us hl => (match us, hl with | [_], _ => rfl), gJ := PySem.W.mg_of X G aJ.ns, fS := fS, dS := dS, FS := FS, bS := FS.binds fun _ _ _ _ _ _ us hl => (match us, hl with | [_, _], _ => rfl), gS := PySem.W.mg_of X G aS.ns, fN := fN, dN := dN, FN := FN, bN := FN.binds fun _ _ _ _ _ _ us hl => (match us, hl with | [_, _], _ => rfl), gN := PySem.W.mg_of X G aN.ns, fH := fH, dH := dH, FH := FH, bH := FH.binds fun _ _ _ _ _ _ us hl => (match us, hl with | [_, _, _], _ => rfl), gH := PySem.W.mg_of X G aH.ns, fY := fY, dY := dY, FY := FY, bY := FY.binds fun _ _ _ _ _ _ us hl => (match us, hl with | [_, _], _ => rfl), gY := PySem.W.mg_of X G aY.ns, fe2 := fe2, de2 := de2, Fe2 := Fe2, be2 := Fe2.binds fun _ _ _ _ _ _ us hl => (match us, hl with | [_, _], _ => rfl), ge2 := PySem.W.mg_of X G ae2.ns, fQ := fQ, dQ := dQ, FQ := FQ, bQ := FQ.binds fun _ _ _ _ _ _ us hl => (match us, hl with | [_], _ => rfl), gQ := PySem.W.mg_of X G aQ.ns, m_LookupError := PySem.W.mg_none_of X G z_LookupError, m_RuntimeError := PySem.W.mg_none_of X G z_RuntimeError, m_ValueError := PySem.W.mg_none_of X G z_ValueError, m_abs := PySem.W.mg_none_of X G z_abs, m_all := PySem.W.mg_none_of X G z_all, m_bool := PySem.W.mg_none_of X G z_bool, m_dict := PySem.W.mg_none_of X G z_dict, m_int := PySem.W.mg_none_of X G z_int, m_isinstance := PySem.W.mg_none_of X G z_isinstance, m_len := PySem.W.mg_none_of X G z_len, m_list := PySem.W.mg_none_of X G z_list, m_min := PySem.W.mg_none_of X G z_min, m_range := PySem.W.mg_none_of X G z_range, m_repr := PySem.W.mg_none_of X G z_repr, m_set := PySem.W.mg_none_of X G z_set, m_sorted := PySem.W.mg_none_of X G z_sorted, m_str := PySem.W.mg_none_of X G z_str, m_tuple := PySem.W.mg_none_of X G z_tuple, m_zip := PySem.W.mg_none_of X G z_zip, kC := kb_kC Fe0, kT := kb_kT Fe1, kP := kb_kP FPi, kO := kb_kO FOn, CS := CS, tS := tS, CB := CB, xB := PySem.W.mg_of X G pB, CN := CN, xN := PySem.W.mg_of X G pN, CU := CU, xU := PySem.W.mg_of X G pU, kin := ⟨xSx, ss, sr⟩ }⟩
end HF
open PySem PySem.W PyProof.Rows
set_option maxHeartbeats 0 in
theorem PySem.Challenge.cw_heapfriends_k57_told_otherwise_holds : PySem.Challenge.rw_heapfriends_k57_told_otherwise.Holds := by
  w_on; o_law; k_head; (case hw => w_witness2)
  k_fill
  refine HF.walkG (l := PySem.Challenge.rw_heapfriends_k57_told_otherwise) (n := 63) (k := 7) (x := "_law_script") (sp := HF.spLaw) rfl (by decide) rfl ⟨rfl, by decide, by decide⟩ (fun w h Y => PySem.W.kIn_of Y) ?F (fun K H a ns hl _ hS => ⟨a, ns, rfl, hS, hl, fun _ => rfl⟩)
  case F =>
    intro w mg fa h KX G hmg
    refine' HF.all_mk KX G hmg (HF.at_mk ?nRi ?lRi ?cRi ?kRi) (HF.at_mk ?ne0 ?le0 ?ce0 ?ke0) (HF.at_mk ?ne1 ?le1 ?ce1 ?ke1) (HF.at_mk ?nPi ?lPi ?cPi ?kPi) (HF.at_mk ?nOn ?lOn ?cOn ?kOn) (HF.at_mk ?nB ?lB ?cB ?kB) (HF.at_mk ?nT ?lT ?cT ?kT) (HF.at_mk ?nG ?lG ?cG ?kG) (HF.at_mk ?nJ ?lJ ?cJ ?kJ) (HF.at_mk ?nS ?lS ?cS ?kS) (HF.at_mk ?nN ?lN ?cN ?kN) (HF.at_mk ?nH ?lH ?cH ?kH) (HF.at_mk ?nY ?lY ?cY ?kY) (HF.at_mk ?ne2 ?le2 ?ce2 ?ke2) (HF.at_mk ?nQ ?lQ ?cQ ?kQ) (HF.at_mk ?nLaw ?lLaw ?cLaw ?kLaw) (HF.atx_mk ?xSns ?xSiC ?xStI ?xSl ?xSc ?xSkp ?xSini ?xSover ?xShdi ?xSsa ?xSexC ?xStyC ?xSkC ?xScl ?xSga ?xSgg ?xSca ?xSsg ?xStk ?xSob ?xSno ?xSvV) ?pB ?pN ?pU ?exSx ?ess ?esr ?zLookupError ?zRuntimeError ?zValueError ?zabs ?zall ?zbool ?zdict ?zint ?zisinstance ?zlen ?zlist ?zmin ?zrange ?zrepr ?zset ?zsorted ?zstr ?ztuple ?zzip
    (case nRi => k_is); (case lRi => k_is); (case cRi => k_is); (case kRi => k_is)
    (case ne0 => k_is); (case le0 => k_is); (case ce0 => k_is); (case ke0 => k_is)
    (case ne1 => k_is); (case le1 => k_is); (case ce1 => k_is); (case ke1 => k_is)
    (case nPi => k_is); (case lPi => k_is); (case cPi => k_is); (case kPi => k_is)
    (case nOn => k_is); (case lOn => k_is); (case cOn => k_is); (case kOn => k_is)
    (case nB => k_is); (case lB => k_is); (case cB => k_is); (case kB => k_is)
    (case nT => k_is); (case lT => k_is); (case cT => k_is); (case kT => k_is)
    (case nG => k_is); (case lG => k_is); (case cG => k_is); (case kG => k_is)
    (case nJ => k_is); (case lJ => k_is); (case cJ => k_is); (case kJ => k_is)
    (case nS => k_is); (case lS => k_is); (case cS => k_is); (case kS => k_is)
    (case nN => k_is); (case lN => k_is); (case cN => k_is); (case kN => k_is)
    (case nH => k_is); (case lH => k_is); (case cH => k_is); (case kH => k_is)
    (case nY => k_is); (case lY => k_is); (case cY => k_is); (case kY => k_is)
    (case ne2 => k_is); (case le2 => k_is); (case ce2 => k_is); (case ke2 => k_is)
    (case nQ => k_is); (case lQ => k_is); (case cQ => k_is); (case kQ => k_is)
    (case nLaw => k_is); (case lLaw => k_is); (case cLaw => k_is); (case kLaw => k_is)
    (case xSns => k_is); (case xSiC => k_is); (case xStI => k_is); (case xSl => k_is); (case xSc => k_is); (case xSkp => k_is); (case xSini => kx_is); (case xSover => kx_is); (case xShdi => k_is); (case xSsa => k_is); (case xSexC => k_is); (case xStyC => k_is); (case xSkC => k_is); (case xScl => k_is); (case xSga => k_is); (case xSgg => k_is); (case xSca => k_is); (case xSsg => k_is); (case xStk => k_is); (case xSob => k_is); (case xSno => k_is); (case xSvV => k_is)
    (case pB => k_is)
    (case pN => k_is)
    (case pU => k_is)
    (case exSx => kts_exm)
    (case ess => kit_is)
    (case esr => kit_is)
    (case zLookupError => k_is)
    (case zRuntimeError => k_is)
    (case zValueError => k_is)
    (case zabs => k_is)
    (case zall => k_is)
    (case zbool => k_is)
    (case zdict => k_is)
    (case zint => k_is)
    (case zisinstance => k_is)
    (case zlen => k_is)
    (case zlist => k_is)
    (case zmin => k_is)
    (case zrange => k_is)
    (case zrepr => k_is)
    (case zset => k_is)
    (case zsorted => k_is)
    (case zstr => k_is)
    (case ztuple => k_is)
    (case zzip => k_is)
