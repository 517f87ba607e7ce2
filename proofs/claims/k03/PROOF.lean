import PyProof.Rows.All
import Wide.All
import OpenK.AllK
import Wide.FinOn
import HandS.ForMost
import HandS.More
import HandS.Walk
import HandS.Codes
import HandS.Strs
import HandS.Style
import HandS.IsInst
import HandS.Zip
import HandS.TupSets
import KE.SortData
import KE.GoesEnum
import HandS.NoneIn
import HandS.TupAny
import HandS.DictComp
import HandS.ExcInit
import HandS.CallSlots
import KE.KExcInit
import KE.KExcIs
import KE.KTryMore
import HandS.WordsExc
import HandS.ExcOwn
import PySem.Challenge.RW_heapfriends_k03_goings_one_by_one
set_option Elab.async false
set_option linter.all false
set_option maxRecDepth 100000
set_option maxHeartbeats 4000000
namespace HF
open PySem PySem.Spec PyProof.Rows L2
/-! ### a box of draws: what is left of the great number, the seed, how many draws -/
def Bx (H : Hp) (p : Addr) (c : Int) : Prop := ∃ a b : Int, H p = some (.lst [.int a, .int b, .int c]) ∧ 0 ≤ a ∧ 0 ≤ b ∧ b < 2 ^ 40 ∧ 0 ≤ c
/-- all but what stands at p stays -/
def Oth (p : Addr) (H H' : Hp) : Prop := ∀ b x, H b = some x → b ≠ p → H' b = some x
theorem Oth.refl (p : Addr) (H : Hp) : Oth p H H := fun _ _ h _ => h
theorem Oth.trans {p : Addr} {H H1 H2 : Hp} (a : Oth p H H1) (b : Oth p H1 H2) : Oth p H H2 := fun c o h n => b c o (a c o h n) n
theorem Oth.of {p : Addr} {H H1 : Hp} (a : Same H H1) : Oth p H H1 := fun c o h _ => a c o h
theorem Oth.put {p : Addr} {H : Hp} {o : HO} : Oth p H (upd H p o) := fun c x h n => by
  rw [upd_ne n]
  exact h
theorem Oth.seq {K : PySem.W.Frag} {p a : Addr} {H H' : Hp} {xs : List V} (e : Oth p H H') (n : a ≠ p) (h : SqL K H a xs) : SqL K H' a xs := by
  rcases h with (h | ⟨o, h⟩) | h
  · exact .inl (.inl (e _ _ h n))
  · exact .inl (.inr ⟨o, e _ _ h n⟩)
  · exact .inr h
theorem same_upd {H : Hp} {p : Addr} {o : HO} (h : H p = none) : Same H (upd H p o) := fun b x e => by
  rw [upd_ne (ne_of_none e h)]
  exact e
theorem sameT {K : PySem.W.Frag} {a : Addr} {H H' : Hp} {xs : List V} (e : Same H H') (h : SqT K H a xs) : SqT K H' a xs := by
  rcases h with (h | ⟨o, h⟩) | h
  · exact .inl (.inl (e _ _ h))
  · exact .inl (.inr ⟨o, e _ _ h⟩)
  · exact .inr h
theorem fmod_in (a : Int) {m : Int} (h : 0 < m) : 0 ≤ a.fmod m ∧ a.fmod m < m := by
  rw [Int.fmod_eq_emod_of_nonneg _ (by omega)]
  exact ⟨Int.emod_nonneg _ (by omega), Int.emod_lt_of_pos _ h⟩
theorem b01 (b : Bool) : -(2 ^ 64) < (if b = true then 1 else 0 : Int) ∧ (if b = true then 1 else 0 : Int) < 2 ^ 64 := by cases b <;> decide
theorem nz {n : Int} (h : 0 < n) : n ≠ 0 := by omega
theorem fdiv_nn {a m : Int} (h0 : 0 ≤ a) (h : 0 < m) : 0 ≤ a.fdiv m := by
  rw [Int.fdiv_eq_ediv_of_nonneg _ (by omega)]
  exact Int.ediv_nonneg h0 (by omega)
/-! ### a draw -/
def spTake : Sp := fun vs H Q _ => ∃ (p : Addr) (m c : Int), vs = [.ref p, .int m] ∧ Bx H p c ∧ c < 2 ^ 40 ∧ 0 < m ∧ m < 1000000 ∧
  ∀ (r c' : Int) (o : HO), 0 ≤ r → r < m → c ≤ c' → c' ≤ c + 1 → Bx (upd H p o) p c' → Q (.int r) (upd H p o)
/-! ### a box -/
def spBox (K : PySem.W.Frag) : Sp := fun vs H Q _ => ∃ (a : Addr) (ns : List Int) (k : Nat), vs = [.ref a, .int k] ∧ SqL K H a (ns.map V.int) ∧ k ≤ 63 ∧
  ∀ (p : Addr) (o : HO), H p = none → Bx (upd H p o) p 0 → Q (.ref p) (upd H p o)
end HF
namespace HF
open PySem PySem.Spec PyProof.Rows L2
theorem Bx.ne {H : Hp} {p l : Addr} {c : Int} {o : HO} (h : Bx H p c) (n : p ≠ l) : Bx (upd H l o) p c := by
  obtain ⟨a, b, e, r⟩ := h
  exact ⟨a, b, by rw [upd_ne n]; exact e, r⟩
theorem Bx.new {H : Hp} {p l : Addr} {c : Int} (h : Bx H p c) (n : H l = none) : p ≠ l := by
  obtain ⟨a, b, e, r⟩ := h
  exact ne_of_none e n
theorem Bx.nn {H : Hp} {p : Addr} {c : Int} (h : Bx H p c) : 0 ≤ c := by
  obtain ⟨a, b, e, _, _, _, r⟩ := h
  exact r
theorem Oth.new {p l : Addr} {H H1 : Hp} {o : HO} (a : Oth p H H1) (n : H l = none) : Oth p H (upd H1 l o) := fun b x e np => by
  rw [upd_ne (ne_of_none e n)]
  exact a b x e np
def Sq (K : PySem.W.Frag) (H : Hp) (a : Addr) (xs : List V) : Prop := SqL K H a xs ∨ SqT K H a xs
theorem Oth.sqT {K : PySem.W.Frag} {p a : Addr} {H H' : Hp} {xs : List V} (e : Oth p H H') (n : a ≠ p) (h : SqT K H a xs) : SqT K H' a xs := by
  rcases h with (h | ⟨o, h⟩) | h
  · exact .inl (.inl (e _ _ h n))
  · exact .inl (.inr ⟨o, e _ _ h n⟩)
  · exact .inr h
theorem Oth.sq {K : PySem.W.Frag} {p a : Addr} {H H' : Hp} {xs : List V} (e : Oth p H H') (n : a ≠ p) (h : Sq K H a xs) : Sq K H' a xs := by
  rcases h with h | h
  · exact .inl (e.seq n h)
  · exact .inr (e.sqT n h)
theorem ins_perm {α : Type} (ys : List α) (x : α) (r : Nat) : (ys.take r ++ [x] ++ ys.drop r).Perm (ys ++ [x]) := by
  rw [List.append_assoc]
  refine (List.perm_append_comm_assoc _ _ _).trans ?_
  rw [List.take_append_drop]
  exact List.perm_append_comm
def spStrewn (K : PySem.W.Frag) : Sp := fun vs H Q _ => ∃ (p a : Addr) (c : Int) (xs : List V), vs = [.ref p, .ref a] ∧ Bx H p c ∧ c < 2 ^ 39 ∧ a ≠ p ∧ Sq K H a xs ∧ xs.length ≤ 1000 ∧
  ∀ (H' : Hp) (l : Addr) (ys : List V) (c' : Int), H l = none → Oth p H H' → H' l = some (.lst ys) → ys.Perm xs → Bx H' p c' → c ≤ c' → c' ≤ c + xs.length → Q (.ref l) H'
end HF
namespace HF
open PySem PySem.Spec PyProof.Rows L2
/-! ### names: texts of one to six letters -/
def Lt (l : List Nat) : Prop := ∀ c ∈ l, 97 ≤ c ∧ c ≤ 122
def Nm (z : Str) : Prop := 1 ≤ z.cps.toList.length ∧ z.cps.toList.length ≤ 6 ∧ Lt z.cps.toList
abbrev abc : Str := "abcdefghijklmnopqrstuvwxyz"
theorem abc_tl : abc.cps.toList = (List.range 26).map (97 + ·) := by decide +kernel
theorem abc_len : abc.length = 26 := by decide +kernel
theorem abc_at {r : Int} (h0 : 0 ≤ r) (h1 : r < 26) : ∃ c, atI abc.cps.toList r = some c ∧ 97 ≤ c ∧ c ≤ 122 := by
  obtain ⟨n, rfl⟩ := Int.eq_ofNat_of_zero_le h0
  have hn : n < 26 := by omega
  refine ⟨97 + n, atI_nat (j := n) ?_, by omega, by omega⟩
  rw [abc_tl, List.getElem?_map, List.getElem?_range hn]
  rfl
theorem cut5 (z : Str) : cutS z none (some 5) = ⟨(z.cps.toList.take 5).toArray⟩ := by
  unfold cutS
  rw [HT.sIx_none, show HT.sIx z.length z.length (some 5) = min 5 z.length from HT.sIx_nat _ _ 5, List.drop_zero, Nat.sub_zero]
  have e : z.length = z.cps.toList.length := by
    rw [Array.length_toList]
    rfl
  rw [e, Nat.min_comm, ← List.take_take, List.take_of_length_le (l := List.take 5 z.cps.toList) (by
    rw [List.length_take]
    omega)]
theorem join_one (cs : List Nat) : Txt.join "" (cs.map fun c => (⟨#[c]⟩ : Str)) = ⟨cs.toArray⟩ := by
  have h : ∀ l : List Nat, TL.joinL [] (l.map fun c => [c]) = l := by
    intro l
    induction l with
    | nil => rfl
    | cons a r ih =>
      cases r with
      | nil => rfl
      | cons b t =>
        show [a] ++ ([] ++ TL.joinL [] ((b :: t).map fun c => [c])) = a :: b :: t
        rw [ih]
        rfl
  have h2 := SX.join_S [] (cs.map fun c => [c])
  rw [h, List.map_map] at h2
  exact h2
theorem app_tl (a b : Str) : (a ++ b).cps.toList = a.cps.toList ++ b.cps.toList := by
  show (a.cps ++ b.cps).toList = _
  rw [Array.toList_append]
theorem Lt.take {l : List Nat} (h : Lt l) (n : Nat) : Lt (l.take n) := fun c hc => h c (List.mem_of_mem_take hc)
theorem Lt.snoc {l : List Nat} {c : Nat} (h : Lt l) (h1 : 97 ≤ c) (h2 : c ≤ 122) : Lt (l ++ [c]) := fun x hx => by
  rcases List.mem_append.mp hx with q | q
  · exact h x q
  · rw [List.mem_singleton.mp q]
    exact ⟨h1, h2⟩
def cand (z : Str) (c : Nat) : Str := cutS z none (some 5) ++ ⟨#[c]⟩
theorem cand_tl (z : Str) (c : Nat) : (cand z c).cps.toList = z.cps.toList.take 5 ++ [c] := by
  unfold cand
  rw [app_tl, cut5]
theorem cand_nm {z : Str} {c : Nat} (h : Nm z) (h1 : 97 ≤ c) (h2 : c ≤ 122) : Nm (cand z c) := by
  unfold Nm
  rw [cand_tl]
  refine ⟨?_, ?_, (h.2.2.take 5).snoc h1 h2⟩
  · rw [List.length_append]
    show 1 ≤ _ + 1
    omega
  · rw [List.length_append, List.length_take]
    show _ + 1 ≤ 6
    omega
theorem cand_inj {z : Str} {c d : Nat} (h : cand z c = cand z d) : c = d := by
  have e := congrArg (fun x : Str => x.cps.toList) h
  simp only [cand_tl] at e
  have e2 := List.append_cancel_left e
  exact (List.cons.inj e2).1
theorem str_len (z : Str) : z.length = z.cps.toList.length := by
  rw [Array.length_toList]
  rfl
/-- unlike ones among others are no more than these -/
theorem nodup_le {α : Type} [DecidableEq α] : ∀ (l m : List α), l.Nodup → (∀ x ∈ l, x ∈ m) → l.length ≤ m.length
  | [], _, _, _ => Nat.zero_le _
  | a :: r, m, hn, hs => by
    have hn2 := List.nodup_cons.mp hn
    have ha : a ∈ m := hs a (List.mem_cons_self)
    have hr : ∀ x ∈ r, x ∈ m.erase a := fun x hx => by
      have hne : x ≠ a := fun e => hn2.1 (e ▸ hx)
      exact (List.mem_erase_of_ne hne).mpr (hs x (List.mem_cons_of_mem _ hx))
    have := nodup_le r (m.erase a) hn2.2 hr
    rw [List.length_erase_of_mem ha] at this
    have hp : 0 < m.length := List.length_pos_of_mem ha
    show r.length + 1 ≤ m.length
    omega
/-- a name that isn't there yet, of these -/
def cands (z : Str) : List Str := z :: (List.range 26).map fun i => cand z (97 + i)
theorem cands_free (z : Str) (zs : List Str) (h : zs.length < 26) : ∃ y r, (cands z).filter (fun y => decide (y ∉ zs)) = y :: r ∧ y ∈ cands z ∧ y ∉ zs := by
  cases e : (cands z).filter (fun y => decide (y ∉ zs)) with
  | nil =>
    exfalso
    have hall : ∀ y ∈ (List.range 26).map (fun i => cand z (97 + i)), y ∈ zs := fun y hy => by
      have := List.filter_eq_nil_iff.mp e y (List.mem_cons_of_mem _ hy)
      simpa using this
    have hnd : ((List.range 26).map (fun i => cand z (97 + i))).Nodup := by
      refine List.pairwise_map.mpr ((List.nodup_range (n := 26)).imp fun hab q => hab ?_)
      have := cand_inj q
      omega
    have := nodup_le _ _ hnd hall
    rw [List.length_map, List.length_range] at this
    omega
  | cons y r =>
    have hm : y ∈ (cands z).filter (fun y => decide (y ∉ zs)) := by
      rw [e]
      exact List.mem_cons_self
    obtain ⟨h1, h2⟩ := List.mem_filter.mp hm
    exact ⟨y, r, rfl, h1, of_decide_eq_true h2⟩
theorem cands_nm {z y : Str} (h : Nm z) (hy : y ∈ cands z) : Nm y := by
  rcases List.mem_cons.mp hy with q | q
  · rw [q]
    exact h
  · obtain ⟨i, hi, rfl⟩ := List.mem_map.mp q
    have := List.mem_range.mp hi
    exact cand_nm h (by omega) (by omega)
end HF
namespace HF
open PySem PySem.Spec PyProof.Rows L2
theorem strs_all {xs : List Str} : (xs.map V.str).all flatV = true := by
  rw [List.all_eq_true]
  intro x hx
  obtain ⟨z, _, rfl⟩ := List.mem_map.mp hx
  rfl
theorem at3 {r : Int} (h0 : 0 ≤ r) (h1 : r < 3) : ∃ j : Nat, atI [V.int 1, V.int 6, V.int 2] r = some (V.int j) ∧ 1 ≤ j ∧ j ≤ 6 := by
  obtain ⟨n, rfl⟩ := Int.eq_ofNat_of_zero_le h0
  match n, h1 with
  | 0, _ => exact ⟨1, atI_nat (j := 0) rfl, by decide, by decide⟩
  | 1, _ => exact ⟨6, atI_nat (j := 1) rfl, by decide, by decide⟩
  | 2, _ => exact ⟨2, atI_nat (j := 2) rfl, by decide, by decide⟩
  | n + 3, h => omega
theorem lt_nil : Lt [] := fun _ h => nomatch h
theorem sz27 (nm : Str) : [V.str nm].length + (List.map V.str (List.map (fun x => cand nm (97 + x)) (List.range abc.cps.size))).length ≤ sizeLine := by
  rw [List.length_map, List.length_map, List.length_range]
  show 1 + abc.cps.size ≤ sizeLine
  decide +kernel
theorem inV_strs (y : Str) (zs : List Str) : inV (.str y) (zs.map V.str) = decide (y ∈ zs) := by
  unfold inV
  rw [List.any_map]
  by_cases h : y ∈ zs
  · rw [decide_eq_true h, List.any_eq_true]
    exact ⟨y, h, by simp [eqV]⟩
  · rw [decide_eq_false h, List.any_eq_false]
    intro z hz e
    have e2 : z = y := by simpa [eqV] using e
    exact h (e2 ▸ hz)
theorem Nm.ok {z : Str} (h : Nm z) : PyData.strOk z = true := by
  unfold PyData.strOk
  rw [← Array.all_toList, List.all_eq_true]
  intro c hc
  have := h.2.2 c hc
  simp
  omega
theorem canLay_strs : ∀ {zs : List Str}, (∀ z ∈ zs, Nm z) → PyData.canLayAll0 (zs.map PyData.str) = true
  | [], _ => rfl
  | z :: r, h => by
    show (PyData.strOk z && PyData.canLayAll0 (r.map PyData.str)) = true
    rw [(h z List.mem_cons_self).ok, canLay_strs fun y hy => h y (List.mem_cons_of_mem _ hy)]
    rfl
theorem depth_strs : ∀ zs : List Str, PyData.depthAll (zs.map PyData.str) = 0
  | [] => rfl
  | z :: r => by
    show max 0 (PyData.depthAll (r.map PyData.str)) = 0
    rw [depth_strs r]
    rfl
theorem shaped_strs {zs : List Str} (h : ∀ z ∈ zs, Nm z) : SeqAt.shaped (.list (zs.map PyData.str)) = true := by
  show (PyData.canLayAll0 (zs.map PyData.str) && decide (PyData.depthAll (zs.map PyData.str) + 1 ≤ 64)) = true
  rw [canLay_strs h, depth_strs]
  rfl
theorem dp_strs {K : PySem.W.Frag} {H : Hp} : ∀ zs : List Str, DpAll K H (zs.map V.str) (zs.map PyData.str)
  | [] => .nil
  | z :: r => .cons (.str z) (dp_strs r)
theorem ones_sum : ∀ cs : List Nat, ((cs.map fun c => (⟨#[c]⟩ : Str)).map (·.length)).sum = cs.length
  | [] => rfl
  | c :: r => by
    show 1 + ((r.map fun c => (⟨#[c]⟩ : Str)).map (·.length)).sum = r.length + 1
    rw [ones_sum r]
    omega
theorem Oth.none {p l : Addr} {H H1 : Hp} {c : Int} (a : Oth p H H1) (hb : Bx H1 p c) (n : H1 l = Option.none) : H l = Option.none := by
  cases e : H l with
  | none => rfl
  | some o =>
    have hl : l ≠ p := fun z => by
      subst z
      obtain ⟨x, y, e2, _⟩ := hb
      rw [e2] at n
      cases n
    rw [a l o e hl] at n
    cases n
def spNames (K : PySem.W.Frag) : Sp := fun vs H Q _ => ∃ (p : Addr) (c : Int) (n : Nat), vs = [.ref p, .int n] ∧ Bx H p c ∧ c < 2 ^ 39 ∧ n ≤ 20 ∧
  ∀ (H' : Hp) (l : Addr) (zs : List Str) (c' : Int), H l = none → Oth p H H' → H' l = some (.lst (zs.map V.str)) → zs.length = n → zs.Nodup → (∀ z ∈ zs, Nm z) → sortedS zs = true → Bx H' p c' → c ≤ c' → c' ≤ c + 10 * n → Q (.ref l) H'
end HF
/-! rules of my own over the hand layer -/
namespace HF
open PySem PySem.Spec PyProof.Rows L2
/-- a tuple whose object is known: a plain one -/
def Tp (H : Hp) (a : Addr) (xs : List V) : Prop := ∃ ob : Obj, H a = some (.frz ob (.tup xs)) ∧ ob.cls = .type "tuple" ∧ ob.dict = none
theorem Tp.sq {K : PySem.W.Frag} {H : Hp} {a : Addr} {xs : List V} (h : Tp H a xs) : SqT K H a xs := by
  obtain ⟨ob, e, _⟩ := h
  exact .inl (.inr ⟨ob, e⟩)
theorem Tp.oth {p a : Addr} {H H' : Hp} {xs : List V} (h : Tp H a xs) (o : Oth p H H') (n : a ≠ p) : Tp H' a xs := by
  obtain ⟨ob, e, r⟩ := h
  exact ⟨ob, o _ _ e n, r⟩
theorem Tp.same {a : Addr} {H H' : Hp} {xs : List V} (h : Tp H a xs) (o : Same H H') : Tp H' a xs := by
  obtain ⟨ob, e, r⟩ := h
  exact ⟨ob, o _ _ e, r⟩
section
variable {X : Cx}
theorem call_tupleF : CallR X (.type "tuple") (fun us H Q => ∃ p ys, us = [.ref p] ∧ SqL X.K H p ys ∧ ∀ l ob, H l = none → ob.cls = .type "tuple" → ob.dict = none → Q (.ref l) (upd H l (.frz ob (.tup ys)))) := by
  intro pins st σ H xs ws Q I rel hyp
  obtain ⟨p, ys, rfl, hq, q⟩ := hyp
  obtain ⟨wv, rfl, rw1⟩ := vals1 rel
  cases rw1
  obtain ⟨its, rI, isl, hsz⟩ := I.list hq
  have hle := rI.length
  refine call_tuple_list isl.isList (fun h1 kp1 => ?_) (by simp only [List.size_toArray] <;> omega)
  have J : Inv X pins σ H { st with heap := h1 } := I.kept (t' := st.toks) kp1
  let ob : Obj := { cls := .type "tuple", data := .seq its.toArray }
  have J2 : Inv X pins σ (upd H h1.objs.size (.frz ob (.tup ys))) { st with heap := h1.push ob } :=
    J.laid (t' := st.toks) (fun b o e => Heap.get?_push_of_some _ e) (Nat.le_refl _) ⟨Heap.get?_push_size _ rfl, hsz, its, rI, IsTup.new _ _⟩
  exact ⟨.ref h1.objs.size, _, J2, rfl, q _ ob (J.hok.fresh (Nat.le_refl _)) rfl rfl⟩
/-- a method of such a tuple, with arguments -/
def tTM (r : V → List V → Hp → VK → Prop) (tob : TE) (targs : TA) : TE := fun σ H Q => tob σ H fun x H1 => (∃ p ys, x = .ref p ∧ Tp H1 p ys) ∧ targs σ H1 fun xs H2 => r x xs H2 Q
theorem pe_bmT {ob e : Expr} {es : List Expr} {tob : TE} {targs : TA} {name : Str} {apos cpos : Pos} {id : String} {r : V → List V → Hp → VK → Prop} (slot : Slot "tuple" name id) (hty : typeOf (.builtin id) = pure (.type "method_descriptor")) (hm : MtR X id r) (ho : PE X ob tob) (ha : PA X (e :: es) targs)
    (hbase : attributeBase ob name X.env (eval ob X.env) = eval ob X.env := by rfl)
    (hfew : ((backTo cpos (starEach (e :: es) X.env)).all (fun x => !x.1) && (backToKw cpos (keywordEach [] X.env)).all (fun x => x.1.isSome) && decide ((e :: es).length + ([] : List Keyword).length + (if ([] : List Keyword).isEmpty then 0 else 1) < 30)) = true := by rfl)
    (hline : (apos.endLine == cpos.line) = true := by rfl) (hs : starEach (e :: es) X.env = (false, eval e X.env) :: starEach es X.env := by rfl) (hpl : (backTo cpos (starEach es X.env)).any (·.1) = false := by rfl) :
    PE X (.Call (.Attribute ob name apos) (e :: es) [] cpos) (tTM r tob targs) := by
  refine ⟨fun pins st σ H Q I hyp => wpAny_Call_method_late hbase hfew hline rfl (thn (ho.run pins st σ H _ I hyp) ?_)⟩
  rintro vv s1 ⟨x, H1, I1, r1, ⟨p, ys, rfl, od, e1, e2, e3⟩, q1⟩
  cases r1
  have hob : s1.heap.get? p = some od := (I1.hok p _ e1).1
  refine ⟨"tuple", id, PySem.F.plainAttrs_tuple, slot, hty, ⟨od, hob, e2⟩, fun a ea => by cases ea; exact ⟨od, hob, e3⟩, ?_⟩
  have run := ha.run cpos pins s1 σ H1 _ I1 q1
  rw [hs] at run ⊢
  exact Calls.callWith_builtin (by show (false || (backTo cpos (starEach es X.env)).any (·.1)) = false; rw [hpl] <;> rfl) (Calls.evalArgs_plain (thn run fun us s2 ⟨vs, H2, I2, r2, q2⟩ => hm pins s2 σ H2 (.ref p) vs (.ref p) us Q I2 rfl r2 q2))
/-- repr of data, where no repr is under way -/
theorem call_reprD (hg : X.A.guards = some []) (hu : X.A.units + 64 < cLine) : CallR X (.builtin "repr") (fun us H Q => ∃ (a : Addr) (d : PyData), us = [.ref a] ∧ Dp X.K H (.ref a) d ∧ d.showable = true ∧ d.hasDict = false ∧ d.depth < 60 ∧ d.shown.length ≤ sizeLine ∧ Q (.str d.shown) H) := by
  intro pins st σ H xs ws Q I rel hyp
  obtain ⟨a, d, rfl, hd, hs, hn, hdep, hz, q⟩ := hyp
  obtain ⟨wv, rfl, rw1⟩ := vals1 rel
  cases rw1
  obtain ⟨as, rd⟩ := Dp.reads I d (.ref a) (.ref a) hd rfl
  exact repr_of_reads' rd hs (fun z => by rw [hn] at z; cases z) hg (by omega) (fun _ _ e => e) (fun h1 u tk kp => ⟨.str _, H, I.kept (t' := tk) kp, ⟨u, rfl⟩, q⟩) hz
end
end HF
/-! defs that ask repr: their promise holds where no repr is under way -/
namespace HF
open PySem PySem.Spec PyProof.Rows L2
structure FnG (P : Program) (w : World) (K : PySem.W.Frag) (mg : Str → Option Value) (base : Heap) (CX : CXT) (k : Nat) (f : Addr) (fd : FuncData) (ps : List Str) (sp : Sp) : Prop where
  many : ∀ vs H Q E, sp vs H Q E → vs.length = ps.length
  goes : ∀ (A : Around) (outer : List Env) (st : Shared) (H : Hp) (args : Args) (us : List Value) (vs : List V) (Q : VK) (E : XK), A.guards = some [] → Room k A → Env0 P w K mg base A outer st H → BindsTo st fd args (ps.zip us) → Vals vs us → sp vs H Q E →
    codeAny (model P w) A (.call (.ref f) args) (CR CX outer P w H st Q E) st
theorem FnG.of {P : Program} {w : World} {K : PySem.W.Frag} {mg : Str → Option Value} {base : Heap} {CX : CXT} {k : Nat} {f : Addr} {fd : FuncData} {ps : List Str} {sp : Sp} (F : FnOk P w K mg base CX k f fd ps sp) : FnG P w K mg base CX k f fd ps sp :=
  ⟨F.len, fun A outer st H args us vs Q E _ => F.run A outer st H args us vs Q E⟩
section
variable {P : Program} {w : World} {K : PySem.W.Frag} {mg : Str → Option Value} {base : Heap}
theorem okG {x qual : Str} {st : Stmt} {f : Addr} {fd : FuncData} {N ps : List Str} {k : Nat} {sp : Sp} (F : Fun K x qual st f fd) (S : FnScope N ps (defScope st)) (len : ∀ vs H Q E, sp vs H Q E → vs.length = ps.length)
    (body : ∀ (cdv : Value) (A : Around) (outer : List Env) (t : Shared) (H : Hp) (vs : List V) (Q : VK) (E : XK), A.guards = some [] → Room k (A.deeper (envOfC qual (defScope st) t.heap.objs.size f cdv)) → sp vs H Q E →
      ∃ rd, PSs (cxOf CX0 P w K mg base N qual (defScope st) f cdv A outer t H E).nox (defBody st) rd ∧ rd { nx := fun _ H' => Q .non H', rt := Q } (start N vs) H) : FnG P w K mg base CX0 (k + 1) f fd ps sp := by
  obtain ⟨oc, od, kV, doc, pm, an, cdv, ct, osl, rfl, found, code⟩ := F.ex
  refine ⟨len, fun A outer t H args us vs Q E gd room env bd rel want => ?_⟩
  have many := len _ _ _ _ want
  have kin : K.In t.heap := env.mod.kin.keeps fun b o e => (env.bs b o e).1
  have lim : t.heap.NoLimit := env.mod.nolimit.keeps fun b o e => (env.bs b o e).1
  have kinds : ∀ y ∈ ps.zip us, (defScope st).names.lookup y.1 = some .local ∨ ((defScope st).names.lookup y.1 = some .cell ∧ ((cellsFrom (t.heap.objs.size + 1) (defScope st).names []).lookup y.1).isSome = true) := by
    rintro ⟨nm, v⟩ hy
    exact (S.par nm (List.of_mem_zip hy).1).imp id fun z => ⟨z, PySem.W.cellsFrom_some _ _ _ (.inl z)⟩
  refine codeAny_call_function room.depth (kin _ _ found) rfl S.co S.gen rfl (PySem.W.codeRec_of kin code) (bd _ _ _ _ (wpAny_newFunctionEnv_cells S.kind kinds ?_))
  rintro env1 rfl t1 inC
  refine ⟨lim.keeps inC.toInCall.keep, codeAny_func ?_⟩
  obtain ⟨rd, hps, hrd⟩ := body cdv A outer t H vs Q E gd (room.deeper _) want
  have J : Inv (cxOf CX0 P w K mg base N qual (defScope st) f cdv A outer t H E) [] (start N vs) H t1 := inv_start S room.hd env many rel inC
  refine wpAny_mono (hps.nox.run [] t1 (start N vs) H _ J hrd) (fun fl t2 res => ?_) fun _ _ z => z
  cases fl with
  | ret u =>
    obtain ⟨v, σ2, H2, J2, rv, q2⟩ := res
    exact ⟨v, H2, J2.os, J2.bare, J2.base, J2.hok, rv, q2⟩
  | next =>
    obtain ⟨σ2, H2, J2, q2⟩ := res
    exact ⟨.non, H2, J2.os, J2.bare, J2.base, J2.hok, rfl, q2⟩
  | brk => exact res.elim fun _ z => z.elim fun _ z => z.2.elim
  | cont => exact res.elim fun _ z => z.elim fun _ z => z.2.elim
end
section
variable {X : Cx} {CX : CXT} {k : Nat} {f : Addr} {fd : FuncData} {ps : List Str} {sp : Sp} {E : XK} {x : Str} {p pos : Pos} {e : Expr} {es : List Expr} {ts : TA}
theorem pe_callG (F : FnG X.prog X.w X.K X.mg X.base CX k f fd ps sp) (gd : X.A.guards = some []) (room : Room k X.A) (hgl : Gl X x) (hmg : X.mg x = some (.ref f)) (hkp : PySem.W.keepIn X.K (.ref f) = true) (hbd : Binds X.K fd ps []) (hps : Passes CX X E)
    (ha : PA X (e :: es) ts) (hdb : (x == ("__debug__" : Str)) = false := by decide) (hst : starEach (e :: es) X.env = (false, eval e X.env) :: starEach es X.env := by rfl) (hpl : (backTo pos (starEach es X.env)).any (·.1) = false := by rfl) :
    PE X (.Call (.Name x p) (e :: es) [] pos) (tCall sp [] E ts) := by
  refine ⟨fun pins st σ H Q I want => wpAny_Call_Name_kw (ld_glob I hgl hmg (PySem.W.callWith_K (h₀ := X.base) I.ok.mod.kin hkp (thn (ha.run pos pins st σ H _ I want) ?_) hst hpl) hdb)⟩
  rintro us s1 ⟨vs, H1, J, rel, q⟩
  rw [List.append_nil] at q
  have hl : us.length = ps.length := rel.length.symm.trans (F.many _ _ _ _ q)
  have bd := hbd s1 us J.kIn (by rw [List.append_nil]; exact hl)
  rw [List.append_nil] at bd
  refine ⟨J.kIn, wpAny_call (codeAny_mono (F.goes X.A X.stack s1 H1 ⟨us, []⟩ us vs Q E gd room J.env0 bd rel q) fun res s2 hq => ?_)⟩
  cases res with
  | error er => exact hps pins σ H1 s1 er s2 J hq
  | ok fl =>
    cases fl with
    | ret u => exact J.after hq
    | next => exact hq.elim
    | brk => exact hq.elim
    | cont => exact hq.elim
end
/-- the law's own call, from its promise where no repr is under way -/
theorem law_callG {P : Program} {w : World} {K : PySem.W.Frag} {mg mb : Str → Option Value} {k : Nat} {fa a : Addr} {fd : FuncData} {x : Str} {sp : Sp} {t : Shared} {us : List Value} {ns : List Int}
    (kin : K.In t.heap) (gl : t.heap.Ns mainGlobals mg) (bl : t.heap.Ns builtinsNs mb) (bb : ∀ y : Str, y ≠ "__name__" → mb y = bootBuiltins y) (lim : t.heap.NoLimit) (gens : t.gens = #[])
    (scr : t.heap.get? a = some { cls := .type "list", data := .seq us.toArray }) (nsv : IntsAre us ns) (few : ns.length ≤ sizeLine) (room : Room k callerA)
    (F : ∀ base : Heap, K.In base → base.Ns mainGlobals mg → FnG P w K mg base CX0 k fa fd [x] sp) (bd : ∀ (st : Shared) (u : Value), BindsTo st fd ⟨[u], []⟩ [(x, u)])
    (want : ∀ H : Hp, Only H → SqL K H a (ns.map V.int) → sp [.ref a] H (fun v _ => v = .bl true) fun _ _ _ => False) :
    codeAny (model P w) callerA (.call (.ref fa) ⟨[.ref a], []⟩) (fun r t' => r = .ok (.ret (.bool true)) ∧ OldK t.heap t'.heap ∧ t'.os = t.os ∧ AllBare t'.gens) t := by
  have rel := vals_ints nsv
  have main : ∀ H : Hp, Only H → SqL K H a (ns.map V.int) → HOk P w H t.heap → (∀ b, H b ≠ none → b = a ∧ K.lookup a = none) →
      codeAny (model P w) callerA (.call (.ref fa) ⟨[.ref a], []⟩) (fun r t' => r = .ok (.ret (.bool true)) ∧ OldK t.heap t'.heap ∧ t'.os = t.os ∧ AllBare t'.gens) t := by
    intro H only seq ok alone
    have none_of : ∀ b, (b = a → K.lookup a ≠ none) → H b = none := fun b h => by
      cases e : H b with
      | none => rfl
      | some u =>
        have z := alone b (by rw [e]; simp)
        exact absurd z.2 (h z.1)
    have spaces : ∀ {b : Addr} {m : Str → Option Value}, t.heap.Ns b m → (hidT t.heap H).Ns b m := by
      rintro b m ⟨o, es, ep, e, d, r⟩
      refine ⟨o, es, ep, hidT_get e ?_, d, r⟩
      cases e2 : H b with
      | none => rfl
      | some u =>
        have z := (alone b (by rw [e2]; simp)).1
        subst z
        rw [scr] at e
        cases e
        exact nomatch (show Data.seq us.toArray _ = Data.dict es ep from d)
    have kin2 : K.In (hidT t.heap H) := fun b o e => hidT_get (kin b o e) (none_of b fun z => by rw [← z, e]; simp)
    obtain ⟨mc, c1, c2⟩ := lim
    have env : Env0 P w K mg (hidT t.heap H) callerA [] t H :=
      ⟨rfl, ⟨kin2, spaces gl, ⟨mb, spaces bl, bb⟩, ⟨mc, spaces c1, c2⟩⟩, fun b o e => of_hidT e, Nat.le_of_eq (hidT_size _ _), trivial, fun b hb => absurd (show b ∈ ([] : List Addr) from hb) (by simp), ok, .of_eq gens⟩
    refine codeAny_mono ((F _ kin2 (spaces gl)).goes callerA [] t H ⟨[.ref a], []⟩ [.ref a] [.ref a] _ _ rfl room env (bd t (.ref a)) (.cons rfl .nil) (want H only seq)) fun res t2 h => ?_
    cases res with
    | error er => exact h.elim
    | ok fl =>
      cases fl with
      | next => exact h.elim
      | brk => exact h.elim
      | cont => exact h.elim
      | ret u =>
        obtain ⟨v, H2, os, bare, un, ok2, rv, q⟩ := h
        cases (show v = .bl true from q)
        cases (show u = Value.bool true from rv)
        refine ⟨rfl, OldK.of_keep fun b o e => ?_, os, bare⟩
        cases e2 : H b with
        | none => exact un.keep b o e e2 (fun z => absurd (show b ∈ ([] : List Addr) from z) (by simp)) (by simp)
        | some u =>
          rcases only b with z | ⟨ob, xs, z⟩
          · rw [e2] at z
            cases z
          · have o1 := (ok b _ z).1
            have o2 := (ok2 b _ (un.frzs b ob _ z)).1
            rw [e] at o1
            cases o1
            exact o2
  cases there : K.lookup a with
  | some o =>
    have e := kin a o there
    rw [scr] at e
    cases e
    exact main (fun _ => none) (fun _ => .inl rfl) (.inr ⟨_, us.toArray, _, there, rfl, rfl, rfl, by rw [List.size_toArray, nsv.length]; exact few, by simpa using rel⟩) (fun b u z => nomatch (show (none : Option HO) = some u from z)) (fun b z => absurd rfl z)
  | none =>
    refine main (upd (fun _ => none) a (.frz { cls := .type "list", data := .seq us.toArray } (.lst (ns.map V.int)))) (fun b => ?_) (.inl (.inr ⟨_, upd_same⟩)) (fun b u z => ?_) (fun b z => ?_)
    · by_cases hb : b = a
      · rw [hb]
        exact .inr ⟨_, _, upd_same⟩
      · exact .inl (upd_ne hb)
    · by_cases hb : b = a
      · subst hb
        rw [upd_same] at z
        cases z
        exact ⟨scr, by rw [List.length_map]; exact few, us, _, rel, scr⟩
      · rw [upd_ne hb] at z
        cases z
    · by_cases hb : b = a
      · exact ⟨hb, there⟩
      · exact absurd (upd_ne hb) z
theorem walkG {l : PySem.W.OpenLaw} {n k : Nat} {q : Program} {loose : List Str} {XP : (Str → Option Value) → Heap → Prop} {YP : World → Heap → Prop} {d : DefRec} {K : Params → PySem.W.Frag} {sp : PySem.W.Frag → Sp} {x : Str}
    (most : l.most = some n) (few : n ≤ sizeLine) (nodef : d.params.defaults = []) (room : Room k callerA) (top : ∀ (w : World) (h : Heap), YP w h → (K w.params).In h)
    (F : ∀ (w : World) (mg : Str → Option Value) (fa : Addr) (h : Heap), (K w.params).In h → h.Ns mainGlobals mg → mg d.name = some (.ref fa) →
      ∃ fd : FuncData, (∀ (st : Shared) (u : Value), BindsTo st fd ⟨[u], []⟩ [(x, u)]) ∧ ∀ base : Heap, (K w.params).In base → base.Ns mainGlobals mg → FnG l.prog w (K w.params) mg base CX0 k fa fd [x] (sp (K w.params)))
    (want : ∀ (K : PySem.W.Frag) (H : Hp) (a : Addr) (ns : List Int), ns.length ≤ n → Only H → SqL K H a (ns.map V.int) → sp K [.ref a] H (fun v _ => v = .bl true) fun _ _ _ => False) :
    PySem.W.WalkO q loose XP YP l.row.toRowW d [] (fun f vs => PySem.call f vs) := by
  refine Att.attach_call most nodef fun w s0 t mg mb fa o pm cd doc a us ns G Y _ _ _ hmg scr nsv hlen gens => ?_
  obtain ⟨fd, bd, hF⟩ := F w mg fa _ (top w _ Y) G.T.g hmg
  exact law_callG (top w _ Y) G.T.g G.T.b G.T.builtins G.T.nolimit gens scr nsv (Nat.le_trans hlen few) room hF bd fun H only seq => want _ H a ns hlen only seq
end HF
namespace HF
open PySem PySem.Spec PyProof.Rows L2
/-! ### places -/
def pos (x : Str) : List Str → Nat
  | [] => 0
  | z :: r => if z = x then 0 else pos x r + 1
theorem pos_get {x : Str} : ∀ {zs : List Str}, x ∈ zs → zs[pos x zs]? = some x
  | z :: r, h => by
    unfold pos
    by_cases e : z = x
    · rw [if_pos e, e]
      rfl
    · rw [if_neg e, List.getElem?_cons_succ]
      exact pos_get ((List.mem_cons.mp h).resolve_left fun q => e q.symm)
theorem pos_first {x : Str} : ∀ {zs : List Str} {m : Nat}, m < pos x zs → zs[m]? ≠ some x
  | [], m, h => by simp
  | z :: r, m, h => by
    unfold pos at h
    by_cases e : z = x
    · rw [if_pos e] at h
      omega
    · rw [if_neg e] at h
      cases m with
      | zero =>
        intro q
        exact e (Option.some.inj q)
      | succ m =>
        rw [List.getElem?_cons_succ]
        exact pos_first (by omega)
theorem pos_inj {x y : Str} {zs : List Str} (hx : x ∈ zs) (hy : y ∈ zs) (h : pos x zs = pos y zs) : x = y := by
  have h1 := pos_get hx
  rw [h, pos_get hy] at h1
  exact (Option.some.inj h1).symm
def Hq (K : PySem.W.Frag) (H : Hp) (a : Addr) (zs : List Str) : Prop := SqL K H a (zs.map V.str) ∨ Tp H a (zs.map V.str)
theorem Hq.same {K : PySem.W.Frag} {a : Addr} {H H' : Hp} {zs : List Str} (h : Hq K H a zs) (o : Same H H') : Hq K H' a zs := h.imp (fun z => o.seq z) fun z => z.same o
theorem sameQ {K : PySem.W.Frag} {a : Addr} {H H' : Hp} {xs : List V} (o : Same H H') (h : Sq K H a xs) : Sq K H' a xs := h.imp (fun z => o.seq z) fun z => sameT o z
theorem strs_at {zs : List Str} {i : Nat} {z : Str} (h : zs[i]? = some z) : (zs.map V.str)[i]? = some (.str z) := by
  rw [List.getElem?_map, h]
  rfl
theorem strs_first {zs : List Str} {x : Str} : ∀ (m : Nat) (z : V), m < pos x zs → (zs.map V.str)[m]? = some z → eqV z (.str x) = false := by
  intro m z hm hz
  rw [List.getElem?_map] at hz
  obtain ⟨y, hy, rfl⟩ := Option.map_eq_some_iff.mp hz
  have hne : y ≠ x := fun e => pos_first hm (e ▸ hy)
  simpa [eqV] using hne
def spLies (K : PySem.W.Frag) : Sp := fun vs H Q _ => ∃ (a : Addr) (zs : List Str) (x y : Str), vs = [.ref a, .str x, .str y] ∧ Hq K H a zs ∧ x ∈ zs ∧ y ∈ zs ∧ Q (.bl (decide ((pos x zs : Int) < (pos y zs : Int)))) H
/-! ### the program's pairs round a ring, and how many go up -/
def TsAt (H : Hp) (ts : List Addr) (ps : List (V × V)) : Prop := ∀ (i : Nat) (t : Addr) (q : V × V), ts[i]? = some t → ps[i]? = some q → H t = some (.tup [q.1, q.2])
theorem prev_at {ms : List V} {y : V} {i : Nat} (hi : i < (ms ++ [y]).length) : ∃ u v, atI (ms ++ [y]) ((0 + (i : Int)) - 1) = some u ∧ atI (ms ++ [y]) (0 + (i : Int)) = some v ∧ ((y :: (ms ++ [y])).zip (ms ++ [y]))[i]? = some (u, v) := by
  have hv : (ms ++ [y])[i]? = some (ms ++ [y])[i] := List.getElem?_eq_getElem hi
  have h2 : atI (ms ++ [y]) (0 + (i : Int)) = some (ms ++ [y])[i] := by
    rw [Int.zero_add]
    exact atI_nat hv
  cases i with
  | zero =>
    refine ⟨y, _, ?_, h2, ?_⟩
    · exact atI_last ms y
    · rw [List.getElem?_zip_eq_some]
      exact ⟨rfl, hv⟩
  | succ j =>
    have hj : j < (ms ++ [y]).length := by omega
    have hu : (ms ++ [y])[j]? = some (ms ++ [y])[j] := List.getElem?_eq_getElem hj
    refine ⟨(ms ++ [y])[j], _, ?_, h2, ?_⟩
    · rw [show (0 + ((j + 1 : Nat) : Int)) - 1 = (j : Int) by omega]
      exact atI_nat hu
    · rw [List.getElem?_zip_eq_some]
      exact ⟨hu, hv⟩
def up (zs : List Str) (q : Str × Str) : Bool := decide ((pos q.2 zs : Int) < (pos q.1 zs : Int))
def num (zs : List Str) (ps : List (Str × Str)) : Nat := (ps.filter (up zs)).length
def spRt (K : PySem.W.Frag) : Sp := fun vs H Q _ => ∃ (a : Addr) (ms : List V) (y : V), vs = [.ref a] ∧ Sq K H a (ms ++ [y]) ∧ ms.length ≤ 1000 ∧
  ∀ (H' : Hp) (D : Addr) (ts : List Addr), Same H H' → H D = none → H' D = some (.lst (ts.map V.ref)) → ts.length = (ms ++ [y]).length → TsAt H' ts ((y :: (ms ++ [y])).zip (ms ++ [y])) → Q (.ref D) H'
def spRn (K : PySem.W.Frag) : Sp := fun vs H Q _ => ∃ (h a : Addr) (zs ms : List Str) (y : Str), vs = [.ref h, .ref a] ∧ Hq K H h zs ∧ Sq K H a ((ms ++ [y]).map V.str) ∧ (∀ x ∈ ms ++ [y], x ∈ zs) ∧ ms.length ≤ 1000 ∧
  ∀ H' : Hp, Same H H' → Q (.int (num zs ((y :: (ms ++ [y])).zip (ms ++ [y])) : Nat)) H'
def spNum (K : PySem.W.Frag) : Sp := fun vs H Q _ => ∃ (h a : Addr) (zs ls : List Str), vs = [.ref h, .ref a] ∧ Hq K H h zs ∧ SqL K H a (ls.map V.str) ∧ (∀ x ∈ ls, x ∈ zs) ∧ ls.length ≤ 1000 ∧ 1 ≤ ls.length ∧
  ∀ H' : Hp, Same H H' → Q (.int (num zs (ls.zip (ls.drop 1 ++ ls.take 1)) : Nat)) H'
theorem cutTo1 (xs : List V) : cutV xs none (some 1) = xs.take 1 := by
  unfold cutV
  rw [HT.sIx_none, show HT.sIx xs.length xs.length (some 1) = min 1 xs.length from HT.sIx_nat _ _ 1, List.drop_zero, Nat.sub_zero]
  cases xs with
  | nil => rfl
  | cons x r => rw [show min 1 (x :: r).length = 1 by rw [List.length_cons]; omega]
theorem cutFrom1 (xs : List V) : cutV xs (some 1) none = xs.drop 1 := by
  unfold cutV
  rw [show HT.sIx xs.length 0 (some 1) = min 1 xs.length from HT.sIx_nat xs.length 0 1, HT.sIx_none]
  cases xs with
  | nil => rfl
  | cons x r =>
    rw [show min 1 (x :: r).length = 1 by rw [List.length_cons]; omega]
    exact List.take_of_length_le (Nat.le_refl _)
end HF
namespace HF
open PySem PySem.Spec PyProof.Rows L2
/-- what is strewn of texts is texts -/
def strOf : V → Str
  | .str z => z
  | _ => ""
theorem perm_strs {ys : List V} {zs : List Str} (h : ys.Perm (zs.map V.str)) : ∃ xs : List Str, ys = xs.map V.str ∧ xs.Perm zs := by
  refine ⟨ys.map strOf, ?_, ?_⟩
  · rw [List.map_map]
    have e : ∀ y ∈ ys, (V.str ∘ strOf) y = y := fun y hy => by
      obtain ⟨z, _, rfl⟩ := List.mem_map.mp (h.mem_iff.mp hy)
      rfl
    rw [List.map_congr_left e, List.map_id']
  · have h2 := h.map strOf
    rw [List.map_map] at h2
    have e : zs.map (strOf ∘ V.str) = zs := by
      rw [show strOf ∘ V.str = id from rfl, List.map_id]
    rw [e] at h2
    exact h2
def spHeap : Sp := fun vs H Q _ => ∃ (p : Addr) (c : Int) (m n : Nat), vs = [.ref p, .int m, .int n] ∧ Bx H p c ∧ c < 2 ^ 38 ∧ m ≤ n ∧ n ≤ 20 ∧
  ∀ (H' : Hp) (t : Addr) (zs : List Str) (c' : Int), H t = none → Oth p H H' → Tp H' t (zs.map V.str) → m ≤ zs.length → zs.length ≤ n → zs.Nodup → (∀ z ∈ zs, Nm z) → Bx H' p c' → c ≤ c' → c' ≤ c + 300 → Q (.ref t) H'
end HF
namespace HF
open PySem PySem.Spec PyProof.Rows L2
theorem ty_list {K : PySem.W.Frag} {H : Hp} {a : Addr} {xs : List V} (h : SqL K H a xs) : TyX K H (.ref a) (.type "list") := by
  rcases h with (h | ⟨o, h⟩) | ⟨o, its, n, h, c, _⟩
  · exact .base (.lst h)
  · exact .base (.frz h)
  · exact .kList h c
theorem ty_tup {K : PySem.W.Frag} {H : Hp} {a : Addr} {xs : List V} (h : SqT K H a xs) : TyX K H (.ref a) (.type "tuple") := by
  rcases h with (h | ⟨o, h⟩) | ⟨o, its, n, h, c, _⟩
  · exact .base (.tup h)
  · exact .fTuple h
  · exact .kTuple h c
theorem any2 {K : PySem.W.Frag} {t a b : String} {r1 r2 : Bool} (h1 : kitB t a = some r1) (h2 : kitB t b = some r2) : PySem.W.kitAny K (.type t) [.type a, .type b] = some (r1 || r2) := by
  refine kitAny_cons (kit_ty h1) (fun e => kitAny_cons (kit_ty h2) (fun e2 => ?_) fun e2 => ?_) fun e => ?_
  · rw [e, e2]
    rfl
  · rw [e, e2]
    rfl
  · rw [e]
    rfl
theorem two_cls {a b : String} : Paired ClsV [V.ty a, V.ty b] [Value.type a, Value.type b] := .cons (.ty a) (.cons (.ty b) .nil)
theorem walk_zipT {K : PySem.W.Frag} {a b : Addr} {xs ys : List V} {n : Nat} (hx : xs.length = n) (hy : ys.length = n) : Walk (RZ.ItzT K a b) n (fun H => SqT K H a xs ∧ SqT K H b ys) (YPair (fun i => xs[i]?) (fun i => ys[i]?)) := by
  refine ⟨fun i H hi q => ⟨xs, ys, xs[i]'(by omega), ys[i]'(by omega), q.1, q.2, List.getElem?_eq_getElem _, List.getElem?_eq_getElem _⟩, fun H q => ⟨xs, ys, q.1, q.2, .inl (by omega)⟩, ?_⟩
  rintro i H x H' hi q ⟨T, u, v, e1, e2, e3, h1, h2⟩
  exact ⟨T, u, v, e1, e2, e3, h1 xs q.1, h2 ys q.2⟩
theorem dpAll_len {K : PySem.W.Frag} {H : Hp} : ∀ {xs : List V} {ds : List PyData}, DpAll K H xs ds → xs.length = ds.length
  | _, _, .nil => rfl
  | _, _, .cons _ t => by
    show _ + 1 = _ + 1
    rw [dpAll_len t]
theorem dpAll_at {K : PySem.W.Frag} {H : Hp} : ∀ {xs : List V} {ds : List PyData} {i : Nat} {x : V}, DpAll K H xs ds → xs[i]? = some x → ∃ d, ds[i]? = some d ∧ Dp K H x d
  | _, _, _, _, .nil, e => by simp at e
  | _, _, 0, _, .cons h _, e => by
    cases (show some _ = some _ from e)
    exact ⟨_, rfl, h⟩
  | _, _, i + 1, _, .cons _ t, e => dpAll_at (i := i) t (by simpa using e)
mutual
theorem Dp.up {K : PySem.W.Frag} {H H' : Hp} (sm : Same H H') : ∀ {v : V} {d : PyData}, Dp K H v d → Dp K H' v d
  | _, _, .non => .non
  | _, _, .bl b => .bl b
  | _, _, .int i => .int i
  | _, _, .str x => .str x
  | _, _, .lst h t => .lst (sm.seq h) (DpAll.up sm t)
  | _, _, .tup h t => .tup (sameT sm h) (DpAll.up sm t)
theorem DpAll.up {K : PySem.W.Frag} {H H' : Hp} (sm : Same H H') : ∀ {vs : List V} {ds : List PyData}, DpAll K H vs ds → DpAll K H' vs ds
  | _, _, .nil => .nil
  | _, _, .cons h t => .cons (Dp.up sm h) (DpAll.up sm t)
end
theorem all_at {ds : List PyData} : ∀ {i : Nat} {d : PyData}, ds[i]? = some d → PyData.canLayAll0 ds = true → PyData.canLay0 d = true ∧ PyData.depth d ≤ PyData.depthAll ds := by
  induction ds with
  | nil => intro i d h; simp at h
  | cons x r ih =>
    intro i d h c
    have c2 : (PyData.canLay0 x && PyData.canLayAll0 r) = true := c
    rw [Bool.and_eq_true] at c2
    have e : PyData.depthAll (x :: r) = max (PyData.depth x) (PyData.depthAll r) := rfl
    cases i with
    | zero =>
      cases (show some x = some d from h)
      exact ⟨c2.1, by rw [e]; omega⟩
    | succ i =>
      have := ih (show r[i]? = some d from h) c2.2
      exact ⟨this.1, by rw [e]; omega⟩
mutual
def wide : PyData → Nat
  | .list xs => max xs.length (wideAll xs)
  | .tuple xs => max xs.length (wideAll xs)
  | _ => 0
def wideAll : List PyData → Nat
  | [] => 0
  | x :: r => max (wide x) (wideAll r)
end
theorem wide_at {ds : List PyData} : ∀ {i : Nat} {d : PyData}, ds[i]? = some d → wide d ≤ wideAll ds := by
  induction ds with
  | nil => intro i d h; simp at h
  | cons x r ih =>
    intro i d h
    have e : wideAll (x :: r) = max (wide x) (wideAll r) := rfl
    cases i with
    | zero =>
      cases (show some x = some d from h)
      omega
    | succ i =>
      have := ih (show r[i]? = some d from h)
      omega
theorem trues {bs : List Bool} (h : ∀ b ∈ bs, b = true) : bs.all id = true := List.all_eq_true.mpr fun b hb => h b hb
def spSame (K : PySem.W.Frag) (n : Nat) : Sp := fun vs H Q _ => ∃ (x y : V) (d : PyData), vs = [x, y] ∧ Dp K H x d ∧ Dp K H y d ∧ d.canLay0 = true ∧ d.depth ≤ n ∧ d.depth ≤ 60 ∧ wide d ≤ 100000 ∧ ∀ H' : Hp, Same H H' → Q (.bl true) H'
end HF
namespace HF
open PySem PySem.Spec PyProof.Rows L2
/-! ### f(k = v, ..) without a value by place -/
section
variable {X : Cx} {CX : CXT} {k : Nat} {f : Addr} {fd : FuncData} {ps ks : List Str} {sp : Sp} {E : XK} {x : Str} {p pos : Pos} {kws : List Keyword} {tk : TA} {g : List Value → List Value → List Value} {gV : List V → List V → List V}
def tKw (sp : Sp) (gV : List V → List V → List V) (E : XK) (tk : TA) : TE := fun σ H Q => tk σ H fun zs H2 => sp (gV [] zs) H2 Q E
theorem pe_callK0 (F : FnOk X.prog X.w X.K X.mg X.base CX k f fd ps sp) (room : Room k X.A) (hgl : Gl X x) (hmg : X.mg x = some (.ref f)) (hkp : PySem.W.keepIn X.K (.ref f) = true) (hbd : KBinds X.K fd ps ks g gV) (hps : Passes CX X E) (hkw : PK X kws tk)
    (hall : (backToKw pos (keywordEach kws X.env)).all (·.1.isSome) = true := by rfl) (hks : (backToKw pos (keywordEach kws X.env)).filterMap (·.1) = ks := by rfl) (hdb : (x == ("__debug__" : Str)) = false := by decide)
    (hpl : ((backTo pos (starEach [] X.env)).any (·.1) || (backToKw pos (keywordEach kws X.env)).any (·.1.isNone)) = false := by rfl) :
    PE X (.Call (.Name x p) [] kws pos) (tKw sp gV E tk) := by
  refine ⟨fun pins st σ H Q I want => wpAny_Call_Name_kw (ld_glob I hgl hmg (PySem.W.callWith_KW0 (h₀ := X.base) I.ok.mod.kin hkp hall (thn (hkw.run pos pins st σ H _ I want) ?_) hpl) hdb)⟩
  rintro ws s2 ⟨zs, H2, J, rz, q⟩
  refine ⟨J.kIn, ?_⟩
  rw [hks]
  exact run_fnk F room hbd hps J .nil rz q
end
/-- two values by name, the second parameter's ahead -/
def g21 {α : Type} : List α → List α → List α
  | [], [r, h] => [h, r]
  | _, _ => []
theorem g21_rel {vs : List V} {us : List Value} {zs : List V} {ws : List Value} (h1 : Vals vs us) (h2 : Vals zs ws) : Vals (g21 vs zs) (g21 us ws) := by
  cases h1 with
  | cons _ _ => cases h2 <;> exact .nil
  | nil =>
    cases h2 with
    | nil => exact .nil
    | cons a t =>
      cases t with
      | nil => exact .nil
      | cons b t2 =>
        cases t2 with
        | nil => exact .cons b (.cons a .nil)
        | cons _ _ => exact .nil
/-! ### t[::-1] of a tuple -/
section
variable {prog : Program} {w : World} {A : Around} {E : Value → Shared → Prop} {s : Shared}
theorem sliceApplied_back {sl : Addr} {vs : Value} {n : Nat} {Q : Int × Int × Nat → Shared → Prop} (hs : s.heap.IsSliceOf sl .none .none vs) (pst : IsPart vs (some (-1)))
    (h : Q ((n : Int) - 1, -1, n) s) : wpAny (model prog w) A (Builtin.Slice.sliceApplied (.ref sl) (pure (n : Int))) Q E s := by
  obtain ⟨ob, h1, h2, h3⟩ := id hs
  unfold Builtin.Slice.sliceApplied Builtin.Slice.sliceFields
  refine wpAny_bind (wpAny_bind (wpAny_field h1 h3 (x := .none) rfl (wpAny_bind (wpAny_field h1 h3 (x := .none) rfl (wpAny_bind (wpAny_field h1 h3 (x := vs) rfl (wpAny_pure ?_)))))))
  refine wpAny_bind (HT.slicePart_ pst ?_)
  show wpAny _ _ (if ((-1 : Int) == 0) = true then _ else _) _ _ s
  rw [if_neg (by decide)]
  refine wpAny_bind (HT.slicePart_ .none (wpAny_bind (HT.slicePart_ .none (wpAny_bind (wpAny_pure ?_)))))
  have e1 : Builtin.Slice.sliceAdjust none none (-1) (n : Int) = ((n : Int) - 1, -1) := rfl
  have e2 : Builtin.Slice.slicePlaces ((n : Int) - 1) (-1) (-1) = n := by
    unfold Builtin.Slice.slicePlaces
    rw [if_neg (by decide), show (- -1 : Int) = 1 by decide, Int.ediv_one]
    split <;> omega
  show wpAny _ _ (match Builtin.Slice.sliceAdjust none none (-1) (n : Int) with | (lo, hi) => pure (lo, (-1 : Int), Builtin.Slice.slicePlaces lo hi (-1))) _ _ s
  rw [e1]
  show wpAny _ _ (pure ((n : Int) - 1, (-1 : Int), Builtin.Slice.slicePlaces ((n : Int) - 1) (-1) (-1))) _ _ s
  rw [e2]
  exact wpAny_pure h
theorem fm_congr {α β : Type} {f g : α → Option β} : ∀ {l : List α}, (∀ x ∈ l, f x = g x) → l.filterMap f = l.filterMap g
  | [], _ => rfl
  | a :: r, h => by
    rw [List.filterMap_cons, List.filterMap_cons, h a List.mem_cons_self, fm_congr fun x hx => h x (List.mem_cons_of_mem _ hx)]
theorem pick_back (xs : Array Value) : ((List.range xs.size).filterMap fun (m : Nat) => xs[(((xs.size : Int) - 1) + (m : Int) * (-1)).toNat]?).toArray = xs.toList.reverse.toArray := by
  have e : (List.range xs.size).filterMap (fun (m : Nat) => xs[(((xs.size : Int) - 1) + (m : Int) * (-1)).toNat]?) = ((List.range xs.size).map fun m => xs.size - 1 - m).filterMap (xs[·]?) := by
    rw [List.filterMap_map]
    refine fm_congr fun m hm => ?_
    have := List.mem_range.mp hm
    show xs[(((xs.size : Int) - 1) + (m : Int) * (-1)).toNat]? = xs[xs.size - 1 - m]?
    rw [show (((xs.size : Int) - 1) + (m : Int) * (-1)).toNat = xs.size - 1 - m by omega]
  rw [e, PySem.W.krv_range, List.filterMap_reverse, PySem.W.krv_all]
theorem getItem_tuple_back {t sl : Addr} {items : Array Value} {vs : Value} {Q : Value → Shared → Prop} (ht : IsTup s.heap t items) (hs : s.heap.IsSliceOf sl .none .none vs) (pst : IsPart vs (some (-1)))
    (h : Q (.ref s.heap.objs.size) { s with heap := s.heap.push { cls := .type "tuple", data := .seq items.toList.reverse.toArray } }) (hsz : items.size ≤ sizeLine) : wpAny (model prog w) A (getItem (.ref t) (.ref sl)) Q E s := by
  have hok : sizeOk (.seq items.toList.reverse.toArray) := by
    show items.toList.reverse.toArray.size ≤ sizeLine
    rw [List.size_toArray, List.length_reverse, Array.length_toList]
    exact hsz
  obtain ⟨ob, h1, h2, h3⟩ := id hs
  have hty : s.TypeIs (.ref sl) "slice" := ⟨ob, h1, h2⟩
  unfold getItem
  try with_reducible refine wpAny_holding ?_
  first | refine wpAny_bind (wpAny_pure ?_) | skip
  refine wpAny_bind (wpAny_sequenceKey ht.typeIs (by decide) (wpAny_bind (wpAny_callSpecial?_slot (name := Str.ofString "__getitem__") ht.typeIs PyProof.Rows.slot_tuple_getitem (wpAny_call_entry PyProof.Rows.slot_tuple_getitem ht.typeIs entry_tuple_getitem ?_ (args_tuple_getitem _ _)))))
  show wpAny _ _ (Builtin.Tuple.tupleItemsOf (.ref t) >>= _) _ _ s
  refine wpAny_bind (tupleItemsOf_ ht (wpAny_bind (wpAny_typeOf hty ?_)))
  rw [if_pos (by decide)]
  refine wpAny_bind (sliceApplied_back hs pst ?_)
  show wpAny _ _ (if (((items.size : Int) - 1 == 0) && ((-1 : Int) == 1) && (items.size == items.size)) = true then _ else _) _ _ s
  rw [if_neg (by simp), pick_back]
  first
    | exact wpAny_bind (m := Builtin.Tuple.tupleExact _) (wpAny_newObj_type (wpAny_pure ⟨_, rfl, wpAny_pure h⟩) hok)
    | exact wpAny_bind (m := Builtin.Tuple.tupleExact _) (wpAny_newObj_type (wpAny_bind (wpAny_pure (wpAny_pure ⟨_, rfl, wpAny_pure h⟩))) hok)
    | exact wpAny_bind (wpAny_bind (m := Builtin.Tuple.tupleExact _) (wpAny_newObj_type (wpAny_pure (wpAny_pure ⟨_, rfl, wpAny_pure h⟩)) hok))
    | exact wpAny_bind (wpAny_bind (m := Builtin.Tuple.tupleExact _) (wpAny_newObj_type (wpAny_pure ⟨_, rfl, wpAny_pure h⟩) hok))
end
section
variable {X : Cx}
def tRevT (K : PySem.W.Frag) (te : TE) : TE := fun σ H Q => te σ H fun x H1 => ∃ a xs, x = .ref a ∧ SqT K H1 a xs ∧ ∀ p ob, H1 p = none → ob.cls = .type "tuple" → ob.dict = none → Q (.ref p) (upd H1 p (.frz ob (.tup xs.reverse)))
theorem pe_revT {e : Expr} {te : TE} {k : Nat} {p1 p2 p3 pos : Pos} (he : PE X e te) : PE X (.Subscript e (.Slice none none (some (.UnaryOp .USub (.Constant (.int 1) k p1) p2)) p3) pos) (tRevT X.K te) := by
  refine ⟨fun pins st σ H Q I want => Subscript_ (thn (he.run pins st σ H _ I want) ?_)⟩
  rintro v s1 ⟨x, H1, I1, r1, a, xs, rfl, hx, q⟩
  cases r1
  have part : PO X (some (.UnaryOp .USub (.Constant (.int 1) k p1) p2)) (tPart (tUn (rU fun i => .int (-i)) (tC (.int 1)))) := po_some (pe_un un_neg pe_int)
  refine wpAny_Slice (thn (po_none.run pins s1 σ H1 (fun o H2 => o = none ∧ H2 = H1) I1 ⟨rfl, rfl⟩) ?_)
  rintro vl s2 ⟨l, H2, I2, pl, rfl, rfl⟩
  refine thn (po_none.run pins s2 σ H2 (fun o H3 => o = none ∧ H3 = H2) I2 ⟨rfl, rfl⟩) ?_
  rintro vu s3 ⟨u, H3, I3, pu, rfl, rfl⟩
  refine thn (part.run pins s3 σ H3 (fun o H4 => o = some (-1) ∧ H4 = H3) I3 ⟨1, rfl, -1, rfl, rfl, rfl⟩) ?_
  rintro vs s4 ⟨o, H4, I4, pst, rfl, rfl⟩
  cases pl
  cases pu
  have J : Inv X pins σ H4 { s4 with heap := s4.heap.push { cls := .type "slice", data := .fields #[.none, .none, vs] } } := I4.kept (t' := s4.toks) fun b ob e => Heap.get?_push_of_some _ e
  obtain ⟨its, rI, ht, hz⟩ := J.tuple hx
  have hlen := rI.length
  show wpAny (model X.prog X.w) X.A (subscriptTail e (.Slice none none (some (.UnaryOp .USub (.Constant (.int 1) k p1) p2)) p3) (.ref a) (.ref s4.heap.objs.size)) (EP X pins σ Q) X.xe { s4 with heap := s4.heap.push { cls := .type "slice", data := .fields #[.none, .none, vs] } }
  refine tail_any (ops := [.ref a, .ref s4.heap.objs.size]) ht.typeIs PyProof.Rows.slot_tuple_getitem.lookup ?_ (by with_unfolding_all rfl)
  refine getItem_tuple_back ht (Heap.IsSliceOf.new _ .none .none vs) pst ?_ (by rw [List.size_toArray]; omega)
  let od : Obj := { cls := .type "tuple", data := .seq its.reverse.toArray }
  refine ⟨.ref _, _, J.laid (t' := s4.toks) (o := .frz od (.tup xs.reverse)) (fun b ob e => Heap.get?_push_of_some _ e) (Nat.le_refl _) ?_, rfl, q _ od (J.hok.fresh (Nat.le_refl _)) rfl rfl⟩
  exact ⟨Heap.get?_push_size _ rfl, by rw [List.length_reverse]; exact hz, _, rI.reverse, IsTup.new _ _⟩
end
end HF
/-! tables of sets at masks to 511 -/
namespace HF
open PySem PySem.Spec PyProof.Rows L2
/-! ### i -> 5 i + 1 comes to every slot -/
def marks (m : Nat) : Nat → Nat → Nat → Nat
  | 0, _, acc => acc
  | n + 1, x, acc => marks m n ((x * 5 + 1) % (m + 1)) (acc ||| 2 ^ x)
theorem marks_from (m j : Nat) : ∀ (n b acc : Nat), (marks m n (lcgN m b) acc).testBit j = true → acc.testBit j = true ∨ ∃ k, k < n ∧ lcgN m (b + k) = j
  | 0, _, _, h => .inl h
  | n + 1, b, acc, h => by
    rcases marks_from m j n (b + 1) (acc ||| 2 ^ lcgN m b) h with q | ⟨k, hk, e⟩
    · rw [Nat.testBit_or, Bool.or_eq_true] at q
      rcases q with q | q
      · exact .inl q
      · rw [Nat.testBit_two_pow] at q
        exact .inr ⟨0, Nat.succ_pos n, of_decide_eq_true q⟩
    · exact .inr ⟨k + 1, Nat.succ_lt_succ hk, by rw [show b + (k + 1) = b + 1 + k by omega]; exact e⟩
structure Mo (m : Nat) : Prop where
  odd : m % 2 = 1
  few : m ≤ 511
  all : marks m (m + 1) 0 0 = 2 ^ (m + 1) - 1
  back : lcgN m (m + 1) = 0
theorem mo7 : Mo 7 := ⟨rfl, by decide, by decide +kernel, by decide +kernel⟩
theorem mo31 : Mo 31 := ⟨rfl, by decide, by decide +kernel, by decide +kernel⟩
theorem mo127 : Mo 127 := ⟨rfl, by decide, by decide +kernel, by decide +kernel⟩
theorem mo511 : Mo 511 := ⟨rfl, by decide, by decide +kernel, by decide +kernel⟩
theorem Mo.hit {m : Nat} (h : Mo m) {j : Nat} (hj : j ≤ m) : ∃ b, b ≤ m ∧ lcgN m b = j := by
  have e : (marks m (m + 1) (lcgN m 0) 0).testBit j = true := by
    show (marks m (m + 1) 0 0).testBit j = true
    rw [h.all, Nat.testBit_two_pow_sub_one]
    exact decide_eq_true (by omega)
  rcases marks_from m j (m + 1) 0 0 e with q | ⟨k, hk, q⟩
  · rw [Nat.zero_testBit] at q
    cases q
  · exact ⟨k, by omega, by rw [Nat.zero_add] at q; exact q⟩
theorem Mo.again {m : Nat} (h : Mo m) : ∀ k, lcgN m (m + 1 + k) = lcgN m k
  | 0 => h.back
  | k + 1 => congrArg (fun z => (z * 5 + 1) % (m + 1)) (Mo.again h k)
theorem Mo.cov {m : Nat} (h : Mo m) {i j : Nat} (hi : i ≤ m) (hj : j ≤ m) : ∃ k, k ≤ m ∧ lcgI m i k = j := by
  obtain ⟨a, ha, rfl⟩ := h.hit hi
  obtain ⟨b, hb, rfl⟩ := h.hit hj
  by_cases c : a ≤ b
  · exact ⟨b - a, by omega, by rw [lcgN_add, show a + (b - a) = b by omega]⟩
  · exact ⟨m + 1 + b - a, by omega, by rw [lcgN_add, show a + (m + 1 + b - a) = m + 1 + b by omega, h.again]⟩
theorem Mo.starts {m : Nat} (h : Mo m) (x : Int) {j : Nat} (hj : j ≤ m) : ∃ n, n ≤ m + 12 ∧ runI m (SetTable.bits x) n = j := by
  obtain ⟨k, hk, e⟩ := h.cov (runI_le m (SetTable.bits x) 12) hj
  exact ⟨12 + k, by omega, (runI_tail (bits_lt x) k).trans e⟩
theorem Mo.meets {m : Nat} (h : Mo m) (x : Int) {j : Nat} (hj : j ≤ m) : ∃ k, k < 10 * SetTable.turns m ∧ way m x k = j := by
  obtain ⟨n, hn, e⟩ := h.starts x hj
  obtain ⟨k, hk, e2⟩ := run_nth m (SetTable.bits x) n
  refine ⟨k, ?_, (congrArg SetTable.Probe.j e2).trans e⟩
  show k < 10 * (m + 15)
  omega
theorem way_in (m : Nat) (x : Int) (k : Nat) : way m x k ≤ m := by
  have h0 : SetTable.bits x % (m + 1) ≤ m := Nat.le_of_lt_succ (Nat.mod_lt _ (Nat.succ_pos m))
  have h1 := (runEnd_bd h0)
  have := nth_in k (runAt m (SetTable.bits x % (m + 1)) (SetTable.bits x)) (m := m) (by
    show SetTable.bits x % (m + 1) + (SetTable.runEnd m (SetTable.bits x % (m + 1)) - SetTable.bits x % (m + 1)) ≤ m
    omega)
  show (nth m _ k).j ≤ m
  omega
/-- a table in which each is met again on its hash's way -/
structure Tb (t : SetTable) (hs : List Int) : Prop where
  up : Ris t.place.toList
  none : t.dummies = #[]
  size : t.place.size = hs.length
  mo : Mo t.mask
  within : ∀ x ∈ t.place.toList, x ≤ t.mask
  met : ∀ (i : Nat) (x : Int) (j : Nat), hs[i]? = some x → t.place.toList[i]? = some j → ∃ k, way t.mask x k = j ∧ ∀ k', k' < k → way t.mask x k' ∈ t.place.toList
theorem Tb.gap {t : SetTable} {hs : List Int} (T : Tb t hs) (few : hs.length ≤ t.mask) (x : Int) : ∃ n, n < 10 * SetTable.turns t.mask ∧ way t.mask x n ∉ t.place.toList ∧ ∀ k, k < n → way t.mask x k ∈ t.place.toList := by
  obtain ⟨j, hj, free⟩ := st_missing t.place.toList (t.mask + 1) (by
    rw [Array.length_toList, T.size]
    omega)
  obtain ⟨k, hk, e⟩ := T.mo.meets x (Nat.le_of_lt_succ hj)
  obtain ⟨n, h1, h2, h3⟩ := st_least (p := fun k => way t.mask x k ∉ t.place.toList) k (by
    show way t.mask x k ∉ _
    rw [e]
    exact free)
  exact ⟨n, by omega, h2, fun k' hk' => Classical.byContradiction (h3 k' hk')⟩
theorem Tb.ahead {t : SetTable} {hs : List Int} (T : Tb t hs) {x : Int} {n i j : Nat} (free : way t.mask x n ∉ t.place.toList) (hi : hs[i]? = some x) (hj : t.place.toList[i]? = some j) : ∃ k, k < n ∧ way t.mask x k = j := by
  obtain ⟨k, e, before⟩ := T.met i x j hi hj
  refine ⟨k, Nat.lt_of_not_le fun c => ?_, e⟩
  rcases Nat.lt_or_eq_of_le c with c | c
  · exact free (before n c)
  · subst c
    rw [e] at free
    exact free (List.mem_of_getElem? hj)
theorem Tb.more {t : SetTable} {hs : List Int} (T : Tb t hs) {x : Int} {n : Nat} (free : way t.mask x n ∉ t.place.toList) (before : ∀ k, k < n → way t.mask x k ∈ t.place.toList) :
    SetTable.below t.place (way t.mask x n) ≤ hs.length ∧ Tb (t.put (way t.mask x n)).1 (hs.take (SetTable.below t.place (way t.mask x n)) ++ x :: hs.drop (SetTable.below t.place (way t.mask x n))) ∧ (t.put (way t.mask x n)).1.fill = hs.length + 1 := by
  have hin : way t.mask x n ≤ t.mask := way_in _ _ _
  generalize hw : way t.mask x n = j at *
  have cut := (below_cut T.up j).1
  have cl : SetTable.below t.place j ≤ t.place.toList.length := by
    rw [Array.length_toList]
    exact cut
  have ch : SetTable.below t.place j ≤ hs.length := T.size ▸ cut
  have pl := put_place t j
  have sz : (t.put j).1.place.size = hs.length + 1 := by
    rw [← Array.length_toList, pl, len_ins _ cl, Array.length_toList, T.size]
  have grow : ∀ {y : Nat}, y ∈ t.place.toList → y ∈ (t.put j).1.place.toList := fun hy => by
    rw [pl]
    exact mem_ins.2 (.inr hy)
  have nd := put_dm T.none j
  refine ⟨ch, ⟨ris_insert T.up fun e => free (List.mem_of_getElem? (by rw [Array.getElem?_toList]; exact e)), nd, by rw [len_ins _ ch]; exact sz, T.mo, fun y hy => ?_, fun i x' j' h1 h2 => ?_⟩, ?_⟩
  · rw [pl] at hy
    exact (mem_ins.1 hy).elim (fun e => e ▸ hin) fun e => T.within y e
  · rw [tins_get hs ch] at h1
    rw [pl, tins_get _ cl] at h2
    have old : ∀ {i : Nat}, hs[i]? = some x' → t.place.toList[i]? = some j' → ∃ k, way t.mask x' k = j' ∧ ∀ k', k' < k → way t.mask x' k' ∈ (t.put j).1.place.toList := fun e1 e2 => by
      obtain ⟨k, e, r⟩ := T.met _ x' j' e1 e2
      exact ⟨k, e, fun k' hk' => grow (r k' hk')⟩
    by_cases c : i < SetTable.below t.place j
    · rw [if_pos c] at h1 h2
      exact old h1 h2
    · rw [if_neg c] at h1 h2
      by_cases d : i = SetTable.below t.place j
      · rw [if_pos d] at h1 h2
        cases h1
        cases h2
        exact ⟨n, hw, fun k' hk' => grow (before k' hk')⟩
      · rw [if_neg d] at h1 h2
        exact old h1 h2
  · show (t.put j).1.place.size + (t.put j).1.dummies.size = hs.length + 1
    rw [sz, nd]
    rfl
/-! ### laid anew -/
theorem Mo.frees {m : Nat} (hm : Mo m) (owner : Array (Option Nat)) (x : Int) {j : Nat} (hj : j ≤ m) (hf : oAt owner j = none) :
    ∃ n, SetTable.layClean.free m owner (SetTable.turns m) (SetTable.bits x % (m + 1)) (SetTable.bits x) = some (way m x n) ∧ oAt owner (way m x n) = none ∧ ∀ k, k < n → oAt owner (way m x k) ≠ none := by
  obtain ⟨r, hr, e⟩ := hm.starts x hj
  have hw : way m x (off m (SetTable.bits x % (m + 1)) (SetTable.bits x) r) = j := by
    show (nth m _ _).j = j
    rw [nth_off, itL_run]
    exact e
  obtain ⟨n, n1, n2, n3⟩ := st_least (p := fun k => oAt owner (way m x k) = none) _ (show oAt owner (way m x _) = none from hw ▸ hf)
  refine ⟨n, free_spec m owner (SetTable.turns m) r _ _ n (by show r < m + 15; omega) n1 (fun k hk => ?_) ?_, n2, n3⟩
  · cases z : oAt owner (nth m (runAt m (SetTable.bits x % (m + 1)) (SetTable.bits x)) k).j with
    | none => exact absurd z (n3 k hk)
    | some _ => rfl
  · rw [show oAt owner (nth m (runAt m (SetTable.bits x % (m + 1)) (SetTable.bits x)) n).j = none from n2]
    rfl
theorem Mo.owns {m : Nat} (hm : Mo m) {done : List Int} {owner : Array (Option Nat)} (W : Own m done owner) (few : done.length ≤ m) (x : Int) :
    ∃ j, SetTable.layClean.free m owner (SetTable.turns m) (SetTable.bits x % (m + 1)) (SetTable.bits x) = some j ∧ Own m (done ++ [x]) (owner.setIfInBounds j (some done.length)) := by
  obtain ⟨qs, many, inq⟩ := W.ps
  obtain ⟨j0, lt0, no0⟩ := st_missing qs (m + 1) (by omega)
  have free0 : oAt owner j0 = none := by
    cases z : oAt owner j0 with
    | none => rfl
    | some k => exact absurd (inq j0 (by omega) (by rw [z]; simp)) no0
  obtain ⟨n, f1, f2, f3⟩ := hm.frees owner x (Nat.le_of_lt_succ lt0) free0
  have lem := way_in m x n
  have own := oAt_set_self (some done.length) (show way m x n < owner.size by rw [W.sz]; omega)
  have keep : ∀ {i : Nat}, oAt owner i ≠ none → oAt (owner.setIfInBounds (way m x n) (some done.length)) i ≠ none := fun {i} hi => by
    by_cases c : i = way m x n
    · rw [c, own]
      simp
    · rw [oAt_set_ne _ c]
      exact hi
  refine ⟨_, f1, ⟨by rw [Array.size_setIfInBounds]; exact W.sz, fun j k hj e => ?_, fun k hk => ?_, ⟨way m x n :: qs, by simp [many], fun j hj e => ?_⟩⟩⟩
  · by_cases c : j = way m x n
    · subst c
      rw [own] at e
      cases e
      exact ⟨x, n, by simp, rfl, fun k' hk' => keep (f3 k' hk')⟩
    · rw [oAt_set_ne _ c] at e
      obtain ⟨x', n', a1, a2, a3⟩ := W.at_ j k hj e
      exact ⟨x', n', by rw [List.getElem?_append_left (List.getElem?_eq_some_iff.mp a1).1]; exact a1, a2, fun k' hk' => keep (a3 k' hk')⟩
  · by_cases c : k < done.length
    · obtain ⟨j, hj, e⟩ := W.all k c
      exact ⟨j, hj, by rw [oAt_set_ne _ (fun z => by rw [z, f2] at e; cases e)]; exact e⟩
    · rw [List.length_append] at hk
      have ek : k = done.length := by
        have : ([x] : List Int).length = 1 := rfl
        omega
      exact ⟨_, lem, by rw [own, ek]⟩
  · by_cases c : j = way m x n
    · rw [c]
      exact List.mem_cons_self
    · rw [oAt_set_ne _ c] at e
      exact List.mem_cons_of_mem _ (inq j hj e)
theorem Mo.folds {m : Nat} (hm : Mo m) : ∀ (rest done : List Int) (owner : Array (Option Nat)), Own m done owner → done.length + rest.length ≤ m →
    ∃ ow, rest.foldl (stepF m) (some (owner, done.length)) = some (ow, (done ++ rest).length) ∧ Own m (done ++ rest) ow
  | [], done, owner, W, _ => ⟨owner, by rw [List.append_nil]; rfl, by rw [List.append_nil]; exact W⟩
  | x :: rest, done, owner, W, few => by
    have few2 : done.length + (rest.length + 1) ≤ m := few
    obtain ⟨j, e, W1⟩ := hm.owns W (by omega) x
    have l1 : (done ++ [x]).length = done.length + 1 := by simp
    obtain ⟨ow, f, W2⟩ := Mo.folds hm rest (done ++ [x]) _ W1 (by omega)
    rw [List.append_assoc, List.singleton_append] at f W2
    rw [l1] at f
    exact ⟨ow, by rw [List.foldl_cons, stepF_some e]; exact f, W2⟩
theorem relaid_mo (t : SetTable) {hs : Array Int} {wanted M : Nat} (hw : SetTable.sizeAbove wanted - 1 = M) (hM : Mo M) (few : hs.size ≤ M) :
    ∃ t' order, t.relaid hs wanted = some (t', order) ∧ order.toList.Perm (List.range hs.size) ∧ Tb t' (order.toList.map fun i => hs.getD i 0) ∧ t'.mask = M ∧ t'.led = t.led ∧ t'.plain = t.plain := by
  obtain ⟨owner, f, W⟩ := hM.folds hs.toList [] _ (Own.init M) (by show 0 + hs.toList.length ≤ M; rw [Array.length_toList]; omega)
  rw [List.nil_append] at W
  have lay : SetTable.layClean M hs = some owner := by
    rw [layClean_eq, show hs.toList.foldl (stepF M) (some (Array.replicate (M + 1) none, 0)) = some (owner, ([] ++ hs.toList).length) from f]
    rfl
  have rising := ris_live (fun j => owner.getD j none) (List.range (M + 1)) (by
    unfold Ris
    first | exact List.pairwise_lt_range | exact List.pairwise_lt_range _)
  have up : Ris ((liveOf M owner).map (·.1)) := rising.1
  have many : (liveOf M owner).length = hs.size := by
    obtain ⟨qs, q1, q2⟩ := W.ps
    have unlike : ((liveOf M owner).map (·.1)).Nodup := List.Pairwise.imp (fun h => Nat.ne_of_lt h) up
    have le1 := nat_nodup_len ((liveOf M owner).map (·.1)) qs unlike (fun y hy => by
      obtain ⟨⟨y', k⟩, hq, rfl⟩ := List.mem_map.mp hy
      obtain ⟨b1, b2⟩ := (mem_live W.sz).1 hq
      exact q2 _ b1 (by rw [b2]; simp))
    have le2 := nat_nodup_len (List.range hs.size) ((liveOf M owner).map (·.2)) List.nodup_range (fun k hk => by
      obtain ⟨j, b1, b2⟩ := W.all k (by rw [Array.length_toList]; exact List.mem_range.mp hk)
      exact List.mem_map.mpr ⟨(j, k), (mem_live W.sz).2 ⟨b1, b2⟩, rfl⟩)
    rw [List.length_map, q1] at le1
    have hz : hs.toList.length = hs.size := Array.length_toList
    rw [List.length_map, List.length_range] at le2
    omega
  refine ⟨tabOf t M owner, ((liveOf M owner).map (·.2)).toArray, by rw [relaid_eq, hw, lay]; rfl, ?_, ⟨up, rfl, ?_, hM, fun y hy => ?_, fun i x j h1 h2 => ?_⟩, rfl, rfl, rfl⟩
  · refine perm_range hs.size _ (by show ((liveOf M owner).map (·.2)).length = hs.size; rw [List.length_map]; exact many) fun k hk => ?_
    obtain ⟨j, b1, b2⟩ := W.all k (by rw [Array.length_toList]; exact hk)
    exact List.mem_map.mpr ⟨(j, k), (mem_live W.sz).2 ⟨b1, b2⟩, rfl⟩
  · show ((liveOf M owner).map (·.1)).toArray.size = (((liveOf M owner).map (·.2)).map fun i => hs.getD i 0).length
    simp
  · exact Nat.le_of_lt_succ (List.mem_range.mp (rising.2 y hy))
  · have h1' : (((liveOf M owner).map (·.2)).map fun i => hs.getD i 0)[i]? = some x := h1
    have h2' : ((liveOf M owner).map (·.1))[i]? = some j := h2
    rw [List.getElem?_map] at h2'
    rw [List.getElem?_map, List.getElem?_map] at h1'
    obtain ⟨⟨y, k⟩, hq, rfl⟩ := Option.map_eq_some_iff.mp h2'
    rw [hq] at h1'
    have ex : hs.getD k 0 = x := Option.some.inj h1'
    obtain ⟨b1, b2⟩ := (mem_live W.sz).1 (List.mem_of_getElem? hq)
    obtain ⟨x0, n, a1, a2, a3⟩ := W.at_ y k b1 b2
    have e0 : hs.getD k 0 = x0 := by
      rw [Array.getD_eq_getD_getElem?, ← Array.getElem?_toList, a1]
      rfl
    have exx : x0 = x := e0.symm.trans ex
    rw [exx] at a2 a3
    refine ⟨n, a2, fun k' hk' => ?_⟩
    show way M x k' ∈ (liveOf M owner).map (·.1)
    cases z : oAt owner (way M x k') with
    | none => exact absurd z (a3 k' hk')
    | some k2 => exact List.mem_map.mpr ⟨(_, k2), (mem_live W.sz).2 ⟨way_in _ _ _, z⟩, rfl⟩
end HF
/-! sets of tuples of texts -/
namespace HF
open PySem PySem.Spec PyProof.Rows L2
abbrev hk (P : Program) (w : World) (k : List Str) : Int := tupleKeyHash (strKind P w) k
abbrev IsS (P : Program) (w : World) (h : Heap) (k : List Str) (a : Addr) : Prop := IsTupleKey (strKind P w) h k a
abbrev SL := List (Addr × List Str)
def ents (P : Program) (w : World) (L : SL) : List (Int × Value) := L.map fun p => (hk P w p.2, Value.ref p.1)
section
variable {P : Program} {w : World} {A : Around} {E : Value → Shared → Prop} {s : Shared}
theorem its_str {k : List Str} {vs : List Value} (h : ItemsAre (strKind P w) k vs) : ∀ v ∈ vs, ∃ x t, v = Value.str x t := by
  induction h with
  | nil => exact fun v hv => nomatch hv
  | @cons k0 v0 ks vs0 h1 _ ih =>
    intro v hv
    rcases List.mem_cons.mp hv with rfl | hv
    · obtain ⟨t, e⟩ := Value.isStrOf_shape (x := k0) h1
      exact ⟨k0, t, e⟩
    · exact ih v hv
theorem cls_str (n : Nat) (x : Str) (t : Tok) : ofAClassStatement n (.str x t) = pure false := by cases n <;> rfl
theorem hby_str (n : Nat) (x : Str) (t : Tok) : hashByValue n (.str x t) = pure false := by cases n <;> rfl
theorem cls_tup {k : List Str} {b : Addr} {Q : Bool → Shared → Prop} (hb : IsS P w s.heap k b) (q : Q false s) : wpAny (model P w) A (ofAClassStatement 8 (.ref b)) Q E s := by
  have ty := hb.typeIs
  obtain ⟨ob, its, n, h1, _, h2, h3⟩ := hb
  unfold ofAClassStatement
  refine wpAny_bind (wpAny_typeOf ty ?_)
  dsimp only
  simp only [show (("tuple" : String) == "tuple") = true by decide, if_true, Bool.not_true, Bool.false_eq_true, if_false]
  try refine wpAny_bind (wpAny_pure ?_)
  try simp only [Bool.not_true, Bool.false_eq_true, if_false]
  show wpAny _ _ (seqItems? (.ref b) >>= _) _ _ s
  refine wpAny_bind (wpAny_seqItems h1 h2 ?_)
  dsimp only
  refine wpAny_bind ?_
  show wpAny _ _ (forIn its _ _) _ _ s
  rw [← Array.forIn_toList]
  refine wpAny_forIn_list _ (fun left r st => r.1 = none ∧ st = s ∧ ∀ v ∈ left, ∃ x t, v = Value.str x t) _ ?_ ?_ _ _ ⟨rfl, rfl, its_str h3⟩
  · rintro v left r st ⟨hr, rfl, hall⟩
    obtain ⟨x, t, rfl⟩ := hall v List.mem_cons_self
    rw [cls_str]
    refine wpAny_bind (wpAny_pure ?_)
    simp only [Bool.false_eq_true, if_false]
    exact wpAny_pure ⟨rfl, rfl, fun u hu => hall u (List.mem_cons_of_mem _ hu)⟩
  · rintro ⟨r1, r2⟩ st ⟨hr, rfl, _⟩
    cases (show r1 = none from hr)
    exact wpAny_pure q
theorem hby_tup {k : List Str} {b : Addr} {Q : Bool → Shared → Prop} (hb : IsS P w s.heap k b) (q : ∀ c, Q c s) : wpAny (model P w) A (hashByValue 8 (.ref b)) Q E s := by
  have ty := hb.typeIs
  obtain ⟨ob, its, n, h1, _, h2, h3⟩ := hb
  unfold hashByValue
  refine wpAny_bind (wpAny_specialOf ty F.slot_tuple_hash.lookup ?_)
  show wpAny _ _ (seqItems? (.ref b) >>= _) _ _ s
  refine wpAny_bind (wpAny_seqItems h1 h2 (wpAny_bind ?_))
  show wpAny _ _ (forIn its _ _) _ _ s
  rw [← Array.forIn_toList]
  refine wpAny_mono (wpAny_forIn_list _ (fun left r st => r.1 = none ∧ st = s ∧ ∀ v ∈ left, ∃ x t, v = Value.str x t) (fun r st => (r.1 = none ∨ r.1 = some false) ∧ st = s) ?_ ?_ _ _ ⟨rfl, rfl, its_str h3⟩) ?_ fun _ _ z => z
  · rintro v left r st ⟨hr, rfl, hall⟩
    obtain ⟨x, t, rfl⟩ := hall v List.mem_cons_self
    rw [hby_str]
    refine wpAny_bind (wpAny_pure ?_)
    simp only [Bool.not_false, if_true]
    exact wpAny_pure ⟨.inr rfl, rfl⟩
  · rintro ⟨r1, r2⟩ st ⟨hr, rfl, _⟩
    exact ⟨.inl hr, rfl⟩
  · rintro ⟨r1, r2⟩ st ⟨hr, rfl⟩
    rcases hr with hr | hr
    · cases (show r1 = none from hr)
      exact wpAny_pure (q true)
    · cases (show r1 = some false from hr)
      exact wpAny_pure (q false)
theorem seen_s {k : List Str} {b : Addr} {Q : Bool → Shared → Prop} (hb : IsS P w s.heap k b) {ys : List Value} (hy : ∀ y ∈ ys, ∃ k' c, y = Value.ref c ∧ IsS P w s.heap k' c) (q : Q false s) :
    wpAny (model P w) A (searchCouldBeSeen (.ref b) ys) Q E s := by
  unfold searchCouldBeSeen
  refine wpAny_bind ?_
  refine wpAny_forIn_list _ (fun left r st => r.1 = none ∧ st = s ∧ ∀ y ∈ left, ∃ k' c, y = Value.ref c ∧ IsS P w s.heap k' c) _ ?_ ?_ _ _ ⟨rfl, rfl, hy⟩
  · rintro v left r st ⟨hr, rfl, hall⟩
    obtain ⟨k', c, rfl, hc⟩ := hall v List.mem_cons_self
    have later := fun u hu => hall u (List.mem_cons_of_mem _ hu)
    dsimp only
    by_cases hv : (b == c || (carriedByValue (.ref b) && carriedByValue (.ref c))) = true
    · exact wp_if_pos hv (wpAny_pure ⟨rfl, rfl, later⟩)
    · refine wp_if_neg hv (wpAny_bind (wpAny_eqIsQuiet_tuple hb ?_))
      simp only [Bool.not_true, Bool.false_eq_true, if_false]
      refine wpAny_bind (wpAny_eqIsQuiet_tuple hc ?_)
      simp only [Bool.not_true, Bool.false_eq_true, if_false]
      refine wpAny_bind (cls_tup hb ?_)
      simp only [Bool.false_eq_true, if_false]
      refine wpAny_bind (cls_tup hc ?_)
      simp only [Bool.false_eq_true, if_false]
      exact wpAny_pure ⟨rfl, rfl, later⟩
  · rintro ⟨r1, r2⟩ st ⟨hr, rfl, _⟩
    cases (show r1 = none from hr)
    exact wpAny_pure q
/-- the set of the tuples of L at a -/
structure SR (P : Program) (w : World) (h : Heap) (a : Addr) (L : SL) (es : Array (Int × Value)) (ep : Nat) (t : SetTable) : Prop where
  ob : ∃ o, h.get? a = some o ∧ o.ExactSet ∧ o.data = .set es ep t
  rows : es.toList = ents P w L
  tab : Tb t (L.map fun p => hk P w p.2)
  nd : (L.map (·.2)).Nodup
  tup : ∀ p ∈ L, IsS P w h p.2 p.1
  led : w.params.followText "set-order" = true ∨ t.led = true
  room : L.length * 5 < t.mask * 3
  four : t.mask = 7 ∨ t.mask = 31 ∨ t.mask = 127 ∨ t.mask = 511
variable {a : Addr} {L : SL} {es : Array (Int × Value)} {ep : Nat} {t : SetTable}
theorem ents_size {L : SL} {es : Array (Int × Value)} (h : es.toList = ents P w L) : es.size = L.length := by
  have e := congrArg List.length h
  unfold ents at e
  rw [Array.length_toList, List.length_map] at e
  exact e
theorem ents_at {L : SL} {es : Array (Int × Value)} (h : es.toList = ents P w L) {i : Nat} {p : Addr × List Str} (hi : L[i]? = some p) : es[i]? = some (hk P w p.2, Value.ref p.1) := by
  rw [← Array.getElem?_toList, h]
  unfold ents
  rw [List.getElem?_map, hi]
  rfl
theorem fits_of {t : SetTable} {n : Nat} (h1 : t.place.size = n) (h2 : t.dummies = #[]) (h3 : n ≤ t.mask) : t.fits n = true := by
  unfold SetTable.fits SetTable.fill
  rw [h2, Bool.and_eq_true, beq_iff_eq, decide_eq_true_eq]
  exact ⟨h1, by show t.place.size + 0 ≤ t.mask; omega⟩
theorem SR.fits (R : SR P w s.heap a L es ep t) : t.fits es.size = true := by
  have h1 := R.tab.size
  rw [List.length_map] at h1
  have h2 := ents_size R.rows
  have h3 := R.room
  exact fits_of (by omega) R.tab.none (by omega)
theorem SR.stays (R : SR P w s.heap a L es ep t) : ¬ t.gaveWay = true := by
  unfold SetTable.gaveWay
  rw [R.tab.mo.odd]
  decide
theorem calm_nth (m : Nat) : ∀ (n : Nat) (p : SetTable.Probe), p.dummy = none → (nth m p n).dummy = none
  | 0, _, h => h
  | n + 1, p, h => calm_nth m n (adv m p) (by
    unfold adv
    split <;> exact h)
theorem SR.search (R : SR P w s.heap a L es ep t) {x : Addr} {k : List Str} (hx : IsS P w s.heap k x) (hu : A.units < cLine) {n : Nat} (hn : n < 10 * SetTable.turns t.mask)
    (free : way t.mask (hk P w k) n ∉ t.place.toList) (before : ∀ c, c < n → way t.mask (hk P w k) c ∈ t.place.toList) {Q : SetFound → Shared → Prop}
    (hin : k ∈ L.map (·.2) → Q (.there none) s) (hout : k ∉ L.map (·.2) → Q (.free (way t.mask (hk P w k) n) false) s) :
    ∀ (f c : Nat) (stand : Option SetTable.Probe), stand.getD (t.probeStart (hk P w k)) = nth t.mask (runAt t.mask (SetTable.bits (hk P w k) % (t.mask + 1)) (SetTable.bits (hk P w k))) c → c ≤ n → n - c < f →
      (∀ (i : Nat) p, L[i]? = some p → p.2 = k → ∃ c', c ≤ c' ∧ c' < n ∧ t.place.toList[i]? = some (way t.mask (hk P w k) c')) →
      wpAny (model P w) A (setSearchFrom a (.ref x) (hk P w k) true f stand) Q E s
  | 0, _, _, _, _, hf, _ => absurd hf (Nat.not_lt_zero _)
  | f + 1, c, stand, at_c, hc, hf, left => by
    obtain ⟨ob, o1, o2, o3⟩ := R.ob
    rw [setSearchFrom_succ]
    refine wpAny_bind (wpAny_setState_of o1 o3 R.fits ?_)
    dsimp only
    refine wp_if_neg R.stays ?_
    try refine wpAny_bind (wpAny_pure ?_)
    generalize hst : runAt t.mask (SetTable.bits (hk P w k) % (t.mask + 1)) (SetTable.bits (hk P w k)) = st0 at at_c
    have wj : ∀ q, way t.mask (hk P w k) q = (nth t.mask st0 q).j := fun q => by rw [← hst]
    have calm : (nth t.mask st0 c).dummy = none := calm_nth _ _ _ (by rw [← hst]; rfl)
    have sum : ∀ q, nth t.mask (nth t.mask st0 c) q = nth t.mask st0 (c + q) := fun q => (nth_add t.mask c _ q).symm
    have wsum : ∀ q, (nth t.mask (nth t.mask st0 c) q).j = way t.mask (hk P w k) (c + q) := fun q => by rw [sum, wj]
    have hashes : ∀ (i : Nat) p, L[i]? = some p → (es[i]?.map (·.1)).getD 0 = hk P w p.2 := fun i p hp => by
      rw [ents_at R.rows hp]
      rfl
    rcases go_spec t R.tab.up R.tab.none (fun i => (es[i]?.map (·.1)).getD 0) (hk P w k) (10 * SetTable.turns t.mask) (n - c) _ calm (by omega)
      (fun q hq => by rw [wsum]; exact before (c + q) (by omega)) (by rw [wsum, show c + (n - c) = n by omega]; exact free) with ⟨q, i, hq, hi, hh, none_yet, pr⟩ | ⟨none_yet, pr⟩
    · have pr2 : t.probe (fun i => (es[i]?.map (·.1)).getD 0) (hk P w k) (stand.getD (t.probeStart (hk P w k))) = some (.candidate (way t.mask (hk P w k) (c + q)) i (nth t.mask st0 (c + (q + 1)))) := by
        rw [at_c, ← wsum, ← sum]
        exact pr
      rw [pr2]
      dsimp only
      rw [wsum] at hi
      have hil : i < L.length := by
        have h1 := (List.getElem?_eq_some_iff.mp hi).1
        have h2 := R.tab.size
        rw [List.length_map] at h2
        rw [Array.length_toList] at h1
        omega
      obtain ⟨p, hp⟩ : ∃ p, L[i]? = some p := ⟨_, List.getElem?_eq_getElem hil⟩
      have hm := List.mem_of_getElem? hp
      have rest : wpAny (model P w) A (searchRest a (.ref x) (hk P w k) true f es t (way t.mask (hk P w k) (c + q)) i (nth t.mask st0 (c + (q + 1)))) Q E s := by
        unfold searchRest
        rw [ents_at R.rows hp]
        dsimp only
        refine wpAny_bind (wpAny_holding (wpAny_eqBool_tuple hu (R.tup p hm) hx (wpAny_bind (wpAny_setState_of o1 o3 R.fits ?_))))
        dsimp only
        by_cases same : p.2 = k
        · exact wp_if_pos (by simp [same]) (wpAny_pure (hin (List.mem_map.mpr ⟨p, hm, same⟩)))
        · refine wp_if_neg (by simp [same]) ?_
          try refine wpAny_bind (wpAny_pure ?_)
          rw [sameMem]
          dsimp only
          have live : t.slot (way t.mask (hk P w k) (c + q)) = .live i := slot_live R.tab.up hi
          simp only [if_true, live, ents_at R.rows hp]
          refine wpAny_bind (wpAny_isSame_ref_self (wpAny_bind (wpAny_pure ?_)))
          simp only [if_true]
          refine wp_if_neg (by simp [same]) ?_
          refine SR.search R hx hu hn free before hin hout f (c + (q + 1)) _ (by rw [hst]; rfl) (by omega) (by omega) fun i0 p0 h0 e0 => ?_
          obtain ⟨c', l1, l2, l3⟩ := left i0 p0 h0 e0
          refine ⟨c', ?_, l2, l3⟩
          apply Classical.byContradiction
          intro small
          by_cases c'lt : c' < c + q
          · refine none_yet (c' - c) i0 (by omega) (by rw [wsum, show c + (c' - c) = c' by omega]; exact l3) ?_
            exact (hashes i0 p0 h0).trans (congrArg (hk P w) e0)
          · have ec : c' = c + q := by omega
            rw [ec] at l3
            have live0 := slot_live R.tab.up l3
            rw [live] at live0
            cases live0
            rw [hp] at h0
            cases h0
            exact same e0
      by_cases hl : t.led = true
      · refine wp_if_neg (by simp [hl]) ?_
        try refine wpAny_bind (wpAny_pure ?_)
        exact rest
      · refine wp_if_pos (by simp [hl]) (wpAny_bind (seen_s hx (fun y hy => ?_) ?_))
        · obtain ⟨e, he, rfl⟩ := List.mem_map.mp hy
          have he1 : e ∈ es ∧ e.1 = hk P w k := by simpa using he
          have he2 : e ∈ es.toList := by simpa using he1.1
          rw [R.rows] at he2
          obtain ⟨p2, hp2, rfl⟩ := List.mem_map.mp he2
          exact ⟨p2.2, p2.1, rfl, R.tup p2 hp2⟩
        · refine wp_if_neg (by decide) ?_
          try refine wpAny_bind (wpAny_pure ?_)
          exact rest
    · have pr2 : t.probe (fun i => (es[i]?.map (·.1)).getD 0) (hk P w k) (stand.getD (t.probeStart (hk P w k))) = some (.empty (way t.mask (hk P w k) n) none) := by
        rw [at_c, show way t.mask (hk P w k) n = (nth t.mask (nth t.mask st0 c) (n - c)).j by rw [wsum, show c + (n - c) = n by omega]]
        exact pr
      rw [pr2]
      dsimp only
      refine wpAny_pure (hout fun hm => ?_)
      obtain ⟨p0, h0, e0⟩ := List.mem_map.mp hm
      obtain ⟨i0, hi0, ei⟩ := List.getElem_of_mem h0
      have h00 : L[i0]? = some p0 := by rw [List.getElem?_eq_getElem hi0, ei]
      obtain ⟨c', l1, l2, l3⟩ := left i0 p0 h00 e0
      refine none_yet (c' - c) i0 (by omega) (by rw [wsum, show c + (c' - c) = c' by omega]; exact l3) ?_
      exact (hashes i0 p0 h00).trans (congrArg (hk P w) e0)
theorem SR.look (R : SR P w s.heap a L es ep t) {x : Addr} {k : List Str} (hx : IsS P w s.heap k x) (hu : A.units < cLine) {Q : SetFound → Shared → Prop}
    (hin : k ∈ L.map (·.2) → Q (.there none) s)
    (hout : ∀ n, k ∉ L.map (·.2) → way t.mask (hk P w k) n ∉ t.place.toList → (∀ c, c < n → way t.mask (hk P w k) c ∈ t.place.toList) → Q (.free (way t.mask (hk P w k) n) false) s) :
    wpAny (model P w) A (setSearch a (.ref x) (hk P w k) true) Q E s := by
  have room := R.room
  obtain ⟨n, n1, n2, n3⟩ := R.tab.gap (by rw [List.length_map]; omega) (hk P w k)
  have small : n < 100000 := by
    have h1 := R.tab.mo.few
    have h2 : 10 * SetTable.turns t.mask = 10 * (t.mask + 15) := rfl
    omega
  unfold setSearch
  refine R.search hx hu n1 n2 n3 hin (fun hn => hout n hn n2 n3) 100000 0 none rfl (Nat.zero_le _) (by omega) fun i p hp e => ?_
  have hi : (L.map fun p => hk P w p.2)[i]? = some (hk P w k) := by
    rw [List.getElem?_map, hp, ← e]
    rfl
  have hil : i < t.place.toList.length := by
    have h1 := (List.getElem?_eq_some_iff.mp hp).1
    have h2 := R.tab.size
    rw [List.length_map] at h2
    rw [Array.length_toList]
    omega
  have hj := List.getElem?_eq_getElem hil
  obtain ⟨c, hc, ec⟩ := R.tab.ahead n2 hi hj
  exact ⟨c, Nat.zero_le _, hc, by rw [hj, ec]⟩
end
end HF
namespace HF
open PySem PySem.Spec PyProof.Rows L2
section
variable {P : Program} {w : World} {A : Around} {E : Value → Shared → Prop} {s : Shared} {a : Addr} {L : SL} {es : Array (Int × Value)} {ep : Nat} {t : SetTable}
theorem IsS.but {h h' : Heap} {k : List Str} {b : Addr} {o : Obj} (hb : IsS P w h k b) (ho : h.get? a = some o) (hd : o.data = .set es ep t) (sb : Heap.SameBut a h h') : IsS P w h' k b := by
  obtain ⟨ob, its, n, h1, h2, h3, h4⟩ := hb
  have ne : b ≠ a := by
    rintro rfl
    rw [h1] at ho
    cases ho
    rw [hd] at h3
    cases h3
  exact ⟨ob, its, n, (sb.2 b ne).trans h1, h2, h3, h4⟩
theorem IsS.keep {h h' : Heap} {k : List Str} {b : Addr} (hb : IsS P w h k b) (kp : ∀ c o, h.get? c = some o → h'.get? c = some o) : IsS P w h' k b := by
  obtain ⟨ob, its, n, h1, r⟩ := hb
  exact ⟨ob, its, n, kp _ _ h1, r⟩
theorem ents_put (L : SL) (p : Nat) (x : Addr) (k : List Str) : ents P w (L.take p ++ (x, k) :: L.drop p) = (ents P w L).take p ++ (hk P w k, Value.ref x) :: (ents P w L).drop p := by
  unfold ents
  rw [List.map_append, List.map_cons, List.map_take, List.map_drop]
theorem fm_get (L : SL) : ∀ n, n ≤ L.length → (List.range n).filterMap (fun i => L[i]?) = L.take n
  | 0, _ => rfl
  | n + 1, h => by
    rw [List.range_succ, List.filterMap_append, fm_get L n (by omega), List.take_add_one, List.getElem?_eq_getElem (show n < L.length by omega)]
    rw [List.filterMap_cons_some (List.getElem?_eq_getElem (show n < L.length by omega))]
    rfl
theorem ents_order {L : SL} {es : Array (Int × Value)} (h : es.toList = ents P w L) {order : Array Nat} (hp : order.toList.Perm (List.range L.length)) :
    ∃ L2, (order.filterMap (es[·]?)).toList = ents P w L2 ∧ L2.Perm L ∧ (L2.map fun p => hk P w p.2) = order.toList.map fun i => (es.map (·.1)).getD i 0 := by
  have key : ∀ l : List Nat, (∀ i ∈ l, i < L.length) → l.filterMap (fun i => es[i]?) = ents P w (l.filterMap fun i => L[i]?) ∧ ((l.filterMap fun i => L[i]?).map fun p => hk P w p.2) = l.map fun i => (es.map (·.1)).getD i 0 := by
    intro l
    induction l with
    | nil => exact fun _ => ⟨rfl, rfl⟩
    | cons i l ih =>
      intro hl
      obtain ⟨e1, e2⟩ := ih fun j hj => hl j (List.mem_cons_of_mem _ hj)
      have hil := hl i List.mem_cons_self
      have hi : L[i]? = some L[i] := List.getElem?_eq_getElem hil
      have he := ents_at h hi
      rw [List.filterMap_cons_some he, List.filterMap_cons_some hi, e1]
      refine ⟨rfl, ?_⟩
      rw [List.map_cons, List.map_cons, e2]
      have e5 : (es.map (·.1))[i]? = some (hk P w (L[i]).2) := by
        rw [Array.getElem?_map, he]
        rfl
      rw [show (es.map (·.1)).getD i 0 = hk P w (L[i]).2 by simp [Array.getD_eq_getD_getElem?, e5]]
  obtain ⟨e1, e2⟩ := key order.toList fun i hi => List.mem_range.mp (hp.mem_iff.mp hi)
  refine ⟨_, by first | (rw [Array.toList_filterMap]; exact e1) | simpa using e1, ?_, e2⟩
  have := hp.filterMap (fun i => L[i]?)
  rw [fm_get L _ (Nat.le_refl _), List.take_length] at this
  exact this
theorem mo_of {m : Nat} (h : m = 7 ∨ m = 31 ∨ m = 127 ∨ m = 511) : Mo m := by
  rcases h with e | e | e | e
  · exact e ▸ mo7
  · exact e ▸ mo31
  · exact e ▸ mo127
  · exact e ▸ mo511
theorem relay_s {o : Obj} (ho : s.heap.get? a = some o) (ex : o.ExactSet) (hd : o.data = .set es ep t) (rows : es.toList = ents P w L) (sz : t.place.size = es.size) (dm : t.dummies = #[]) (fl : es.size ≤ t.mask)
    (nd : (L.map (·.2)).Nodup) (tup : ∀ p ∈ L, IsS P w s.heap p.2 p.1) (ld : w.params.followText "set-order" = true ∨ t.led = true) {wanted M : Nat}
    (hw : SetTable.sizeAbove wanted - 1 = M) (hm : M = 7 ∨ M = 31 ∨ M = 127 ∨ M = 511) (hw2 : SetTable.sizeAbove wanted ≤ 512) (room : L.length * 5 < M * 3) {Q : Unit → Shared → Prop}
    (hQ : ∀ h' L' es' ep' t', Heap.SameBut a s.heap h' → SR P w h' a L' es' ep' t' → L'.Perm L → Q () { s with heap := h' }) : wpAny (model P w) A (setRelay a wanted) Q E s := by
  have hM := mo_of hm
  have el := ents_size rows
  obtain ⟨t2, order, e, hp, T, em, eled, _⟩ := relaid_mo t (hs := es.map (·.1)) hw hM (by rw [Array.size_map, el]; omega)
  rw [Array.size_map, el] at hp
  obtain ⟨L2, r1, r2, r3⟩ := ents_order rows hp
  rw [← r3] at T
  have s2 : (order.filterMap (es[·]?)).size = es.size := by rw [ents_size r1, r2.length_eq, el]
  rw [setRelay_eq]
  refine wpAny_bind (wpAny_setState_of ho hd (fits_of sz dm fl) ?_)
  dsimp only
  refine wp_if_neg (by rw [sizeLine_eq]; omega) ?_
  try refine wpAny_bind (wpAny_pure ?_)
  rw [e]
  dsimp only
  refine wpAny_bind (wp_if_neg (by rw [s2]; simp) ?_)
  try refine wpAny_bind (wpAny_pure ?_)
  refine wpAny_pure ?_
  dsimp only
  refine wpAny_storeSet_of ho hd ?_ (by rw [s2, el, sizeLine_eq]; have := hM.few; omega)
  have sb : Heap.SameBut a s.heap (s.heap.update a (Obj.putSet (order.filterMap (es[·]?)) t2)) := Heap.SameBut.update ..
  exact hQ _ L2 _ (ep + 1) t2 sb ⟨⟨_, store_at ho hd, ⟨ex.1, ex.2.1, ex.2.2⟩, rfl⟩, r1, T, (r2.map (·.2)).nodup_iff.mpr nd, fun p hpm => (tup p (r2.mem_iff.mp hpm)).but ho hd sb, by rw [eled]; exact ld, by rw [r2.length_eq, em]; exact room, by rw [em]; exact hm⟩ r2
theorem grow_sizes {m n : Nat} (hm : m = 7 ∨ m = 31 ∨ m = 127 ∨ m = 511) (r : n * 5 < m * 3) (f : (n + 1) * 5 ≥ m * 3) (few : n + 1 ≤ 306) :
    ∃ M, SetTable.sizeAbove (SetTable.grown (n + 1)) - 1 = M ∧ (M = 7 ∨ M = 31 ∨ M = 127 ∨ M = 511) ∧ SetTable.sizeAbove (SetTable.grown (n + 1)) ≤ 512 ∧ (n + 1) * 5 < M * 3 ∧ n + 1 ≤ m := by
  rcases hm with e | e | e | e
  · have en : n = 4 := by omega
    subst en e
    exact ⟨31, by decide +kernel, .inr (.inl rfl), by decide +kernel, by decide, by decide⟩
  · have en : n = 18 := by omega
    subst en e
    exact ⟨127, by decide +kernel, .inr (.inr (.inl rfl)), by decide +kernel, by decide, by decide⟩
  · have en : n = 76 := by omega
    subst en e
    exact ⟨511, by decide +kernel, .inr (.inr (.inr rfl)), by decide +kernel, by decide, by decide⟩
  · omega
/-- one more -/
theorem SR.add (R : SR P w s.heap a L es ep t) {x : Addr} {k : List Str} (hx : IsS P w s.heap k x) (hu : A.units < cLine) (few : L.length + 1 ≤ 306) {Q : Bool → Shared → Prop}
    (hQ : ∀ b h' L' es' ep' t', Heap.SameBut a s.heap h' → SR P w h' a L' es' ep' t' → (k ∈ L.map (·.2) → L' = L) → (k ∉ L.map (·.2) → L'.Perm ((x, k) :: L)) → Q b { s with heap := h' }) :
    wpAny (model P w) A (setAddHashed a (.ref x) (hk P w k)) Q E s := by
  obtain ⟨o, o1, ex, o2⟩ := R.ob
  have el := ents_size R.rows
  have room := R.room
  unfold setAddHashed
  refine wpAny_holding ?_
  rw [show (100000 : Nat) = 99999 + 1 from rfl, setAddHashedIn_succ]
  refine wpAny_bind (wpAny_setState_of o1 o2 R.fits ?_)
  dsimp only
  refine wp_if_neg (by simp [byScan, Value.scannable]) ?_
  try refine wpAny_bind (wpAny_pure ?_)
  refine wpAny_bind (R.look hx hu (fun hm => ?_) fun n hm free before => ?_)
  · dsimp only
    exact wpAny_pure (hQ false s.heap L es ep t (Heap.SameBut.refl a s.heap) R (fun _ => rfl) fun z => absurd hm z)
  · dsimp only
    refine wpAny_bind (wpAny_setState_of o1 o2 R.fits ?_)
    dsimp only
    obtain ⟨q1, q2, q3⟩ := R.tab.more free before
    have hrows : (SetTable.insertAt es (SetTable.below t.place (way t.mask (hk P w k) n)) (hk P w k, Value.ref x)).toList = ents P w (L.take (SetTable.below t.place (way t.mask (hk P w k) n)) ++ (x, k) :: L.drop (SetTable.below t.place (way t.mask (hk P w k) n))) := by
      rw [SetTable.toList_insertAt, ents_put, R.rows]
    have hhash : (L.take (SetTable.below t.place (way t.mask (hk P w k) n)) ++ (x, k) :: L.drop (SetTable.below t.place (way t.mask (hk P w k) n))).map (fun p => hk P w p.2) = (L.map fun p => hk P w p.2).take (SetTable.below t.place (way t.mask (hk P w k) n)) ++ hk P w k :: (L.map fun p => hk P w p.2).drop (SetTable.below t.place (way t.mask (hk P w k) n)) := by
      rw [List.map_append, List.map_cons, List.map_take, List.map_drop]
    rw [← hhash] at q2
    have hmask : (t.put (way t.mask (hk P w k) n)).1.mask = t.mask := rfl
    have hled : (t.put (way t.mask (hk P w k) n)).1.led = t.led := rfl
    have hsnd : (t.put (way t.mask (hk P w k) n)).2 = SetTable.below t.place (way t.mask (hk P w k) n) := rfl
    have pm := put_perm L (SetTable.below t.place (way t.mask (hk P w k) n)) (x, k)
    rw [List.length_map] at q3
    generalize t.put (way t.mask (hk P w k) n) = pt at *
    obtain ⟨t0, p0⟩ := pt
    dsimp only at q2 q3 hmask hled hsnd ⊢
    subst hsnd
    generalize SetTable.below t.place (way t.mask (hk P w k) n) = p at *
    have fin : ∀ t1 : SetTable, t1.mask = t0.mask → t1.led = t0.led → t1.place = t0.place → t1.dummies = t0.dummies →
        wpAny (model P w) A (do
          storeSet a (SetTable.insertAt es p (hk P w k, Value.ref x)) t1
          if !false && t1.tooFull then setRelay a (SetTable.grown (es.size + 1))
          return true) Q E s := by
      intro t1 m1 l1 p1 d1
      have T1 : Tb t1 ((L.take p ++ (x, k) :: L.drop p).map fun p => hk P w p.2) := by
        obtain ⟨a1, a2, a3, a4, a5, a6⟩ := q2
        exact ⟨p1 ▸ a1, d1.trans a2, p1 ▸ a3, m1 ▸ a4, fun y hy => by rw [m1]; exact a5 y (p1 ▸ hy), fun i y j h1 h2 => by rw [m1, p1]; exact a6 i y j h1 (p1 ▸ h2)⟩
      have f1 : t1.fill = L.length + 1 := by
        rw [← q3]
        show t1.place.size + t1.dummies.size = t0.place.size + t0.dummies.size
        rw [p1, d1]
      have el1 := ents_size hrows
      have ln : (L.take p ++ (x, k) :: L.drop p).length = L.length + 1 := pm.length_eq
      have nd1 : ((L.take p ++ (x, k) :: L.drop p).map (·.2)).Nodup := by
        refine (pm.map (·.2)).nodup_iff.mpr ?_
        rw [List.map_cons]
        exact List.nodup_cons.mpr ⟨hm, R.nd⟩
      rw [ln] at el1
      have rows1 := hrows
      generalize SetTable.insertAt es p (hk P w k, Value.ref x) = es1 at *
      generalize L.take p ++ (x, k) :: L.drop p = L1 at *
      refine wpAny_bind (wpAny_storeSet_of o1 o2 ?_ (by rw [el1, sizeLine_eq]; omega))
      have sb : Heap.SameBut a s.heap (s.heap.update a (Obj.putSet es1 t1)) := Heap.SameBut.update ..
      have at1 := store_at (es' := es1) (t' := t1) o1 o2
      generalize s.heap.update a (Obj.putSet es1 t1) = h1 at *
      have tup1 : ∀ p ∈ L1, IsS P w h1 p.2 p.1 := fun p hp => by
        rcases List.mem_cons.mp (pm.mem_iff.mp hp) with rfl | hp
        · exact IsS.but hx o1 o2 sb
        · exact (R.tup p hp).but o1 o2 sb
      have ld1 : w.params.followText "set-order" = true ∨ t1.led = true := by
        rw [l1, hled]
        exact R.led
      by_cases full : t1.tooFull = true
      · have f2 : (L.length + 1) * 5 ≥ t.mask * 3 := by
          unfold SetTable.tooFull at full
          rw [decide_eq_true_eq, f1, m1, hmask] at full
          exact full
        obtain ⟨M, g1, g2, g3, g4, g5⟩ := grow_sizes R.four room f2 few
        have sz1 : t1.place.size = es1.size := by
          have h := T1.size
          rw [List.length_map] at h
          omega
        have relay : ∀ {Q2 : Unit → Shared → Prop}, (∀ h2 L2 es2 ep2 t2, Heap.SameBut a h1 h2 → SR P w h2 a L2 es2 ep2 t2 → L2.Perm L1 → Q2 () { s with heap := h2 }) → wpAny (model P w) A (setRelay a (SetTable.grown (es.size + 1))) Q2 E { s with heap := h1 } := fun hq => by
          rw [el]
          exact relay_s (s := { s with heap := h1 }) at1 ⟨ex.1, ex.2.1, ex.2.2⟩ rfl rows1 sz1 T1.none (by rw [el1, m1, hmask]; exact g5) nd1 tup1 ld1 g1 g2 g3 (by rw [ln]; exact g4) hq
        first
          | (refine wpAny_bind ?_; refine wp_if_pos (by simp [full]) ?_; exact relay fun h2 L2 es2 ep2 t2 sb2 R2 pm2 => wpAny_pure (hQ true h2 L2 es2 ep2 t2 (sb.trans sb2) R2 (fun z => absurd z hm) fun _ => pm2.trans pm))
          | (refine wp_if_pos (by simp [full]) ?_; refine wpAny_bind ?_; exact relay fun h2 L2 es2 ep2 t2 sb2 R2 pm2 => wpAny_pure (hQ true h2 L2 es2 ep2 t2 (sb.trans sb2) R2 (fun z => absurd z hm) fun _ => pm2.trans pm))
      · have R1 : SR P w h1 a L1 es1 (ep + 1) t1 := ⟨⟨_, at1, ⟨ex.1, ex.2.1, ex.2.2⟩, rfl⟩, rows1, T1, nd1, tup1, ld1, by
          unfold SetTable.tooFull at full
          rw [decide_eq_true_eq, f1] at full
          rw [ln]
          omega, by rw [m1, hmask]; exact R.four⟩
        first
          | exact wp_if_neg (by simp [full]) (wpAny_pure (hQ true h1 L1 es1 (ep + 1) t1 sb R1 (fun z => absurd z hm) fun _ => pm))
          | exact wpAny_bind (wp_if_neg (by simp [full]) (wpAny_pure (wpAny_pure (hQ true h1 L1 es1 (ep + 1) t1 sb R1 (fun z => absurd z hm) fun _ => pm))))
    by_cases pl : t0.plain = true
    · first
        | (refine wpAny_bind ?_; refine wp_if_pos pl ?_; refine hby_tup hx fun c => ?_)
        | refine wp_if_pos pl (wpAny_bind (hby_tup hx fun c => ?_))
      cases c
      · exact fin { t0 with plain := false } rfl rfl rfl rfl
      · exact fin t0 rfl rfl rfl rfl
    · first
        | (refine wpAny_bind ?_; refine wp_if_neg pl ?_; refine wpAny_pure ?_; exact fin t0 rfl rfl rfl rfl)
        | (refine wp_if_neg pl ?_; refine wpAny_bind (wpAny_pure ?_); exact fin t0 rfl rfl rfl rfl)
end
end HF
namespace HF
open PySem PySem.Spec PyProof.Rows L2
/-- what the first i of ks have left -/
structure Gt (ks : SL) (i : Nat) (L : SL) : Prop where
  sub : ∀ p ∈ L, p ∈ ks.take i
  all : ∀ p ∈ ks.take i, p.2 ∈ L.map (·.2)
  few : L.length ≤ i
theorem Gt.none (ks : SL) : Gt ks 0 [] := ⟨fun p h => (nomatch h), fun p h => by simp at h, Nat.le_refl _⟩
theorem take1 {ks : SL} {i : Nat} {p : Addr × List Str} (h : ks[i]? = some p) : ks.take (i + 1) = ks.take i ++ [p] := by
  rw [List.take_add_one, h]
  rfl
theorem Gt.same {ks L : SL} {i : Nat} {p : Addr × List Str} (g : Gt ks i L) (h : ks[i]? = some p) (hm : p.2 ∈ L.map (·.2)) : Gt ks (i + 1) L := by
  refine ⟨fun q hq => ?_, fun q hq => ?_, Nat.le_succ_of_le g.few⟩
  · rw [take1 h]
    exact List.mem_append_left _ (g.sub q hq)
  · rw [take1 h] at hq
    exact (List.mem_append.mp hq).elim (g.all q) fun z => (List.mem_singleton.mp z) ▸ hm
theorem Gt.more {ks L L' : SL} {i : Nat} {p : Addr × List Str} (g : Gt ks i L) (h : ks[i]? = some p) (pm : L'.Perm (p :: L)) : Gt ks (i + 1) L' := by
  refine ⟨fun q hq => ?_, fun q hq => ?_, ?_⟩
  · rw [take1 h]
    exact (List.mem_cons.mp (pm.mem_iff.mp hq)).elim (fun e => List.mem_append_right _ (List.mem_singleton.mpr e)) fun z => List.mem_append_left _ (g.sub q z)
  · rw [(pm.map (·.2)).mem_iff, List.map_cons]
    rw [take1 h] at hq
    exact (List.mem_append.mp hq).elim (fun z => List.mem_cons_of_mem _ (g.all q z)) fun z => (List.mem_singleton.mp z) ▸ List.mem_cons_self
  · rw [pm.length_eq, List.length_cons]
    exact Nat.succ_le_succ g.few
section
variable {P : Program} {w : World} {A : Around} {E : Value → Shared → Prop} {s : Shared}
theorem SR.keep {h h' : Heap} {a : Addr} {L : SL} {es : Array (Int × Value)} {ep : Nat} {t : SetTable} (R : SR P w h a L es ep t) (ha : ∀ o, h.get? a = some o → h'.get? a = some o) (ht : ∀ p ∈ L, IsS P w h' p.2 p.1) : SR P w h' a L es ep t := by
  obtain ⟨o, ho, r⟩ := R.ob
  exact ⟨⟨o, ha o ho, r⟩, R.rows, R.tab, R.nd, ht, R.led, R.room, R.four⟩
abbrev bareSet (w : World) : Obj := { cls := .type "set", dict := none, data := .set #[] 0 (.fresh 0 0 (!w.params.followText "set-order")) }
theorem SR.bare {h : Heap} {a : Addr} (ho : h.get? a = some (bareSet w)) : SR P w h a [] #[] 0 (.fresh 0 0 (!w.params.followText "set-order")) := by
  refine ⟨⟨_, ho, ⟨rfl, rfl, rfl⟩, rfl⟩, rfl, ⟨List.Pairwise.nil, rfl, rfl, mo7, fun y hy => (nomatch hy), fun i y j hi => by simp at hi⟩, List.nodup_nil, fun p hp => (nomatch hp), ?_, by show 0 * 5 < 7 * 3; decide, .inl rfl⟩
  show _ ∨ (!w.params.followText "set-order") = true
  cases w.params.followText "set-order"
  · exact .inr rfl
  · exact .inl rfl
theorem update_s {I : Addr} {fp wr : List Addr} {G : Array GenState → Array GenState → Prop} {n : Nat} {Pv : Nat → Value → Prop} {St : Nat → Shared → Prop} {R : Result → Shared → Prop}
    (W : WalksS P w A.in1 I fp wr G n Pv St) (S : Addr) (out : S ∉ fp) (ks : SL) (hn : n = ks.length) (few : ks.length ≤ 306) (vals : ∀ i v, Pv i v → ∃ p, ks[i]? = some p ∧ v = .ref p.1)
    (h0 : Heap) (tups : ∀ p ∈ ks, IsS P w h0 p.2 p.1) (new : h0.get? S = none) (new2 : ∀ b ∈ wr, h0.get? b = none) (hu : A.in1.units < cLine) :
    ∀ (k i : Nat) (st : Shared), n - i = k → i ≤ n → St i st → (∀ b o, h0.get? b = some o → st.heap.get? b = some o) → (∃ L es ep t, SR P w st.heap S L es ep t ∧ Gt ks i L) →
      (∀ s' L es ep t, Moved (S :: wr) G st s' → SR P w s'.heap S L es ep t → Gt ks n L → (∀ b o, h0.get? b = some o → s'.heap.get? b = some o) → R (.ok (.ret .none)) s') →
      codeAny (model P w) A (.builtin "set.update.loop" ⟨[.ref S, .ref I], []⟩) R st := by
  have outw : S ∉ wr := fun h => out (W.sub _ h)
  have wider : ∀ b ∈ wr, b ∈ S :: wr := fun b hb => List.mem_cons_of_mem _ hb
  have stays : ∀ {s1 s2 : Shared}, Moved wr G s1 s2 → (∀ b o, h0.get? b = some o → s1.heap.get? b = some o) → ∀ b o, h0.get? b = some o → s2.heap.get? b = some o := fun mv kp b o e =>
    mv.heap b o (fun hb => by rw [new2 b hb] at e; cases e) (kp b o e)
  have part : ∀ {i : Nat} {L : SL}, Gt ks i L → ∀ p ∈ L, p ∈ ks := fun g p hp => List.mem_of_mem_take (g.sub p hp)
  intro k
  induction k with
  | zero =>
    rintro i st e0 hi hst kp ⟨L, es, ep, t, hS, g⟩ hR
    obtain rfl : i = n := by omega
    refine codeAny_builtin F.entry_set_update_loop ?_
    rw [Around.under_plainId F.plain_set_update_loop _]
    show wpAny _ A.in1 (pyNext (.ref I) >>= _) _ _ st
    refine wpAny_bind (W.done st _ _ hst fun s1 mv => ?_)
    have kp1 := stays mv kp
    show wpAny _ A.in1 (ret Value.none) _ _ s1
    exact wpAny_pure (hR s1 L es ep t (mv.mono wider) (hS.keep (fun o e => mv.heap S o outw e) fun p hp => (tups p (part g p hp)).keep kp1) g kp1)
  | succ k ih =>
    rintro i st e0 hi hst kp ⟨L, es, ep, t, hS, g⟩ hR
    have lt : i < n := by omega
    refine codeAny_builtin F.entry_set_update_loop ?_
    rw [Around.under_plainId F.plain_set_update_loop _]
    show wpAny _ A.in1 (pyNext (.ref I) >>= _) _ _ st
    refine wpAny_bind (W.item i st _ _ lt hst fun v s1 hP hst1 mv => ?_)
    obtain ⟨p, hp, rfl⟩ := vals i v hP
    have kp1 := stays mv kp
    have hS1 : SR P w s1.heap S L es ep t := hS.keep (fun o e => mv.heap S o outw e) fun q hq => (tups q (part g q hq)).keep kp1
    have hx : IsS P w s1.heap p.2 p.1 := (tups p (List.mem_of_getElem? hp)).keep kp1
    show wpAny _ A.in1 (holding [Value.ref p.1] (setAdd S (.ref p.1)) >>= _) _ _ s1
    refine wpAny_bind (wpAny_holding ?_)
    unfold setAdd
    refine wpAny_holding (wpAny_bind (wpAny_pyHash_tuple hu hx ?_))
    refine SR.add (s := { s1 with toks := s1.toks + (p.2.length + 1) }) hS1 hx hu (by have := g.few; omega) fun b h2 L2 es2 ep2 t2 sb hS2 c1 c2 => ?_
    have g2 : Gt ks (i + 1) L2 := by
      by_cases c : p.2 ∈ L.map (·.2)
      · rw [c1 c]
        exact g.same hp c
      · exact g.more hp (c2 c)
    have kp2 : ∀ b o, h0.get? b = some o → h2.get? b = some o := fun b o e => (sb.2 b fun z => by rw [z, new] at e; cases e).trans (kp1 b o e)
    refine wpAny_pure ⟨plainId_quiet F.plain_set_update_loop _, ih (i + 1) _ (by omega) lt (W.frame _ s1 _ _ hst1 (Nat.le_add_right _ _) fun b hb o e => ?_) kp2 ⟨L2, es2, ep2, t2, hS2, g2⟩ fun s3 L3 es3 ep3 t3 mv3 hS3 g3 kp3 => ?_⟩
    · rw [sb.2 b fun z => out (z ▸ hb)]
      exact e
    · refine hR s3 L3 es3 ep3 t3 (Moved.trans W.gtrans ((mv.mono wider).then_heap (Nat.le_add_right _ _) fun b o hb e => ?_) mv3) hS3 g3 kp3
      rw [sb.2 b fun z => hb (z ▸ List.mem_cons_self)]
      exact e
theorem call_set_s {l : Addr} {items : Array Value} (ks : SL) {Q : Value → Shared → Prop} (hh : A.handled = none) (hl : s.heap.IsList l items) (hit : items.toList = ks.map fun p => Value.ref p.1)
    (tups : ∀ p ∈ ks, IsS P w s.heap p.2 p.1) (few : ks.length ≤ 306) (hu : A.units + 3 < cLine)
    (hQ : ∀ (h' : Heap) (tk : Nat) L es ep t, SR P w h' s.heap.objs.size L es ep t → Gt ks ks.length L → (∀ b o, s.heap.get? b = some o → h'.get? b = some o) → Q (.ref s.heap.objs.size) { s with heap := h', toks := tk }) :
    wpAny (model P w) A (call (.type "set") [.ref l]) Q E s := by
  have many : items.size = ks.length := by
    have q := congrArg List.length hit
    rw [Array.length_toList, List.length_map] at q
    exact q
  obtain ⟨c, tl, hmro⟩ := F.called_set.mro
  have hmade := F.called_set.made
  have hsub := F.called_set.sub
  refine wpAny_call (codeAny_of_tree ?_)
  show wpAny _ _ (callAny (.type "set") _) _ _ _
  refine wpAny_pure ⟨Code.quiet_builtin _ (by decide +kernel), codeAny_builtin F.entry_type_call ?_⟩
  rw [Around.under_plain (weight_type_call_type "set" [.ref l] []) rfl]
  have h1 := F.called_set.notType
  have h2 := F.called_set.canCreate
  have hct := F.typeCall_set_1 (.ref l)
  repeat (any_goals (first | assumption | wp_step))
  refine codeAny_mono (code_set_led1 (.ref l) (E := E) (Q₁ := fun obj s₁ => obj = .ref s.heap.objs.size ∧ s₁ = { s with heap := s.heap.push (bareSet w) }) ⟨rfl, rfl⟩) fun r s₁ hr => ?_
  cases r with
  | error e => exact hr
  | ok fl =>
    cases fl with
    | ret obj =>
      obtain ⟨rfl, rfl⟩ := hr
      have atS : (s.heap.push (bareSet w)).get? s.heap.objs.size = some (bareSet w) := Heap.get?_push_size _ rfl
      have hT : Shared.TypeIs { s with heap := s.heap.push (bareSet w) } (.ref s.heap.objs.size) "set" := ⟨_, atS, rfl⟩
      have hli := F.called_set.init.lookup
      have hbi := F.called_set.init.bind (.ref s.heap.objs.size)
      repeat (any_goals (first | assumption | wp_step))
      refine codeAny_mono (codeAny_call_builtin (R := wants (fun r s₂ => r = .none ∧ ∃ h' tk L es ep t, s₂ = { s with heap := h', toks := tk } ∧ SR P w h' s.heap.objs.size L es ep t ∧ Gt ks ks.length L ∧ (∀ b o, s.heap.get? b = some o → h'.get? b = some o)) E) F.called_set.init.plain F.entry_set_init (check_set_init_1 hT ?_)) fun r₂ s₂ hr₂ => ?_
      · obtain ⟨⟨ocls, odict, odata, oslots⟩, hol, hcl, nl, hdl⟩ := hl
        simp only at hcl hdl
        subst hcl hdl
        have hol1 : (s.heap.push (bareSet w)).get? l = some { cls := .type "list", dict := odict, data := .seq items nl, slots := oslots } := Heap.get?_push_of_some _ hol
        have hsls := F.sub_list_set
        have hslf := F.sub_list_frozenset
        have hne : (Value.type "list" == Value.type "dict") = false := by decide
        have hl1 : (s.heap.push (bareSet w)).IsList l items := ⟨_, hol1, rfl, nl, rfl⟩
        unfold Builtin.«set.__init__» noKeywords Builtin.Frozenset.updateFrom
        generalize hPI : pyIter = PI
        wp_walk
        subst hPI
        refine wpAny_pyIter_list hl1 (wpAny_bind (wpAny_runValue ?_))
        have ltl : l < s.heap.objs.size := Heap.lt_size hol
        have sz1 : (s.heap.push (bareSet w)).objs.size = s.heap.objs.size + 1 := Heap.size_push ..
        have hval : ∀ (i : Nat) (v : Value), items[i]? = some v → ∃ p, ks[i]? = some p ∧ v = .ref p.1 := fun i v hv => by
          have q : items.toList[i]? = some v := by
            rw [Array.getElem?_toList]
            exact hv
          rw [hit, List.getElem?_map] at q
          obtain ⟨p, hp, e⟩ := Option.map_eq_some_iff.mp q
          exact ⟨p, hp, e.symm⟩
        have beyond : ∀ b, s.heap.objs.size ≤ b → s.heap.get? b = none := fun b hb => by
          cases q : s.heap.get? b with
          | none => rfl
          | some o => exact absurd (Nat.lt_of_lt_of_le (Heap.lt_size q) hb) (Nat.lt_irrefl _)
        refine update_s ((Walks.list (by simp [hh]) _ l (by rw [sz1]; exact Nat.ne_of_lt (Nat.lt_succ_of_lt ltl)) items).toS) s.heap.objs.size
          (by rw [sz1]; simp only [List.mem_cons, List.not_mem_nil, or_false, not_or]; exact ⟨Nat.ne_of_lt (Nat.lt_succ_self _), Nat.ne_of_gt ltl⟩) ks many few hval s.heap tups (beyond _ (Nat.le_refl _))
          (fun b hb => beyond b (by rw [List.mem_singleton.mp hb, sz1]; exact Nat.le_succ _)) hu (items.size - 0) 0 _ (by omega) (Nat.zero_le _)
          ⟨⟨_, Heap.get?_push_size _ rfl, rfl, rfl⟩, (hl1.push _)⟩ (fun b o e => Heap.get?_push_of_some _ (Heap.get?_push_of_some _ e)) ?hS0 ?hR
        case hS0 =>
          exact ⟨[], #[], 0, _, SR.bare (Heap.get?_push_of_some _ atS), Gt.none ks⟩
        case hR =>
          rintro ⟨h', g2, d', tk', os'⟩ L es ep t mv hS' g' kp
          have eg : g2 = s.gens := mv.gens
          have ed : d' = s.drawn := mv.drawn
          have eo : os' = s.os := mv.os
          subst eg ed eo
          show wpAny _ _ _ _ _ _
          refine wpAny_pure ?_
          show wpAny _ _ (ret Value.none) _ _ _
          rw [many] at g'
          exact wpAny_pure ⟨rfl, h', tk', L, es, ep, t, rfl, hS', g', kp⟩
      · cases r₂ with
        | error e => exact hr₂
        | ok fl₂ =>
          cases fl₂ with
          | ret r =>
            obtain ⟨rfl, h', tk, L, es, ep, t, rfl, hS', g', kp⟩ := hr₂
            repeat (any_goals (first | assumption | wp_step))
            exact hQ _ _ _ _ _ _ hS' g' kp
          | _ => exact hr₂.elim
    | _ => exact hr.elim
end
end HF
namespace HF
open PySem PySem.Spec PyProof.Rows L2
theorem perm_back {α β : Type} {f : α → β} {l m : List β} (h : l.Perm m) : ∀ L : List α, m = L.map f → ∃ L1 : List α, L1.Perm L ∧ l = L1.map f := by
  induction h with
  | nil =>
    intro L e
    cases L with
    | nil => exact ⟨[], .refl _, rfl⟩
    | cons _ _ => cases e
  | cons x _ ih =>
    intro L e
    cases L with
    | nil => cases e
    | cons y r =>
      rw [List.map_cons] at e
      cases e
      obtain ⟨L1, p, rfl⟩ := ih r rfl
      exact ⟨y :: L1, p.cons y, rfl⟩
  | swap x y l =>
    intro L e
    cases L with
    | nil => cases e
    | cons a r =>
      cases r with
      | nil => cases e
      | cons b r =>
        rw [List.map_cons, List.map_cons] at e
        cases e
        exact ⟨b :: a :: r, .swap a b r, rfl⟩
  | trans _ _ ih1 ih2 =>
    intro L e
    obtain ⟨L1, p1, e1⟩ := ih2 L e
    obtain ⟨L2, p2, e2⟩ := ih1 L1 e1
    exact ⟨L2, p2.trans p1, e2⟩
/-- the data of such a tuple -/
abbrev encS (p : Addr × List Str) : PyData := .tuple (p.2.map PyData.str)
section
variable {P : Program} {w : World} {A : Around} {E : Value → Shared → Prop} {s : Shared}
theorem reads_items {h : Heap} {k : List Str} {vs : List Value} (hi : ItemsAre (strKind P w) k vs) : ReadsAll h vs (k.map PyData.str) [] := by
  induction hi with
  | nil => exact .nil
  | @cons k0 v ks vs h1 _ ih =>
    obtain ⟨tk, rfl⟩ := Value.isStrOf_shape (x := k0) h1
    exact ReadsAll.cons (as := []) (bs := []) (.str _ _) ih
theorem IsS.reads {h : Heap} {k : List Str} {b : Addr} (hb : IsS P w h k b) : Reads h (.ref b) (.tuple (k.map PyData.str)) [] := by
  obtain ⟨o, its, n, h1, h2, h3, h4⟩ := hb
  exact .tuple h1 h2 h3 (reads_items h4)
theorem alike_strs : ∀ {xs ys : List Str}, xs.length = ys.length → PySem.W.alikeAll (xs.map PyData.str) (ys.map PyData.str) = true
  | [], [], _ => rfl
  | x :: xs, y :: ys, h => by
    show (true && PySem.W.alikeAll (xs.map PyData.str) (ys.map PyData.str)) = true
    rw [alike_strs (by simpa using h)]
    rfl
theorem each_refs {h : Heap} : ∀ {L : SL}, (∀ p ∈ L, IsS P w h p.2 p.1) → PySem.W.EachIs (fun v (p : Addr × List Str) => ∃ as, Reads h v (encS p) as ∧ ∀ a : Addr, a ∉ as) (L.map fun p => Value.ref p.1) L
  | [], _ => .nil
  | p :: r, h => .cons ⟨[], (h p List.mem_cons_self).reads, fun a z => (nomatch z)⟩ (each_refs fun q hq => h q (List.mem_cons_of_mem _ hq))
theorem each_self : ∀ L : SL, PySem.W.EachIs (fun v (p : Addr × List Str) => v = Value.ref p.1) (L.map fun p => Value.ref p.1) L
  | [] => .nil
  | p :: r => .cons rfl (each_self r)
theorem each_out : ∀ {out : List Value} {L : SL}, PySem.W.EachIs (fun v (p : Addr × List Str) => v = Value.ref p.1) out L → out = L.map fun p => Value.ref p.1
  | _, _, .nil => rfl
  | _, _, .cons h t => by rw [h, each_out t]; rfl
theorem depth_encS (p : Addr × List Str) : (encS p).depth = 1 := by
  have key : ∀ zs : List Str, PyData.depthAll (zs.map PyData.str) = 0 := by
    intro zs
    induction zs with
    | nil => rfl
    | cons z r ih =>
      show max 0 (PyData.depthAll (r.map PyData.str)) = 0
      rw [ih]
      rfl
  show PyData.depthAll (p.2.map PyData.str) + 1 = 1
  rw [key]
theorem sorted_s {a : Addr} {L : SL} {es : Array (Int × Value)} {ep : Nat} {t : SetTable} {Q : Value → Shared → Prop} (R : SR P w s.heap a L es ep t) (hh : A.handled = none) (hu : A.units + 64 < cLine) {d : Nat} (hlen : ∀ p ∈ L, p.2.length = d + 1) (few : L.length ≤ 306)
    (hQ : ∀ (s' : Shared) (p : Addr) (out : Array Value) (c : Nat) (L' : SL), (∀ b o, s.heap.get? b = some o → s'.heap.get? b = some o) → s'.gens = s.gens → s'.os = s.os → s.heap.objs.size ≤ p → s'.heap.get? p = some (seqObj "list" out c) → out.toList = L'.map (fun q => Value.ref q.1) → L'.Perm L →
      L'.Pairwise (fun p q => PySem.W.dataLe false encS p q = true) → Q (.ref p) s') :
    wpAny (model P w) A (call (.builtin "sorted") [.ref a]) Q E s := by
  obtain ⟨o, o1, ex, o2⟩ := R.ob
  have el := ents_size R.rows
  refine Calls.call_function_entry kind_sorted plain_sorted entry_sorted (args_sorted1 _) ?_
  unfold Builtin.«sorted»
  refine wpAny_bind (m := checkCount "sorted" 1 1 _) (wpAny_pure ?_)
  refine wpAny_bind (collect_set (A := A.in1) hh ⟨o, o1, ex.1, o2⟩ R.fits (by unfold scanBound; omega) R.tab.up R.led fun s1 vs k1 hz g1 os1 pm => ?_)
  have hes : es.toList.map (·.2) = L.map fun q => Value.ref q.1 := by
    rw [R.rows]
    unfold ents
    rw [List.map_map]
    rfl
  rw [hes] at pm
  obtain ⟨L1, p1, rfl⟩ := perm_back pm L rfl
  have many : (L1.map fun q => Value.ref q.1).length ≤ 306 := by rw [List.length_map, p1.length_eq]; exact few
  refine wpAny_bind (wpAny_newList ?_ (by rw [sizeLine_eq]; omega))
  have hoL : (s1.heap.push (seqObj "list" (L1.map fun q => Value.ref q.1).toArray 0)).get? s1.heap.objs.size = some (seqObj "list" (L1.map fun q => Value.ref q.1).toArray 0) := Heap.get?_push_size _ rfl
  have tup1 : ∀ q ∈ L1, IsS P w (s1.heap.push (seqObj "list" (L1.map fun q => Value.ref q.1).toArray 0)) q.2 q.1 := fun q hq => (R.tup q (p1.mem_iff.mp hq)).keep fun b u e => Heap.get?_push_of_some _ (k1 b u e)
  have len1 : ∀ q ∈ L1, q.2.length = d + 1 := fun q hq => hlen q (p1.mem_iff.mp hq)
  have hal : PySem.W.AllAlike (L1.map encS) := fun x hx y hy => by
    obtain ⟨q, hq, rfl⟩ := List.mem_map.mp hx
    obtain ⟨r, hr, rfl⟩ := List.mem_map.mp hy
    exact alike_strs ((len1 q hq).trans (len1 r hr).symm)
  have hso : PySem.W.Sortable (L1.map encS) := .inl fun x hx => by
    obtain ⟨q, hq, rfl⟩ := List.mem_map.mp hx
    have := len1 q hq
    cases e : q.2 with
    | nil => rw [e] at this; cases this
    | cons z r => exact ⟨.str z, r.map PyData.str, by show PyData.tuple (q.2.map PyData.str) = _; rw [e]; rfl⟩
  refine wpAny_bind (wpAny_holding (PySem.W.list_sort_data (s := { s1 with heap := s1.heap.push (seqObj "list" (L1.map fun q => Value.ref q.1).toArray 0) }) (enc := encS) hoL (each_self L1)
    ((each_refs tup1).mono fun v p ⟨as, h1, h2⟩ => ⟨as, h1, h2 _⟩) hal hso (by have h5 := many; rw [List.length_map] at h5; rw [sizeLine_eq]; omega) (fun b _ => by rw [depth_encS]; show A.units + 1 + 1 + 1 < cLine; omega) fun out ho eo => ?_))
  have eout := each_out eo
  obtain ⟨c, hc⟩ := sortedHeap_at (vs := L1.map fun q => Value.ref q.1) (out := List.toArray out) hoL
  have pmS := List.mergeSort_perm L1 (PySem.W.dataLe false encS)
  refine wpAny_pure ⟨_, rfl, hQ _ s1.heap.objs.size (List.toArray out) c _ (fun b u e => ?_) g1 os1 hz hc (by rw [← eout]) (pmS.trans p1) ?_⟩
  · have q := k1 b u e
    have lt := Heap.lt_size q
    show (sortedHeap (s1.heap.push (seqObj "list" (L1.map fun q => Value.ref q.1).toArray 0)) s1.heap.objs.size _ _).get? b = some u
    rw [sortedHeap_old (Nat.ne_of_lt lt) (by rw [size_push']; exact Nat.lt_succ_of_lt lt)]
    exact Heap.get?_push_of_some _ q
  · exact PySem.W.sort_pairwise (PySem.W.sortLe_total (PyProof.Rows.listOrd PyProof.Rows.itemOrd) false fun b : Addr × List Str => PySem.W.keyToks (encS b)) L1
end
/-- the set at a, without the tuples themselves -/
def S0 (P : Program) (w : World) (h : Heap) (a : Addr) (L : SL) : Prop := ∃ (es : Array (Int × Value)) (ep : Nat) (t : SetTable), (∃ o, h.get? a = some o ∧ o.ExactSet ∧ o.data = .set es ep t) ∧ es.toList = ents P w L ∧ Tb t (L.map fun p => hk P w p.2) ∧ (L.map (·.2)).Nodup ∧
  (w.params.followText "set-order" = true ∨ t.led = true) ∧ L.length * 5 < t.mask * 3 ∧ (t.mask = 7 ∨ t.mask = 31 ∨ t.mask = 127 ∨ t.mask = 511)
def SetO (P : Program) (w : World) (a : Addr) (L : SL) : HO := .ext fun h => S0 P w h a L
theorem SR.s0 {P : Program} {w : World} {h : Heap} {a : Addr} {L : SL} {es : Array (Int × Value)} {ep : Nat} {t : SetTable} (R : SR P w h a L es ep t) : S0 P w h a L := ⟨es, ep, t, R.ob, R.rows, R.tab, R.nd, R.led, R.room, R.four⟩
theorem S0.full {P : Program} {w : World} {h : Heap} {a : Addr} {L : SL} (R : S0 P w h a L) (ht : ∀ p ∈ L, IsS P w h p.2 p.1) : ∃ es ep t, SR P w h a L es ep t := by
  obtain ⟨es, ep, t, h1, h2, h3, h4, h5, h6, h7⟩ := R
  exact ⟨es, ep, t, h1, h2, h3, h4, ht, h5, h6, h7⟩
theorem SetO.new {P : Program} {w : World} {H : Hp} {h : Heap} {a : Addr} {L : SL} (R : S0 P w h a L) : ObjOk P w H h a (SetO P w a L) := by
  have ⟨_, _, _, ⟨o, ho, _⟩, _⟩ := R
  refine ⟨R, ⟨o, ho⟩, fun h1 h2 p kp => ?_⟩
  obtain ⟨es, ep, t, ⟨o2, ho2, r⟩, q⟩ := (show S0 P w h1 a L from p)
  exact ⟨es, ep, t, ⟨o2, kp o2 ho2, r⟩, q⟩
theorem items_vals {P : Program} {w : World} : ∀ {k : List Str} {us : List Value}, Vals (k.map V.str) us → ItemsAre (strKind P w) k us
  | [], _, .nil => .nil
  | n :: k, _, .cons r t => by
    obtain ⟨tk, rfl⟩ := r
    exact .cons (by show Value.isStrOf n (.str n tk) = true; simp [Value.isStrOf]) (items_vals t)
theorem refs_vals : ∀ {ks : SL} {us : List Value}, Vals (ks.map fun p => V.ref p.1) us → us = ks.map fun p => Value.ref p.1
  | [], _, .nil => rfl
  | p :: ks, _, .cons r t => by
    cases r
    rw [refs_vals t]
    rfl
theorem vals_refs : ∀ (ks : SL), Vals (ks.map fun p => V.ref p.1) (ks.map fun p => Value.ref p.1)
  | [] => .nil
  | p :: ks => .cons rfl (vals_refs ks)
section
variable {X : Cx}
theorem isS_of {pins : List (Addr × Obj)} {σ : L2.St} {H : Hp} {s : Shared} {b : Addr} {k : List Str} (I : Inv X pins σ H s) (h : SqT X.K H b (k.map V.str)) : IsS X.prog X.w s.heap k b := by
  obtain ⟨its, r, ⟨o, h1, h2, n, h3⟩, _⟩ := I.tuple h
  exact ⟨o, its.toArray, n, h1, h2, h3, by simpa using items_vals r⟩
/-- set(xs), xs a list of tuples of texts -/
def rSetS (K : PySem.W.Frag) (P : Program) (w : World) : List V → Hp → VK → Prop := fun us H Q => ∃ (l : Addr) (ks : SL), us = [V.ref l] ∧ SqL K H l (ks.map fun p => V.ref p.1) ∧ (∀ p ∈ ks, SqT K H p.1 (p.2.map V.str)) ∧ ks.length ≤ 306 ∧
  ∀ a L, H a = none → (∀ p ∈ L, p ∈ ks) → (∀ p ∈ ks, p.2 ∈ L.map (·.2)) → (L.map (·.2)).Nodup → L.length ≤ ks.length → Q (.ref a) (upd H a (SetO P w a L))
theorem cr_setS (hc : X.calm = true) (hu : X.A.units + 64 < cLine) : CallR X (.type "set") (rSetS X.K X.prog X.w) := by
  intro pins st σ H us ws Q I rel hyp
  obtain ⟨l, ks, rfl, hl, ht, few, q⟩ := hyp
  rw [Vals.ref1 rel]
  obtain ⟨its, rv, pl, hz⟩ := I.list hl
  refine call_set_s (P := X.prog) (w := X.w) ks (I.ok.hd hc) pl.isList (by simpa using refs_vals rv) (fun p hp => isS_of I (ht p hp)) few (by omega) fun h1 tk L es ep t R g kp => ?_
  exact ⟨.ref st.heap.objs.size, _, I.laid (t' := tk) kp (Nat.le_refl _) (SetO.new R.s0), rfl, q _ L (I.hok.fresh (Nat.le_refl _)) (fun p hp => List.mem_of_mem_take (g.sub p hp)) (fun p hp => g.all p (by rw [List.take_length]; exact hp)) R.nd g.few⟩
/-- sorted(set) -/
def rSortS (K : PySem.W.Frag) (P : Program) (w : World) : List V → Hp → VK → Prop := fun us H Q => ∃ (a : Addr) (L : SL) (d : Nat), us = [V.ref a] ∧ H a = some (SetO P w a L) ∧ (∀ p ∈ L, SqT K H p.1 (p.2.map V.str)) ∧ (∀ p ∈ L, p.2.length = d + 1) ∧ L.length ≤ 306 ∧
  ∀ (L' : SL) (p : Addr), L'.Perm L → (L'.map (·.2)).Nodup → L'.Pairwise (fun p q => PySem.W.dataLe false encS p q = true) → H p = none → Q (.ref p) (upd H p (.lst (L'.map fun q => V.ref q.1)))
theorem cr_sortS (hc : X.calm = true) (hu : X.A.units + 64 < cLine) : CallR X (.builtin "sorted") (rSortS X.K X.prog X.w) := by
  intro pins st σ H us ws Q I rel hyp
  obtain ⟨a, L, d, rfl, ha, ht, hlen, few, q⟩ := hyp
  obtain ⟨es, ep, t, R⟩ := S0.full (show S0 X.prog X.w st.heap a L from (I.hok a _ ha).1) fun p hp => isS_of I (ht p hp)
  rw [Vals.ref1 rel]
  refine sorted_s R (I.ok.hd hc) hu hlen few fun s2 p out c L2 kp g2 o2 hp hg hout pm pw => ?_
  have fresh : H p = none := I.hok.fresh hp
  have hv : Vals (L2.map fun q => V.ref q.1) out.toList := hout ▸ vals_refs L2
  have hz : (L2.map fun q => V.ref q.1).length ≤ sizeLine := by
    rw [List.length_map, pm.length_eq, sizeLine_eq]
    omega
  have J : Inv X pins σ (upd H p (.lst (L2.map fun q => V.ref q.1))) { st with heap := s2.heap, gens := s2.gens, drawn := s2.drawn, toks := s2.toks } :=
    I.call (ch := []) (Un.laid kp hp fresh) (I.hok.laid kp hp ⟨hz, out.toList, c, hv, hg⟩) (by rw [g2]; exact I.bare) (fun _ z => nomatch z)
  have e : s2 = { st with heap := s2.heap, gens := s2.gens, drawn := s2.drawn, toks := s2.toks } := by
    cases s2
    cases st
    cases o2
    rfl
  rw [e]
  exact ⟨.ref p, _, J, rfl, q L2 p pm ((pm.map (·.2)).nodup_iff.mpr R.nd) pw fresh⟩
end
end HF
namespace HF
open PySem PySem.Spec PyProof.Rows L2
theorem show_strs : ∀ zs : List Str, PyData.showableAll (zs.map PyData.str) = true
  | [] => rfl
  | z :: r => show_strs r
theorem nodict_strs : ∀ zs : List Str, PyData.hasDictAll (zs.map PyData.str) = false
  | [] => rfl
  | z :: r => nodict_strs r
theorem ints_strs (B : Nat) : ∀ zs : List Str, PyData.intsShortAll B (zs.map PyData.str) = true
  | [] => rfl
  | z :: r => ints_strs B r
theorem weight_strs : ∀ {zs : List Str}, (∀ z ∈ zs, Nm z) → PyData.weightAll (zs.map PyData.str) ≤ 7 * zs.length
  | [], _ => Nat.le_refl _
  | z :: r, h => by
    have ih := weight_strs fun y hy => h y (List.mem_cons_of_mem _ hy)
    have hz := (h z List.mem_cons_self).2.1
    rw [Array.length_toList] at hz
    show z.cps.size + 1 + PyData.weightAll (r.map PyData.str) ≤ 7 * (r.length + 1)
    omega
abbrev dTwo (xs ys : List Str) : PyData := .list [.tuple (xs.map PyData.str), .list (ys.map PyData.str)]
theorem two_show (xs ys : List Str) : (dTwo xs ys).showable = true := by
  show (PyData.showableAll (xs.map PyData.str) && (PyData.showableAll (ys.map PyData.str) && true)) = true
  rw [show_strs, show_strs]
  rfl
theorem two_nodict (xs ys : List Str) : (dTwo xs ys).hasDict = false := by
  show (PyData.hasDictAll (xs.map PyData.str) || (PyData.hasDictAll (ys.map PyData.str) || false)) = false
  rw [nodict_strs, nodict_strs]
  rfl
theorem two_depth (xs ys : List Str) : (dTwo xs ys).depth < 60 := by
  show max (PyData.depthAll (xs.map PyData.str) + 1) (max (PyData.depthAll (ys.map PyData.str) + 1) 0) + 1 < 60
  rw [depth_strs, depth_strs]
  decide
theorem two_fits {xs ys : List Str} (hx : ∀ z ∈ xs, Nm z) (hy : ∀ z ∈ ys, Nm z) (lx : xs.length ≤ 1000) (ly : ys.length ≤ 1000) : (dTwo xs ys).shown.length ≤ sizeLine := by
  refine PyData.shown_fits (B := 13) (by decide) (by decide) (PyData.leavesShort_of_canLay0 13 _ ?_ ?_) ?_
  · show (PyData.canLayAll0 (xs.map PyData.str) && (PyData.canLayAll0 (ys.map PyData.str) && true)) = true
    rw [canLay_strs hx, canLay_strs hy]
    rfl
  · show (PyData.intsShortAll 13 (xs.map PyData.str) && (PyData.intsShortAll 13 (ys.map PyData.str) && true)) = true
    rw [ints_strs, ints_strs]
    rfl
  · show PyData.weightAll (xs.map PyData.str) + 1 + (PyData.weightAll (ys.map PyData.str) + 1 + 0) ≤ 2 ^ 20
    have h1 := weight_strs hx
    have h2 := weight_strs hy
    omega
theorem cutTo (xs : List V) (k : Nat) : cutV xs none (some (k : Int)) = xs.take k := by
  unfold cutV
  rw [HT.sIx_none, HT.sIx_nat, List.drop_zero, Nat.sub_zero]
  rcases Nat.le_total k xs.length with h | h
  · rw [Nat.min_eq_left h]
  · rw [Nat.min_eq_right h, List.take_of_length_le (Nat.le_refl _), List.take_of_length_le h]
theorem cutFrom (xs : List V) (k : Nat) : cutV xs (some (k : Int)) none = xs.drop k := by
  unfold cutV
  rw [HT.sIx_none, HT.sIx_nat]
  rcases Nat.le_total k xs.length with h | h
  · rw [Nat.min_eq_left h]
    exact List.take_of_length_le (by rw [List.length_drop]; omega)
  · rw [Nat.min_eq_right h, Nat.sub_self, List.take_zero, List.drop_of_length_le h]
theorem Hq.of_tp {K : PySem.W.Frag} {H : Hp} {a : Addr} {zs : List Str} (h : Tp H a (zs.map V.str)) : Hq K H a zs := .inr h
theorem Tp.ne {H : Hp} {a p : Addr} {xs : List V} {c : Int} (h : Tp H a xs) (hb : Bx H p c) : a ≠ p := by
  obtain ⟨ob, e, _⟩ := h
  obtain ⟨x, y, e2, _⟩ := hb
  exact ne_of e e2 (by intro z; cases z)
theorem Bx.same {H H' : Hp} {p : Addr} {c : Int} (h : Bx H p c) (sm : Same H H') : Bx H' p c := by
  obtain ⟨a, b, e, r⟩ := h
  exact ⟨a, b, sm _ _ e, r⟩
end HF
namespace HF
open PySem PySem.Spec PyProof.Rows L2
theorem rep_mem {bs : List Addr} {k i : Nat} {x : V} (h : (List.replicate k (bs.map V.ref)).flatten[i]? = some x) : ∃ b ∈ bs, x = .ref b := by
  have hm := List.mem_of_getElem? h
  obtain ⟨l, hl, hx⟩ := List.mem_flatten.mp hm
  rw [(List.mem_replicate.mp hl).2] at hx
  obtain ⟨b, hb, rfl⟩ := List.mem_map.mp hx
  exact ⟨b, hb, rfl⟩
theorem Bx.oth {H H' : Hp} {p b : Addr} {c : Int} (h : Bx H b c) (o : Oth p H H') (n : b ≠ p) : Bx H' b c := by
  obtain ⟨x, y, e, r⟩ := h
  exact ⟨x, y, o _ _ e n, r⟩
def spLaw (K : PySem.W.Frag) : Sp := fun vs H Q _ => ∃ (a : Addr) (ns : List Int), vs = [.ref a] ∧ SqL K H a (ns.map V.int) ∧ ns.length ≤ 63 ∧ ∀ H', Q (.bl true) H'
end HF
namespace HF
open PySem PySem.Spec PyProof.Rows L2
/-- what the top has written, told once -/
structure At (K : PySem.W.Frag) (x : Str) (st : Stmt) (f : Addr) : Prop where
  ns : PySem.W.nsIn K mainGlobals x = some (some (.ref f))
  fn : ∃ (oc : Value) (od an : Option Addr) (osl : Array (Option Value)) (kV doc pm cdv ct : Value), K.lookup f = some ⟨oc, od, .func (PySem.W.fnOf x x (defArgs st) (defBody st) (defScope st) .none kV doc pm an cdv ct), osl⟩ ∧ PySem.W.codeIn K cdv x = true
  kp : PySem.W.keepIn K (.ref f) = true
theorem at_mk {K : PySem.W.Frag} {x : Str} {st : Stmt} {f : Addr} {oc : Value} {od an : Option Addr} {osl : Array (Option Value)} {kV doc pm cdv ct : Value} (n : PySem.W.nsIn K mainGlobals x = some (some (.ref f)))
    (l : K.lookup f = some ⟨oc, od, .func (PySem.W.fnOf x x (defArgs st) (defBody st) (defScope st) .none kV doc pm an cdv ct), osl⟩) (c : PySem.W.codeIn K cdv x = true) (k : PySem.W.keepIn K (.ref f) = true) : At K x st f := ⟨n, ⟨oc, od, an, osl, kV, doc, pm, cdv, ct, l, c⟩, k⟩
theorem At.fun {K : PySem.W.Frag} {x : Str} {st : Stmt} {f : Addr} (a : At K x st f) : ∃ fd, Fun K x x st f fd ∧ ∃ (kV doc pm : Value) (an : Option Addr) (cdv ct : Value), fd = PySem.W.fnOf x x (defArgs st) (defBody st) (defScope st) .none kV doc pm an cdv ct := by
  obtain ⟨oc, od, an, osl, kV, doc, pm, cdv, ct, l, c⟩ := a.fn
  exact ⟨_, fun_mk l c a.kp, kV, doc, pm, an, cdv, ct, rfl⟩
end HF
namespace HF
open PySem PySem.Spec PyProof.Rows L2
/-! ### sorted texts, as a function of the texts -/
def srt (xs : List Str) : List Str := xs.mergeSort (PySem.W.dataLe false PyData.str)
theorem srt_perm (xs : List Str) : (srt xs).Perm xs := List.mergeSort_perm xs _
theorem srt_len (xs : List Str) : (srt xs).length = xs.length := (srt_perm xs).length_eq
theorem each_texts : ∀ {xs : List Str} {us : List Value}, Vals (xs.map V.str) us → PySem.W.EachIs (fun v (x : Str) => ∃ t, v = Value.str x t) us xs
  | [], _, .nil => .nil
  | x :: r, _, .cons h t => .cons h (each_texts t)
theorem texts_each : ∀ {xs : List Str} {us : List Value}, PySem.W.EachIs (fun v (x : Str) => ∃ t, v = Value.str x t) us xs → Vals (xs.map V.str) us
  | _, _, .nil => .nil
  | _, _, .cons h t => .cons h (texts_each t)
theorem each_reads {h : Heap} : ∀ {xs : List Str} {us : List Value}, PySem.W.EachIs (fun v (x : Str) => ∃ t, v = Value.str x t) us xs → PySem.W.EachIs (fun v (x : Str) => ∃ as, Reads h v (PyData.str x) as ∧ ∀ a : Addr, a ∉ as) us xs
  | _, _, .nil => .nil
  | _, _, .cons ⟨t, e⟩ r => .cons ⟨[], e ▸ .str _ t, fun _ z => nomatch z⟩ (each_reads r)
theorem alike_texts (xs : List Str) : PySem.W.AllAlike (xs.map PyData.str) := fun x hx y hy => by
  obtain ⟨a, _, rfl⟩ := List.mem_map.mp hx
  obtain ⟨b, _, rfl⟩ := List.mem_map.mp hy
  rfl
theorem sortable_texts (xs : List Str) : PySem.W.Sortable (xs.map PyData.str) := .inr fun x hx => by
  obtain ⟨a, _, rfl⟩ := List.mem_map.mp hx
  exact ⟨by simp, by simp⟩
section
variable {X : Cx}
def rSrt (K : PySem.W.Frag) : List V → Hp → VK → Prop := fun us H Q => ∃ (a : Addr) (xs : List Str), us = [V.ref a] ∧ Sq K H a (xs.map V.str) ∧ xs.length ≤ 1000 ∧ ∀ p, H p = none → Q (.ref p) (upd H p (.lst ((srt xs).map V.str)))
theorem cr_srt (hu : X.A.units + 64 < cLine) : CallR X (.builtin "sorted") (rSrt X.K) := by
  intro pins st σ H us ws Q I rel hyp
  obtain ⟨a, xs, rfl, hq, few, q⟩ := hyp
  rw [Vals.ref1 rel]
  have hz : ((srt xs).map V.str).length ≤ sizeLine := by
    rw [List.length_map, srt_len, sizeLine_eq]
    omega
  rcases hq with hq | hq
  · obtain ⟨its, rv, hl, _⟩ := I.list hq
    have ev := each_texts rv
    refine PySem.W.sorted_data (enc := PyData.str) hl.isList ev ((each_reads ev).mono fun v x ⟨as, h1, _⟩ => ⟨as, h1⟩) (alike_texts xs) (sortable_texts xs) (by rw [sizeLine_eq]; omega) (fun b _ => by show X.A.units + 2 + 0 < cLine; omega) fun out hout eo => ?_
    obtain ⟨ep, he⟩ := PyProof.Rows.sortedAll_at st.heap its (List.toArray out)
    exact ⟨.ref _, _, I.laid (t' := st.toks) (o := .lst ((srt xs).map V.str)) (fun _ _ => PyProof.Rows.sortedAll_old) (Nat.le_succ _) ⟨hz, out, ep, texts_each eo, he⟩, rfl, q _ (I.hok.fresh (Nat.le_succ _))⟩
  · obtain ⟨its, rv, ⟨ob, h1, h2, n, h3⟩, _⟩ := I.tuple hq
    have hlen := rv.length
    rw [List.length_map] at hlen
    have ev := each_texts rv
    refine Calls.call_function_entry kind_sorted plain_sorted entry_sorted (args_sorted1 _) ?_
    unfold Builtin.«sorted»
    refine wpAny_bind (m := checkCount "sorted" 1 1 _) (wpAny_pure ?_)
    refine wpAny_bind (wpAny_collect_seq a (.inr rfl) h1 h2 h3 (fun h4 kp => ?_) (by rw [List.size_toArray, sizeLine_eq]; omega))
    show wpAny _ _ (newList its >>= _) _ _ _
    refine wpAny_bind (wpAny_newList ?_ (by rw [sizeLine_eq]; omega))
    have hoL : (h4.push (seqObj "list" its.toArray 0)).get? h4.objs.size = some (seqObj "list" its.toArray 0) := Heap.get?_push_size _ rfl
    refine wpAny_bind (wpAny_holding (PySem.W.list_sort_data (s := { st with heap := h4.push (seqObj "list" its.toArray 0) }) (enc := PyData.str) hoL ev ((each_reads ev).mono fun v x ⟨as, g1, g2⟩ => ⟨as, g1, g2 _⟩) (alike_texts xs) (sortable_texts xs) (by rw [sizeLine_eq]; omega)
      (fun b _ => by show X.A.units + 1 + 1 + 0 < cLine; omega) fun out hout eo => ?_))
    obtain ⟨c, hc⟩ := sortedHeap_at (vs := its) (out := List.toArray out) hoL
    have I4 : Inv X pins σ H { st with heap := h4 } := I.kept (t' := st.toks) kp
    refine wpAny_pure ⟨_, rfl, .ref h4.objs.size, _, I4.laid (t' := st.toks) (o := .lst ((srt xs).map V.str)) (fun b u e => ?_) (Nat.le_refl _) ⟨hz, out, c, texts_each eo, hc⟩, rfl, q _ (I4.hok.fresh (Nat.le_refl _))⟩
    have lt := Heap.lt_size e
    show (sortedHeap (h4.push (seqObj "list" its.toArray 0)) h4.objs.size _ _).get? b = some u
    rw [sortedHeap_old (Nat.ne_of_lt lt) (by rw [size_push']; exact Nat.lt_succ_of_lt lt)]
    exact Heap.get?_push_of_some _ e
end
end HF
namespace HF
open PySem PySem.Spec PyProof.Rows L2
def topS (i : Nat) : Stmt := PySem.Challenge.pw_heapfriends_k03_goings_one_by_one.main.body.getD i (.Pass ⟨0, 0, 0, 0⟩)
abbrev sBox : Stmt := topS 14
abbrev sTake : Stmt := topS 15
abbrev sStrewn : Stmt := topS 19
abbrev sNames : Stmt := topS 20
abbrev sHeap : Stmt := topS 21
abbrev sSame : Stmt := topS 17
section
variable {P : Program} {w : World} {K : PySem.W.Frag} {mg : Str → Option Value} {base : Heap}
theorem scBox : FnScope ["_law_script", "_law_k", "_law_cell"] ["_law_script", "_law_k"] (defScope sBox) := ⟨rfl, rfl, rfl, by decide +kernel, rfl, by decide +kernel, by decide +kernel⟩
theorem scTake : FnScope ["_law_box_here", "_law_bound", "_law_found", "_law_once"] ["_law_box_here", "_law_bound"] (defScope sTake) := ⟨rfl, rfl, rfl, by decide +kernel, rfl, by decide +kernel, by decide +kernel⟩
theorem ok_take {f : Addr} {fd : FuncData} {k : Nat} (F : Fun K "_law_take" "_law_take" sTake f fd) : FnOk P w K mg base CX0 (k + 1) f fd ["_law_box_here", "_law_bound"] spTake := by
  refine F.ok scTake (fun vs H Q E h => ?_) (fun cdv A outer s H vs Q E hr h => ?_)
  · obtain ⟨p, m, c, rfl, _⟩ := h
    rfl
  · obtain ⟨p, m, c, rfl, ⟨a, b, hp, ha, hb, hb2, hc⟩, hc2, hm, hm2, q⟩ := h
    refine ⟨_, pss_cons (ps_if (pt_cmpR op_gt (pe_ix ix_list (pv 0) pe_int (fun _ _ => rfl)) pe_int (nomark _))
        (pss_cons (ps_set (i := 2) scTake.nd rfl (.inl rfl) (pe_op op_modN (pe_ix ix_list (pv 0) pe_int (fun _ _ => rfl)) (pv 1)))
        (pss_cons (ps_asg (pe_op op_fdivN (pe_ix ix_list (pv 0) pe_int (fun _ _ => rfl)) (pv 1)) (pg_sub (pv 0) pe_int set_list))
        (pss_one (ps_ret (pv 2))))) pss_nil)
      (pss_cons (ps_asg (pe_op op_add (pe_ix ix_list (pv 0) pe_int (fun _ _ => rfl)) pe_int) (pg_sub (pv 0) pe_int set_list))
      (pss_cons (ps_set (i := 3) scTake.nd rfl (.inl rfl) (pe_op op_modN (pe_op op_pow (pe_op op_add (pe_ix ix_list (pv 0) pe_int (fun _ _ => rfl)) (pe_op op_mul pe_int (pe_ix ix_list (pv 0) pe_int (fun _ _ => rfl)))) pe_int) pe_int))
      (pss_one (ps_ret (pe_op op_modN (pe_op op_fdivN (pe_op op_modN (pe_op op_add (pe_op op_mul (pv 3) (pe_op op_add (pe_op op_modN (pv 3) pe_int) pe_int)) (pe_op op_mul (pe_ix ix_list (pv 0) pe_int (fun _ _ => rfl)) pe_int)) pe_int) pe_int) (pv 1)))))), ?_⟩
    refine ⟨.ref p, rfl, p, _, 0, .int a, rfl, rfl, .inl (.inl hp), atI_nat (j := 0) rfl, a, 0, rfl, rfl, _, rfl, ite2 (fun e => ?_) (fun e => ?_)⟩
    · refine ⟨.ref p, rfl, p, _, 0, .int a, rfl, rfl, .inl (.inl hp), atI_nat (j := 0) rfl, .int m, rfl, a, m, rfl, rfl, by omega, ?_⟩
      refine ⟨.ref p, rfl, p, _, 0, .int a, rfl, rfl, .inl (.inl hp), atI_nat (j := 0) rfl, .int m, rfl, a, m, rfl, rfl, ⟨by omega, by omega⟩, .ref p, rfl, p, _, 0, 0, rfl, rfl, hp, rfl, ?_⟩
      exact ⟨_, rfl, q _ c _ (fmod_in a hm).1 (fmod_in a hm).2 (by omega) (by omega) ⟨_, _, upd_same, fdiv_nn ha hm, hb, hb2, hc⟩⟩
    · have hp2 : (upd H p (.lst [.int a, .int b, .int (c + 1)])) p = some (.lst [.int a, .int b, .int (c + 1)]) := upd_same
      have ho := fmod_in ((b + 39373 * (c + 1)) ^ 5) (m := 2147483647) (by decide)
      refine ⟨.ref p, rfl, p, _, 2, .int c, rfl, rfl, .inl (.inl hp), atI_nat (j := 2) rfl, c, 1, rfl, rfl, .ref p, rfl, p, _, 2, 2, rfl, rfl, hp, rfl, ?_⟩
      refine ⟨.ref p, rfl, p, _, 1, .int b, rfl, rfl, .inl (.inl hp2), atI_nat (j := 1) rfl, .ref p, rfl, p, _, 2, .int (c + 1), rfl, rfl, .inl (.inl hp2), atI_nat (j := 2) rfl,
        39373, c + 1, rfl, rfl, .inl ⟨by decide, by decide⟩, b, 39373 * (c + 1), rfl, rfl, b + 39373 * (c + 1), 5, rfl, rfl, ⟨by decide, by decide, by omega⟩, _, 2147483647, rfl, rfl, nz (by decide), ?_⟩
      refine ⟨_, rfl, _, rfl, _, 40009, rfl, rfl, nz (by decide), _, 7, rfl, rfl, _, _, rfl, rfl, .inl ⟨?_, ?_⟩, .ref p, rfl, p, _, 2, .int (c + 1), rfl, rfl, .inl (.inl hp2), atI_nat (j := 2) rfl, c + 1, 7919, rfl, rfl, .inr ⟨by decide, by decide⟩,
        _, _, rfl, rfl, _, 2147483629, rfl, rfl, nz (by decide), _, 64, rfl, rfl, ⟨by decide, by decide⟩, .int m, rfl, _, m, rfl, rfl, by omega, ?_⟩
      · exact Int.lt_of_lt_of_le (by decide) ho.1
      · exact Int.lt_trans ho.2 (by decide)
      · exact q _ (c + 1) _ (fmod_in _ hm).1 (fmod_in _ hm).2 (by omega) (by omega) ⟨_, _, upd_same, ha, hb, hb2, by omega⟩
theorem ok_box {f : Addr} {fd : FuncData} {k : Nat} (F : Fun K "_law_box" "_law_box" sBox f fd) (ml : mg "len" = none) (mA : mg "abs" = none) (mi : mg "int" = none) : FnOk P w K mg base CX0 (k + 1) f fd ["_law_script", "_law_k"] (spBox K) := by
  refine F.ok scBox (fun vs H Q E h => ?_) (fun cdv A outer s H vs Q E hr h => ?_)
  · obtain ⟨a, ns, k, rfl, _⟩ := h
    rfl
  · obtain ⟨a, ns, k, rfl, hS, hk, q⟩ := h
    refine ⟨_, pss_cons (ps_set (i := 2) scBox.nd rfl (.inl rfl) pe_int)
      (pss_cons (ps_if (pt_cmpR op_lt (pv 1) (pe_callB call_len_seq (by rfl) ml PySem.boot_len (pa_cons (pv 0) pa_nil)) (nomark _))
        (pss_one (ps_set (i := 2) scBox.nd rfl (.inl rfl) (pe_ix ix_list (pv 0) (pv 1) (fun _ _ => rfl)))) pss_nil)
      (pss_one (ps_ret (pe_lst (pa_cons (pe_op op_mul (pe_callB call_abs (by rfl) mA (by decide +kernel) (pa_cons (pv 2) pa_nil))
          (pe_callTy call_int1 (by rfl) mi (by decide +kernel) (pa_cons (pe_cmpR op_ge (pe_callB call_abs (by rfl) mA (by decide +kernel) (pa_cons (pv 2) pa_nil)) (pe_op op_pow pe_int pe_int) (nomark _)) pa_nil)))
        (pa_cons (pe_op op_add (pe_op op_add (pe_op op_modN (pv 2) pe_int) (pe_op op_mul pe_int (pv 1))) pe_int) (pa_cons pe_int pa_nil))))))), ?_⟩
    refine ⟨_, rfl, .ref a, rfl, a, _, rfl, .inl hS, _, _, rfl, rfl, _, rfl, ?_⟩
    have hz : (3 : Nat) ≤ sizeLine := by decide
    refine ite2 (fun e => ?_) (fun e => ?_)
    · have e1 : (k : Int) < ((ns.map V.int).length : Nat) := of_decide_eq_true e
      have hk2 : k < ns.length := by
        rw [List.length_map] at e1
        omega
      refine ⟨.ref a, rfl, .int k, rfl, a, _, k, .int ns[k], rfl, rfl, hS, atI_nat (j := k) (by rw [List.getElem?_map, List.getElem?_eq_getElem hk2]; rfl), ?_⟩
      have hm := fmod_in ns[k] (m := 2147483629) (by decide)
      refine ⟨_, rfl, ns[k], rfl, _, rfl, ns[k], rfl, 10, 18, rfl, rfl, ⟨by decide, by decide, by decide⟩, _, _, rfl, rfl, .inr ⟨_, rfl, _, _, rfl, rfl, .inr ⟨?_, ?_⟩, _, rfl, ns[k], 2147483629, rfl, rfl, nz (by decide), .int k, rfl, 6151, k, rfl, rfl, .inl ⟨by decide, by decide⟩, _, _, rfl, rfl, _, 29, rfl, rfl, hz, fun p hp => ?_⟩⟩
      · exact (b01 _).1
      · exact (b01 _).2
      · refine q p _ hp ⟨_, _, upd_same, ?_, ?_, ?_, by decide⟩
        · split <;> split <;> omega
        · omega
        · omega
    · have hm := fmod_in 0 (m := 2147483629) (by decide)
      refine ⟨_, rfl, 0, rfl, _, rfl, 0, rfl, 10, 18, rfl, rfl, ⟨by decide, by decide, by decide⟩, _, _, rfl, rfl, .inr ⟨_, rfl, _, _, rfl, rfl, .inr ⟨?_, ?_⟩, _, rfl, 0, 2147483629, rfl, rfl, nz (by decide), .int k, rfl, 6151, k, rfl, rfl, .inl ⟨by decide, by decide⟩, _, _, rfl, rfl, _, 29, rfl, rfl, hz, fun p hp => ?_⟩⟩
      · exact (b01 _).1
      · exact (b01 _).2
      · refine q p _ hp ⟨_, _, upd_same, ?_, ?_, ?_, by decide⟩
        · split <;> split <;> omega
        · omega
        · omega
theorem scStrewn : FnScope ["_law_box_here", "_law_some", "_law_found", "_law_part"] ["_law_box_here", "_law_some"] (defScope sStrewn) := ⟨rfl, rfl, rfl, by decide +kernel, rfl, by decide +kernel, by decide +kernel⟩
theorem ok_strewn {f fT : Addr} {fd fdT : FuncData} {k : Nat} (F : Fun K "_law_strewn" "_law_strewn" sStrewn f fd) (FT : Fun K "_law_take" "_law_take" sTake fT fdT) (bT : Binds K fdT ["_law_box_here", "_law_bound"] []) (gT : mg "_law_take" = some (.ref fT)) (ml : mg "len" = none) :
    FnOk P w K mg base CX0 (k + 2) f fd ["_law_box_here", "_law_some"] (spStrewn K) := by
  have GT : FnOk P w K mg base CX0 (k + 1) fT fdT ["_law_box_here", "_law_bound"] spTake := ok_take FT
  refine F.ok scStrewn (fun vs H Q E h => ?_) (fun cdv A outer s H vs Q E hr h => ?_)
  · obtain ⟨p, a, c, xs, rfl, _⟩ := h
    rfl
  · obtain ⟨p, a, c, xs, rfl, hB, hc, nap, hS, hlen, q⟩ := h
    have hBnn := hB.nn
    rcases hS with hS | hS
    · refine ⟨_, pss_cons (ps_set (i := 2) scStrewn.nd rfl (.inl rfl) (pe_lst pa_nil))
        (pss_cons (ps_for PassesOwn.never rfl (pi_list (pv 1)) (pg_name (i := 3) scStrewn.nd rfl (.inl rfl))
          (pss_one (ps_expr (pe_bm PySem.F.plainAttrs_list PySem.F.slot_list_insert PySem.F.type_list_insert mt_insert (pv 2)
            (pa_cons (pe_call GT hr (by rfl) gT FT.kp bT .nil pass0 (pa_cons (pv 0) (pa_cons (pe_op op_add (pe_callB call_len_seq (by rfl) ml PySem.boot_len (pa_cons (pv 2) pa_nil)) pe_int) pa_nil))) (pa_cons (pv 3) pa_nil))))))
        (pss_one (ps_ret (pv 2)))), ?_⟩
      refine ⟨Nat.zero_le _, fun l nl => ?_⟩
      have npl : p ≠ l := hB.new nl
      refine ⟨.ref a, rfl, a, rfl, ⟨xs, (Same.seq (same_upd nl) hS)⟩, for_list (xs := xs) (fun i σ H3 => ∃ y3 ys c', σ = [some (.ref p), some (.ref a), some (.ref l), y3] ∧ ys.Perm (xs.take i) ∧ c ≤ c' ∧ c' ≤ c + i ∧ H3 l = some (.lst ys) ∧ Bx H3 p c' ∧ Oth p H H3) ?_ ?_ ?_ ?_⟩
      · exact ⟨none, [], c, rfl, by simp, by omega, by omega, upd_same, hB.ne npl, (Oth.refl p H).new nl⟩
      · rintro i σ H3 hi ⟨y3, ys, c', rfl, hpm, h1, h2, hl, hb, ho⟩
        exact ho.seq nap hS
      · rintro i x σ H3 hx ⟨y3, ys, c', rfl, hpm, h1, h2, hl, hb, ho⟩
        have hi : i < xs.length := by
          rcases Nat.lt_or_ge i xs.length with h | h
          · exact h
          · rw [List.getElem?_eq_none h] at hx
            cases hx
        have hyl : ys.length = i := by
          rw [hpm.length_eq, List.length_take]
          omega
        refine ⟨.ref l, rfl, .inl ⟨rfl, _, .inl (.inl hl)⟩, .ref p, rfl, .ref l, rfl, l, ys, rfl, .inl (.inl (.inl hl)), ys.length, 1, rfl, rfl, p, (ys.length : Int) + 1, c', rfl, hb, by omega, by omega, by omega, ?_⟩
        intro r c2 o hr0 hr1 hc0 hc1 hb2
        have hl2 : (upd H3 p o) l = some (.lst ys) := by
          rw [upd_ne npl.symm]
          exact hl
        refine ⟨x, rfl, l, ys, r, x, rfl, rfl, hl2, ?_, hr0, by omega, ?_⟩
        · rw [hyl, PySem.sizeLine_eq]
          omega
        · refine ⟨some x, _, c2, rfl, (ins_perm ys x r.toNat).trans ?_, by omega, by omega, upd_same, hb2.ne npl, (ho.trans Oth.put).new nl⟩
          rw [List.take_add_one, hx]
          exact hpm.append_right _
      · rintro σ H3 ⟨y3, ys, c', rfl, hpm, h1, h2, hl, hb, ho⟩
        rw [List.take_length] at hpm
        exact ⟨.ref l, rfl, q H3 l ys c' nl ho hl hpm hb h1 h2⟩
    · refine ⟨_, pss_cons (ps_set (i := 2) scStrewn.nd rfl (.inl rfl) (pe_lst pa_nil))
        (pss_cons (ps_for PassesOwn.never rfl (pi_tup (pv 1)) (pg_name (i := 3) scStrewn.nd rfl (.inl rfl))
          (pss_one (ps_expr (pe_bm PySem.F.plainAttrs_list PySem.F.slot_list_insert PySem.F.type_list_insert mt_insert (pv 2)
            (pa_cons (pe_call GT hr (by rfl) gT FT.kp bT .nil pass0 (pa_cons (pv 0) (pa_cons (pe_op op_add (pe_callB call_len_seq (by rfl) ml PySem.boot_len (pa_cons (pv 2) pa_nil)) pe_int) pa_nil))) (pa_cons (pv 3) pa_nil))))))
        (pss_one (ps_ret (pv 2)))), ?_⟩
      refine ⟨Nat.zero_le _, fun l nl => ?_⟩
      have npl : p ≠ l := hB.new nl
      refine ⟨.ref a, rfl, a, rfl, ⟨xs, (sameT (same_upd nl) hS)⟩, for_tup (xs := xs) (fun i σ H3 => ∃ y3 ys c', σ = [some (.ref p), some (.ref a), some (.ref l), y3] ∧ ys.Perm (xs.take i) ∧ c ≤ c' ∧ c' ≤ c + i ∧ H3 l = some (.lst ys) ∧ Bx H3 p c' ∧ Oth p H H3) ?_ ?_ ?_ ?_⟩
      · exact ⟨none, [], c, rfl, by simp, by omega, by omega, upd_same, hB.ne npl, (Oth.refl p H).new nl⟩
      · rintro i σ H3 hi ⟨y3, ys, c', rfl, hpm, h1, h2, hl, hb, ho⟩
        exact ho.sqT nap hS
      · rintro i x σ H3 hx ⟨y3, ys, c', rfl, hpm, h1, h2, hl, hb, ho⟩
        have hi : i < xs.length := by
          rcases Nat.lt_or_ge i xs.length with h | h
          · exact h
          · rw [List.getElem?_eq_none h] at hx
            cases hx
        have hyl : ys.length = i := by
          rw [hpm.length_eq, List.length_take]
          omega
        refine ⟨.ref l, rfl, .inl ⟨rfl, _, .inl (.inl hl)⟩, .ref p, rfl, .ref l, rfl, l, ys, rfl, .inl (.inl (.inl hl)), ys.length, 1, rfl, rfl, p, (ys.length : Int) + 1, c', rfl, hb, by omega, by omega, by omega, ?_⟩
        intro r c2 o hr0 hr1 hc0 hc1 hb2
        have hl2 : (upd H3 p o) l = some (.lst ys) := by
          rw [upd_ne npl.symm]
          exact hl
        refine ⟨x, rfl, l, ys, r, x, rfl, rfl, hl2, ?_, hr0, by omega, ?_⟩
        · rw [hyl, PySem.sizeLine_eq]
          omega
        · refine ⟨some x, _, c2, rfl, (ins_perm ys x r.toNat).trans ?_, by omega, by omega, upd_same, hb2.ne npl, (ho.trans Oth.put).new nl⟩
          rw [List.take_add_one, hx]
          exact hpm.append_right _
      · rintro σ H3 ⟨y3, ys, c', rfl, hpm, h1, h2, hl, hb, ho⟩
        rw [List.take_length] at hpm
        exact ⟨.ref l, rfl, q H3 l ys c' nl ho hl hpm hb h1 h2⟩
abbrev nNames : List Str := ["_law_box_here", "_law_size", "_law_letters", "_law_found", "_law_k", "_law_name", "_law_j", "_law_sign", "_law_maybe"]
theorem scNames : FnScope nNames ["_law_box_here", "_law_size"] (defScope sNames) := ⟨rfl, rfl, rfl, by decide +kernel, rfl, by decide +kernel, by decide +kernel⟩
theorem ok_names {f fT : Addr} {fd fdT : FuncData} {k : Nat} (F : Fun K "_law_names" "_law_names" sNames f fd) (FT : Fun K "_law_take" "_law_take" sTake fT fdT) (bT : Binds K fdT ["_law_box_here", "_law_bound"] []) (gT : mg "_law_take" = some (.ref fT)) (mR : mg "range" = none) (mS : mg "sorted" = none) :
    FnOk P w K mg base CX0 (k + 2) f fd ["_law_box_here", "_law_size"] (spNames K) := by
  have GT : FnOk P w K mg base CX0 (k + 1) fT fdT ["_law_box_here", "_law_bound"] spTake := ok_take FT
  refine F.ok scNames (fun vs H Q E h => ?_) (fun cdv A outer s H vs Q E hr h => ?_)
  · obtain ⟨p, c, n, rfl, _⟩ := h
    rfl
  · obtain ⟨p, c, n, rfl, hB, hc, hn, q⟩ := h
    have hBnn := hB.nn
    refine ⟨_, pss_cons (ps_asg (pe_tup (pa_cons pe_str (pa_cons (pe_lst pa_nil) pa_nil))) (pg_tup rfl (pgs_cons (pg_name (i := 2) scNames.nd rfl (.inr rfl)) (pgs_cons (pg_name (i := 3) scNames.nd rfl (.inr rfl)) pgs_nil))))
      (pss_cons (ps_for PassesOwn.never rfl (pi_range1 (by rfl) mR (pa_cons (pv 1) pa_nil)) (pg_name (i := 4) scNames.nd rfl (.inl rfl))
        (pss_cons (ps_set (i := 5) scNames.nd rfl (.inr rfl) (pe_join pe_str (pe_lc (own := [("_law_j", 6)]) (g := gName 6) (tt := tYes) rfl scNames.nd
            (pi_range1 (by rfl) mR (pa_cons (pe_ix ix_list (pe_lst (pa_cons pe_int (pa_cons pe_int (pa_cons pe_int pa_nil)))) (pe_call GT hr (by rfl) gT FT.kp bT .nil pass0 (pa_cons (pv 0) (pa_cons pe_int pa_nil))) (fun _ _ => rfl)) pa_nil))
            (blkOk_by (N := nNames) (sc := defScope sNames) (by decide +kernel)) (fun _ _ _ _ _ => pg_name (i := 6) scNames.nd rfl (Or.inl rfl)) (fun _ _ _ _ _ => pts_nil)
            (fun _ _ _ _ _ => pe_ix ix_str (pv 2) (pe_call GT hr (by rfl) gT FT.kp bT .nil pass0 (pa_cons (pv 0) (pa_cons pe_int pa_nil))) (fun _ _ => rfl)))))
        (pss_cons (ps_if (PW.pt (pw_and (pt_cmpR (op_neD hr.units) (pv 3) (pe_lst pa_nil) (nomark _)) (pw_and1 (pt_cmpR op_eq (pe_call GT hr (by rfl) gT FT.kp bT .nil pass0 (pa_cons (pv 0) (pa_cons pe_int pa_nil))) pe_int (nomark _)))))
          (pss_one (ps_set (i := 5) scNames.nd rfl (.inr rfl) (pe_op op_add_str (pe_slice sl_str (pe_ix ix_list (pv 3) pe_int (fun _ _ => rfl)) po_none (po_some pe_int)) (pe_ix ix_str (pv 2) (pe_call GT hr (by rfl) gT FT.kp bT .nil pass0 (pa_cons (pv 0) (pa_cons pe_int pa_nil))) (fun _ _ => rfl))))) pss_nil)
        (pss_one (ps_expr (pe_bm PySem.F.plainAttrs_list PySem.F.slot_list_append PySem.F.type_list_append mt_append (pv 3) (pa_cons (pe_ix ix_list
          (pe_lc (own := [("_law_maybe", 8)]) (g := gName 8) rfl scNames.nd
            (pi_list (pe_op op_cat (pe_lst (pa_cons (pv 5) pa_nil)) (pe_lc (own := [("_law_sign", 7)]) (g := gName 7) (tt := tYes) rfl scNames.nd (pi_str (pv 2))
              (blkOk_by (N := nNames) (sc := defScope sNames) (by decide +kernel)) (fun _ _ _ _ _ => pg_name (i := 7) scNames.nd rfl (Or.inl rfl)) (fun _ _ _ _ _ => pts_nil)
              (fun _ _ _ _ _ => pe_op op_add_str (pe_slice sl_str (pv 5) po_none (po_some pe_int)) (pv 7)))))
            (blkOk_by (N := nNames) (sc := defScope sNames) (by decide +kernel)) (fun _ _ _ _ _ => pg_name (i := 8) scNames.nd rfl (Or.inl rfl)) (fun _ _ _ _ _ => pts_one (pt_cmpR (r := rIn K true) op_notIn_seq (pv 8) (pv 3) (by rfl)))
            (fun _ _ _ _ _ => pv 8)) pe_int (fun _ _ => rfl)) pa_nil)))))))
      (pss_one (ps_ret (pe_callB cr_sortedS (by rfl) mS (by decide +kernel) (pa_cons (pv 3) pa_nil))))), ?_⟩
    refine ⟨Nat.zero_le _, fun l nl => ⟨(by decide : (2 : Nat) ≤ sizeLine), fun t nt => ⟨t, _, rfl, .inl (.inl upd_same), rfl, _, _, rfl, _, _, rfl, rfl, ?_⟩⟩⟩
    have npl : p ≠ l := hB.new nl
    have hlt : l ≠ t := ne_of_none upd_same nt
    have hB0 : Bx (upd (upd H l (.lst [])) t (.tup [.str abc, .ref l])) p c := (hB.ne npl).ne ((hB.ne npl).new nt)
    have hO0 : Oth p H (upd (upd H l (.lst [])) t (.tup [.str abc, .ref l])) := Oth.of ((same_upd nl).trans (same_upd nt))
    refine ⟨.int n, rfl, n, rfl, by omega, by omega, for_range (lo := 0) (n := n) (fun i σ H3 => ∃ (y4 y5 : Option V) (zs : List Str) (c' : Int), σ = [some (.ref p), some (.int n), some (.str abc), some (.ref l), y4, y5, none, none, none] ∧ zs.length = i ∧ zs.Nodup ∧ (∀ z ∈ zs, Nm z) ∧ c ≤ c' ∧ c' ≤ c + 10 * i ∧ H3 l = some (.lst (zs.map V.str)) ∧ Bx H3 p c' ∧ Oth p H H3) ?_ ?_ ?_⟩
    · refine ⟨none, none, [], c, rfl, rfl, List.nodup_nil, by simp, by omega, by omega, ?_, hB0, hO0⟩
      rw [upd_ne hlt, upd_same]
      rfl
    · rintro i σ H3 hi ⟨y4, y5, zs, c', rfl, hzl, hznd, hznm, h1, h2, hl, hb, ho⟩
      refine ⟨⟨_, rfl⟩, (by decide : (3 : Nat) ≤ sizeLine), fun D0 nD0 => ⟨.ref p, rfl, p, 3, c', rfl, hb.ne (hb.new nD0), by omega, by decide, by decide, ?_⟩⟩
      intro r c2 o hr0 hr1 hc0 hc1 hb2
      obtain ⟨j, hj, hj1, hj6⟩ := at3 hr0 hr1
      have npD0 : D0 ≠ p := (hb.new nD0).symm
      refine ⟨D0, _, r, _, rfl, rfl, .inl (.inl (by rw [upd_ne npD0]; exact upd_same)), hj, j, rfl, by omega, by omega, fun D nD => ?_⟩
      have hlA : (upd (upd H3 D0 (.lst [.int 1, .int 6, .int 2])) p o) l = some (.lst (zs.map V.str)) := by
        rw [upd_ne npl.symm, upd_ne (ne_of_none hl nD0)]
        exact hl
      have hoA : Oth p H (upd (upd H3 D0 (.lst [.int 1, .int 6, .int 2])) p o) := (ho.trans (Oth.of (same_upd nD0))).trans Oth.put
      refine lc_range (lo := 0) (n := j) (fun i H4 => ∃ (cs : List Nat) (c4 : Int), cs.length = i ∧ Lt cs ∧ c2 ≤ c4 ∧ c4 ≤ c2 + i ∧ H4 D = some (.lst ((cs.map fun c => (⟨#[c]⟩ : Str)).map V.str)) ∧ Bx H4 p c4 ∧ Oth p (upd (upd H3 D0 (.lst [.int 1, .int 6, .int 2])) p o) H4) ?_ ?_ ?_
      · exact ⟨[], c2, rfl, lt_nil, by omega, by omega, upd_same, hb2.ne (hb2.new nD), Oth.of (same_upd nD)⟩
      · rintro i2 H4 hi2 ⟨cs, c4, hcl, hcL, hc4, hc5, hD, hb4, ho4⟩
        have npD : D ≠ p := (hb2.new nD).symm
        refine ⟨rfl, ?_⟩
        refine ⟨.str abc, rfl, .ref p, rfl, p, 26, c4, rfl, hb4, by omega, by decide, by decide, ?_⟩
        intro r2 c6 o2 hr20 hr21 hc60 hc61 hb6
        obtain ⟨ch, hch, hch1, hch2⟩ := abc_at hr20 hr21
        refine ⟨abc, r2, ch, rfl, rfl, by rw [abc_len]; decide, hch, _, (by rw [upd_ne npD]; exact hD), ?_, ?_⟩
        · rw [List.length_map, List.length_map, hcl, PySem.sizeLine_eq]
          omega
        · refine ⟨cs ++ [ch], c6, by rw [List.length_append, hcl]; rfl, hcL.snoc hch1 hch2, by omega, by omega, ?_, hb6.ne npD.symm, (ho4.trans Oth.put).new nD⟩
          rw [upd_same, List.map_append, List.map_append]
          rfl
      · rintro H4 ⟨cs, c4, hcl, hcL, hc4, hc5, hD, hb4, ho4⟩
        refine ⟨"", D, _, rfl, rfl, .inl (.inl (.inl hD)), ?_, ?_⟩
        · rw [ones_sum, List.length_map, show ("" : Str).length = 0 by decide]
          omega
        · rw [join_one]
          have hl4 : H4 l = some (.lst (zs.map V.str)) := ho4 _ _ hlA npl.symm
          have hoB : Oth p H H4 := hoA.trans ho4
          have hnm0 : Nm ⟨cs.toArray⟩ := ⟨by show 1 ≤ cs.length; omega, by show cs.length ≤ 6; omega, hcL⟩
          generalize (⟨cs.toArray⟩ : Str) = nm at hnm0
          refine ⟨.ref l, rfl, Nat.zero_le _, fun D1 nD1 => ?_⟩
          have sD1 : Same H4 (upd H4 D1 (.lst [])) := same_upd nD1
          have hl5 := sD1 _ _ hl4
          have hb5 : Bx (upd H4 D1 (.lst [])) p c4 := hb4.ne (hb4.new nD1)
          have hoD : Oth p H (upd H4 D1 (.lst [])) := hoB.trans (Oth.of sD1)
          refine ⟨.list (zs.map PyData.str), .list [], .lst (.inl (.inl hl5)) (dp_strs zs), .lst (.inl (.inl upd_same)) .nil, shaped_strs hznm, rfl, _, rfl, ite2 (fun e => ?_) (fun e => ?_)⟩
          · refine ⟨.ref p, rfl, p, 4, c4, rfl, hb5, by omega, by decide, by decide, ?_⟩
            intro r4 c7 o4 hr40 hr41 hc70 hc71 hb7
            have hl6 : (upd (upd H4 D1 (.lst [])) p o4) l = some (.lst (zs.map V.str)) := by
              rw [upd_ne npl.symm]
              exact hl5
            refine ⟨rfl, _, rfl, ite2 (fun e2 => ?_) (fun e2 => ?_)⟩
            · cases zs with
              | nil => exact absurd e (by decide)
              | cons z0 zr =>
                refine ⟨.ref l, rfl, l, _, 0, .str z0, rfl, rfl, .inl (.inl hl6), atI_nat (j := 0) rfl, 5, rfl, z0, rfl, ?_, .str abc, rfl, .ref p, rfl, p, 26, c7, rfl, hb7, by omega, by decide, by decide, ?_⟩
                · rw [str_len, PySem.sizeLine_eq]
                  have := (hznm z0 List.mem_cons_self).2.1
                  omega
                · intro r5 c8 o5 hr50 hr51 hc80 hc81 hb8
                  obtain ⟨ch, hch, hch1, hch2⟩ := abc_at hr50 hr51
                  refine ⟨abc, r5, ch, rfl, rfl, by rw [abc_len]; decide, hch, _, _, rfl, rfl, ?_, ?_⟩
                  · have e6 : (cutS z0 none (some 5)).length ≤ 5 := by
                      rw [cut5, str_len]
                      show (z0.cps.toList.take 5).length ≤ 5
                      rw [List.length_take]
                      omega
                    have e7 : (⟨#[ch]⟩ : Str).length = 1 := rfl
                    rw [e7, PySem.sizeLine_eq]
                    omega
                  · have hnm := cand_nm (hznm z0 List.mem_cons_self) hch1 hch2
                    have hlC : (upd (upd (upd H4 D1 (.lst [])) p o4) p o5) l = some (.lst ((z0 :: zr).map V.str)) := by
                      rw [upd_ne npl.symm]
                      exact hl6
                    have hbC := hb8
                    have hoC : Oth p H (upd (upd (upd H4 D1 (.lst [])) p o4) p o5) := (hoD.trans Oth.put).trans Oth.put
                    show _
                    generalize hcand : cutS z0 none (some 5) ++ (⟨#[ch]⟩ : Str) = nm at *
                    replace hnm : Nm nm := by rw [← hcand]; exact hnm
                    clear hcand
                    generalize (upd (upd (upd H4 D1 (.lst [])) p o4) p o5) = HC at *
                    generalize hcc : c8 = cc at *
                    generalize (z0 :: zr) = zs at *
                    have fl := str_len nm
                    have hnm6 := hnm.2.1
                    refine ⟨.ref l, rfl, .inl ⟨rfl, _, .inl (.inl hlC)⟩, .str nm, rfl, (by decide : (1 : Nat) ≤ sizeLine), fun L1 nL1 => ?_⟩
                    have nlL1 : l ≠ L1 := ne_of_none hlC nL1
                    refine ⟨.str abc, rfl, abc, rfl, fun D2 nD2 => lc_it (walk_str (z := abc)) (fun j H4 => H4 = upd (upd HC L1 (.lst [.str nm])) D2 (.lst (((List.range j).map fun x => cand nm (97 + x)).map V.str))) rfl (fun _ _ _ _ => trivial) ?_ ?_⟩
                    · rintro j x H4 H5 hj rfl ⟨rfl, ch, hch, rfl⟩
                      have hj26 : j < 26 := hj
                      have ech : ch = 97 + j := by
                        have e1 : abc.cps.toList[j]? = some ch := by
                          rw [Array.getElem?_toList]
                          exact hch
                        rw [abc_tl, List.getElem?_map, List.getElem?_range hj26] at e1
                        exact (Option.some.inj e1).symm
                      subst ech
                      refine ⟨rfl, ?_⟩
                      refine ⟨.str nm, rfl, 5, rfl, nm, rfl, by rw [PySem.sizeLine_eq]; omega, .str ⟨#[97 + j]⟩, rfl, _, _, rfl, rfl, ?_, _, upd_same, ?_, ?_⟩
                      · have e5 := congrArg (fun x : Str => x.length) (cut5 nm)
                        have e6 : (cutS nm none (some 5)).length ≤ 5 := by
                          rw [cut5, str_len]
                          show (nm.cps.toList.take 5).length ≤ 5
                          rw [List.length_take]
                          omega
                        have e7 : (⟨#[97 + j]⟩ : Str).length = 1 := rfl
                        rw [e7, PySem.sizeLine_eq]
                        omega
                      · rw [List.length_map, List.length_map, List.length_range, PySem.sizeLine_eq]
                        omega
                      · rw [upd_upd, List.range_succ, List.map_append, List.map_append]
                        rfl
                    · rintro H4 rfl
                      have hL1 : (upd (upd HC L1 (.lst [.str nm])) D2 (.lst (((List.range abc.cps.size).map fun x => cand nm (97 + x)).map V.str))) L1 = some (.lst [.str nm]) := by
                        rw [upd_ne (ne_of_none upd_same nD2), upd_same]
                      refine ⟨L1, D2, _, _, rfl, rfl, hL1, upd_same, sz27 nm, fun L3 nL3 => ?_⟩
                      have hlE : (upd (upd (upd HC L1 (.lst [.str nm])) D2 (.lst (((List.range abc.cps.size).map fun x => cand nm (97 + x)).map V.str))) L3 (.lst ((cands nm).map V.str))) l = some (.lst (zs.map V.str)) := by
                        have hl1 : (upd HC L1 (.lst [.str nm])) l = some (.lst (zs.map V.str)) := by
                          rw [upd_ne nlL1]
                          exact hlC
                        have hl2 : (upd (upd HC L1 (.lst [.str nm])) D2 (.lst (((List.range abc.cps.size).map fun x => cand nm (97 + x)).map V.str))) l = some (.lst (zs.map V.str)) := by
                          rw [upd_ne (ne_of_none hl1 nD2)]
                          exact hl1
                        rw [upd_ne (ne_of_none hl2 nL3)]
                        exact hl2
                      have sE : Same HC (upd (upd (upd HC L1 (.lst [.str nm])) D2 (.lst (((List.range abc.cps.size).map fun x => cand nm (97 + x)).map V.str))) L3 (.lst ((cands nm).map V.str))) := ((same_upd nL1).trans (same_upd nD2)).trans (same_upd nL3)
                      have hL3 : (upd (upd (upd HC L1 (.lst [.str nm])) D2 (.lst (((List.range abc.cps.size).map fun x => cand nm (97 + x)).map V.str))) L3 (.lst ((cands nm).map V.str))) L3 = some (.lst ((cands nm).map V.str)) := upd_same
                      generalize hHE : (upd (upd (upd HC L1 (.lst [.str nm])) D2 (.lst (((List.range abc.cps.size).map fun x => cand nm (97 + x)).map V.str))) L3 (.lst ((cands nm).map V.str))) = HE at hlE sE hL3
                      refine ⟨L3, rfl, ⟨(cands nm).map V.str, .inl (.inl upd_same)⟩, fun D4 nD4 => ?_⟩
                      have eHE : (upd (upd (upd HC L1 (.lst [.str nm])) D2 (.lst (((List.range abc.cps.size).map fun x => cand nm (97 + x)).map V.str))) L3 (.lst ([V.str nm] ++ (((List.range abc.cps.size).map fun x => cand nm (97 + x)).map V.str)))) = HE := hHE
                      rw [eHE] at nD4
                      rw [eHE]
                      refine lc_list (xs := (cands nm).map V.str) (fun j H4 => H4 = upd HE D4 (.lst ((((cands nm).take j).filter (fun y => decide (y ∉ zs))).map V.str))) rfl ?_ ?_ ?_
                      · rintro j H4 hj rfl
                        refine .inl (.inl ?_)
                        rw [upd_ne (ne_of_none hL3 nD4)]
                        exact hL3
                      · rintro j x H4 hx rfl
                        rw [List.getElem?_map] at hx
                        obtain ⟨y, hy, rfl⟩ := Option.map_eq_some_iff.mp hx
                        have hl4 : (upd HE D4 (.lst ((((cands nm).take j).filter (fun y => decide (y ∉ zs))).map V.str))) l = some (.lst (zs.map V.str)) := by
                          rw [upd_ne (ne_of_none hlE nD4)]
                          exact hlE
                        refine ⟨rfl, .str y, rfl, .ref l, rfl, l, _, rfl, .inl (.inl (.inl hl4)), rfl, strs_all, _, rfl, ?_⟩
                        have eT : (if true = true then !inV (.str y) (zs.map V.str) else inV (.str y) (zs.map V.str)) = decide (y ∉ zs) := by
                          rw [if_pos rfl, inV_strs]
                          simp
                        rw [eT]
                        refine ite2 (fun e => ?_) (fun e => ?_)
                        · refine ⟨.str y, rfl, _, upd_same, ?_, ?_⟩
                          · rw [List.length_map, PySem.sizeLine_eq]
                            have h1 := List.length_filter_le (fun y => decide (y ∉ zs)) ((cands nm).take j)
                            have h2 : ((cands nm).take j).length ≤ (cands nm).length := List.length_take_le' _ _
                            have h3 : (cands nm).length = 27 := by simp [cands]
                            omega
                          · rw [upd_upd, List.take_add_one, hy, List.filter_append]
                            show _ = upd HE D4 (.lst ((_ ++ [y].filter _).map V.str))
                            rw [show [y].filter (fun y => decide (y ∉ zs)) = [y] from List.filter_cons_of_pos (p := fun y => decide (y ∉ zs)) e, List.map_append]
                            rfl
                        · rw [List.take_add_one, hy, List.filter_append]
                          show _ = upd HE D4 (.lst ((_ ++ [y].filter _).map V.str))
                          rw [show [y].filter (fun y => decide (y ∉ zs)) = [] from List.filter_cons_of_neg (p := fun y => decide (y ∉ zs)) e, List.append_nil]
                      · rintro H4 rfl
                        obtain ⟨y, r, hyr, hyc, hyz⟩ := cands_free nm zs (by omega)
                        rw [List.length_map, List.take_length, hyr]
                        have hl4 : (upd HE D4 (.lst ((y :: r).map V.str))) l = some (.lst (zs.map V.str)) := by
                          rw [upd_ne (ne_of_none hlE nD4)]
                          exact hlE
                        refine ⟨D4, _, 0, .str y, rfl, rfl, .inl (.inl upd_same), atI_nat (j := 0) rfl, l, _, _, rfl, rfl, hl4, ?_, ?_⟩
                        · rw [List.length_map, PySem.sizeLine_eq]
                          omega
                        · have s4 : Same HC (upd HE D4 (.lst ((y :: r).map V.str))) := sE.trans (same_upd nD4)
                          have hb4 : Bx (upd HE D4 (.lst ((y :: r).map V.str))) p cc := by
                            obtain ⟨x1, x2, e1, e2⟩ := hbC
                            exact ⟨x1, x2, s4 _ _ e1, e2⟩
                          refine ⟨_, _, zs ++ [y], cc, rfl, by rw [List.length_append, hzl]; rfl, ?_, ?_, by omega, by omega, ?_, hb4.ne npl, (hoC.trans (Oth.of s4)).new nl⟩
                          · refine List.nodup_append.mpr ⟨hznd, by simp, ?_⟩
                            intro a ha b hb e
                            rw [List.mem_singleton] at hb
                            subst hb
                            subst e
                            exact hyz ha
                          · intro z hz
                            rcases List.mem_append.mp hz with h | h
                            · exact hznm z h
                            · rw [List.mem_singleton.mp h]
                              exact cands_nm hnm hyc
                          · rw [upd_same, List.map_append]
                            rfl
            · have hnm := hnm0
              have hlC := hl6
              have hbC := hb7
              have hoC : Oth p H (upd (upd H4 D1 (.lst [])) p o4) := hoD.trans Oth.put
              generalize (upd (upd H4 D1 (.lst [])) p o4) = HC at *
              generalize hcc : c7 = cc at *
              have fl := str_len nm
              have hnm6 := hnm.2.1
              refine ⟨.ref l, rfl, .inl ⟨rfl, _, .inl (.inl hlC)⟩, .str nm, rfl, (by decide : (1 : Nat) ≤ sizeLine), fun L1 nL1 => ?_⟩
              have nlL1 : l ≠ L1 := ne_of_none hlC nL1
              refine ⟨.str abc, rfl, abc, rfl, fun D2 nD2 => lc_it (walk_str (z := abc)) (fun j H4 => H4 = upd (upd HC L1 (.lst [.str nm])) D2 (.lst (((List.range j).map fun x => cand nm (97 + x)).map V.str))) rfl (fun _ _ _ _ => trivial) ?_ ?_⟩
              · rintro j x H4 H5 hj rfl ⟨rfl, ch, hch, rfl⟩
                have hj26 : j < 26 := hj
                have ech : ch = 97 + j := by
                  have e1 : abc.cps.toList[j]? = some ch := by
                    rw [Array.getElem?_toList]
                    exact hch
                  rw [abc_tl, List.getElem?_map, List.getElem?_range hj26] at e1
                  exact (Option.some.inj e1).symm
                subst ech
                refine ⟨rfl, ?_⟩
                refine ⟨.str nm, rfl, 5, rfl, nm, rfl, by rw [PySem.sizeLine_eq]; omega, .str ⟨#[97 + j]⟩, rfl, _, _, rfl, rfl, ?_, _, upd_same, ?_, ?_⟩
                · have e5 := congrArg (fun x : Str => x.length) (cut5 nm)
                  have e6 : (cutS nm none (some 5)).length ≤ 5 := by
                    rw [cut5, str_len]
                    show (nm.cps.toList.take 5).length ≤ 5
                    rw [List.length_take]
                    omega
                  have e7 : (⟨#[97 + j]⟩ : Str).length = 1 := rfl
                  rw [e7, PySem.sizeLine_eq]
                  omega
                · rw [List.length_map, List.length_map, List.length_range, PySem.sizeLine_eq]
                  omega
                · rw [upd_upd, List.range_succ, List.map_append, List.map_append]
                  rfl
              · rintro H4 rfl
                have hL1 : (upd (upd HC L1 (.lst [.str nm])) D2 (.lst (((List.range abc.cps.size).map fun x => cand nm (97 + x)).map V.str))) L1 = some (.lst [.str nm]) := by
                  rw [upd_ne (ne_of_none upd_same nD2), upd_same]
                refine ⟨L1, D2, _, _, rfl, rfl, hL1, upd_same, sz27 nm, fun L3 nL3 => ?_⟩
                have hlE : (upd (upd (upd HC L1 (.lst [.str nm])) D2 (.lst (((List.range abc.cps.size).map fun x => cand nm (97 + x)).map V.str))) L3 (.lst ((cands nm).map V.str))) l = some (.lst (zs.map V.str)) := by
                  have hl1 : (upd HC L1 (.lst [.str nm])) l = some (.lst (zs.map V.str)) := by
                    rw [upd_ne nlL1]
                    exact hlC
                  have hl2 : (upd (upd HC L1 (.lst [.str nm])) D2 (.lst (((List.range abc.cps.size).map fun x => cand nm (97 + x)).map V.str))) l = some (.lst (zs.map V.str)) := by
                    rw [upd_ne (ne_of_none hl1 nD2)]
                    exact hl1
                  rw [upd_ne (ne_of_none hl2 nL3)]
                  exact hl2
                have sE : Same HC (upd (upd (upd HC L1 (.lst [.str nm])) D2 (.lst (((List.range abc.cps.size).map fun x => cand nm (97 + x)).map V.str))) L3 (.lst ((cands nm).map V.str))) := ((same_upd nL1).trans (same_upd nD2)).trans (same_upd nL3)
                have hL3 : (upd (upd (upd HC L1 (.lst [.str nm])) D2 (.lst (((List.range abc.cps.size).map fun x => cand nm (97 + x)).map V.str))) L3 (.lst ((cands nm).map V.str))) L3 = some (.lst ((cands nm).map V.str)) := upd_same
                generalize hHE : (upd (upd (upd HC L1 (.lst [.str nm])) D2 (.lst (((List.range abc.cps.size).map fun x => cand nm (97 + x)).map V.str))) L3 (.lst ((cands nm).map V.str))) = HE at hlE sE hL3
                refine ⟨L3, rfl, ⟨(cands nm).map V.str, .inl (.inl upd_same)⟩, fun D4 nD4 => ?_⟩
                have eHE : (upd (upd (upd HC L1 (.lst [.str nm])) D2 (.lst (((List.range abc.cps.size).map fun x => cand nm (97 + x)).map V.str))) L3 (.lst ([V.str nm] ++ (((List.range abc.cps.size).map fun x => cand nm (97 + x)).map V.str)))) = HE := hHE
                rw [eHE] at nD4
                rw [eHE]
                refine lc_list (xs := (cands nm).map V.str) (fun j H4 => H4 = upd HE D4 (.lst ((((cands nm).take j).filter (fun y => decide (y ∉ zs))).map V.str))) rfl ?_ ?_ ?_
                · rintro j H4 hj rfl
                  refine .inl (.inl ?_)
                  rw [upd_ne (ne_of_none hL3 nD4)]
                  exact hL3
                · rintro j x H4 hx rfl
                  rw [List.getElem?_map] at hx
                  obtain ⟨y, hy, rfl⟩ := Option.map_eq_some_iff.mp hx
                  have hl4 : (upd HE D4 (.lst ((((cands nm).take j).filter (fun y => decide (y ∉ zs))).map V.str))) l = some (.lst (zs.map V.str)) := by
                    rw [upd_ne (ne_of_none hlE nD4)]
                    exact hlE
                  refine ⟨rfl, .str y, rfl, .ref l, rfl, l, _, rfl, .inl (.inl (.inl hl4)), rfl, strs_all, _, rfl, ?_⟩
                  have eT : (if true = true then !inV (.str y) (zs.map V.str) else inV (.str y) (zs.map V.str)) = decide (y ∉ zs) := by
                    rw [if_pos rfl, inV_strs]
                    simp
                  rw [eT]
                  refine ite2 (fun e => ?_) (fun e => ?_)
                  · refine ⟨.str y, rfl, _, upd_same, ?_, ?_⟩
                    · rw [List.length_map, PySem.sizeLine_eq]
                      have h1 := List.length_filter_le (fun y => decide (y ∉ zs)) ((cands nm).take j)
                      have h2 : ((cands nm).take j).length ≤ (cands nm).length := List.length_take_le' _ _
                      have h3 : (cands nm).length = 27 := by simp [cands]
                      omega
                    · rw [upd_upd, List.take_add_one, hy, List.filter_append]
                      show _ = upd HE D4 (.lst ((_ ++ [y].filter _).map V.str))
                      rw [show [y].filter (fun y => decide (y ∉ zs)) = [y] from List.filter_cons_of_pos (p := fun y => decide (y ∉ zs)) e, List.map_append]
                      rfl
                  · rw [List.take_add_one, hy, List.filter_append]
                    show _ = upd HE D4 (.lst ((_ ++ [y].filter _).map V.str))
                    rw [show [y].filter (fun y => decide (y ∉ zs)) = [] from List.filter_cons_of_neg (p := fun y => decide (y ∉ zs)) e, List.append_nil]
                · rintro H4 rfl
                  obtain ⟨y, r, hyr, hyc, hyz⟩ := cands_free nm zs (by omega)
                  rw [List.length_map, List.take_length, hyr]
                  have hl4 : (upd HE D4 (.lst ((y :: r).map V.str))) l = some (.lst (zs.map V.str)) := by
                    rw [upd_ne (ne_of_none hlE nD4)]
                    exact hlE
                  refine ⟨D4, _, 0, .str y, rfl, rfl, .inl (.inl upd_same), atI_nat (j := 0) rfl, l, _, _, rfl, rfl, hl4, ?_, ?_⟩
                  · rw [List.length_map, PySem.sizeLine_eq]
                    omega
                  · have s4 : Same HC (upd HE D4 (.lst ((y :: r).map V.str))) := sE.trans (same_upd nD4)
                    have hb4 : Bx (upd HE D4 (.lst ((y :: r).map V.str))) p cc := by
                      obtain ⟨x1, x2, e1, e2⟩ := hbC
                      exact ⟨x1, x2, s4 _ _ e1, e2⟩
                    refine ⟨_, _, zs ++ [y], cc, rfl, by rw [List.length_append, hzl]; rfl, ?_, ?_, by omega, by omega, ?_, hb4.ne npl, (hoC.trans (Oth.of s4)).new nl⟩
                    · refine List.nodup_append.mpr ⟨hznd, by simp, ?_⟩
                      intro a ha b hb e
                      rw [List.mem_singleton] at hb
                      subst hb
                      subst e
                      exact hyz ha
                    · intro z hz
                      rcases List.mem_append.mp hz with h | h
                      · exact hznm z h
                      · rw [List.mem_singleton.mp h]
                        exact cands_nm hnm hyc
                    · rw [upd_same, List.map_append]
                      rfl
          · refine iteF ?_
            have hnm := hnm0
            have hlC := hl5
            have hbC := hb5
            have hoC := hoD
            generalize (upd H4 D1 (.lst [])) = HC at *
            generalize hcc : c4 = cc at *
            have fl := str_len nm
            have hnm6 := hnm.2.1
            refine ⟨.ref l, rfl, .inl ⟨rfl, _, .inl (.inl hlC)⟩, .str nm, rfl, (by decide : (1 : Nat) ≤ sizeLine), fun L1 nL1 => ?_⟩
            have nlL1 : l ≠ L1 := ne_of_none hlC nL1
            refine ⟨.str abc, rfl, abc, rfl, fun D2 nD2 => lc_it (walk_str (z := abc)) (fun j H4 => H4 = upd (upd HC L1 (.lst [.str nm])) D2 (.lst (((List.range j).map fun x => cand nm (97 + x)).map V.str))) rfl (fun _ _ _ _ => trivial) ?_ ?_⟩
            · rintro j x H4 H5 hj rfl ⟨rfl, ch, hch, rfl⟩
              have hj26 : j < 26 := hj
              have ech : ch = 97 + j := by
                have e1 : abc.cps.toList[j]? = some ch := by
                  rw [Array.getElem?_toList]
                  exact hch
                rw [abc_tl, List.getElem?_map, List.getElem?_range hj26] at e1
                exact (Option.some.inj e1).symm
              subst ech
              refine ⟨rfl, ?_⟩
              refine ⟨.str nm, rfl, 5, rfl, nm, rfl, by rw [PySem.sizeLine_eq]; omega, .str ⟨#[97 + j]⟩, rfl, _, _, rfl, rfl, ?_, _, upd_same, ?_, ?_⟩
              · have e5 := congrArg (fun x : Str => x.length) (cut5 nm)
                have e6 : (cutS nm none (some 5)).length ≤ 5 := by
                  rw [cut5, str_len]
                  show (nm.cps.toList.take 5).length ≤ 5
                  rw [List.length_take]
                  omega
                have e7 : (⟨#[97 + j]⟩ : Str).length = 1 := rfl
                rw [e7, PySem.sizeLine_eq]
                omega
              · rw [List.length_map, List.length_map, List.length_range, PySem.sizeLine_eq]
                omega
              · rw [upd_upd, List.range_succ, List.map_append, List.map_append]
                rfl
            · rintro H4 rfl
              have hL1 : (upd (upd HC L1 (.lst [.str nm])) D2 (.lst (((List.range abc.cps.size).map fun x => cand nm (97 + x)).map V.str))) L1 = some (.lst [.str nm]) := by
                rw [upd_ne (ne_of_none upd_same nD2), upd_same]
              refine ⟨L1, D2, _, _, rfl, rfl, hL1, upd_same, sz27 nm, fun L3 nL3 => ?_⟩
              have hlE : (upd (upd (upd HC L1 (.lst [.str nm])) D2 (.lst (((List.range abc.cps.size).map fun x => cand nm (97 + x)).map V.str))) L3 (.lst ((cands nm).map V.str))) l = some (.lst (zs.map V.str)) := by
                have hl1 : (upd HC L1 (.lst [.str nm])) l = some (.lst (zs.map V.str)) := by
                  rw [upd_ne nlL1]
                  exact hlC
                have hl2 : (upd (upd HC L1 (.lst [.str nm])) D2 (.lst (((List.range abc.cps.size).map fun x => cand nm (97 + x)).map V.str))) l = some (.lst (zs.map V.str)) := by
                  rw [upd_ne (ne_of_none hl1 nD2)]
                  exact hl1
                rw [upd_ne (ne_of_none hl2 nL3)]
                exact hl2
              have sE : Same HC (upd (upd (upd HC L1 (.lst [.str nm])) D2 (.lst (((List.range abc.cps.size).map fun x => cand nm (97 + x)).map V.str))) L3 (.lst ((cands nm).map V.str))) := ((same_upd nL1).trans (same_upd nD2)).trans (same_upd nL3)
              have hL3 : (upd (upd (upd HC L1 (.lst [.str nm])) D2 (.lst (((List.range abc.cps.size).map fun x => cand nm (97 + x)).map V.str))) L3 (.lst ((cands nm).map V.str))) L3 = some (.lst ((cands nm).map V.str)) := upd_same
              generalize hHE : (upd (upd (upd HC L1 (.lst [.str nm])) D2 (.lst (((List.range abc.cps.size).map fun x => cand nm (97 + x)).map V.str))) L3 (.lst ((cands nm).map V.str))) = HE at hlE sE hL3
              refine ⟨L3, rfl, ⟨(cands nm).map V.str, .inl (.inl upd_same)⟩, fun D4 nD4 => ?_⟩
              have eHE : (upd (upd (upd HC L1 (.lst [.str nm])) D2 (.lst (((List.range abc.cps.size).map fun x => cand nm (97 + x)).map V.str))) L3 (.lst ([V.str nm] ++ (((List.range abc.cps.size).map fun x => cand nm (97 + x)).map V.str)))) = HE := hHE
              rw [eHE] at nD4
              rw [eHE]
              refine lc_list (xs := (cands nm).map V.str) (fun j H4 => H4 = upd HE D4 (.lst ((((cands nm).take j).filter (fun y => decide (y ∉ zs))).map V.str))) rfl ?_ ?_ ?_
              · rintro j H4 hj rfl
                refine .inl (.inl ?_)
                rw [upd_ne (ne_of_none hL3 nD4)]
                exact hL3
              · rintro j x H4 hx rfl
                rw [List.getElem?_map] at hx
                obtain ⟨y, hy, rfl⟩ := Option.map_eq_some_iff.mp hx
                have hl4 : (upd HE D4 (.lst ((((cands nm).take j).filter (fun y => decide (y ∉ zs))).map V.str))) l = some (.lst (zs.map V.str)) := by
                  rw [upd_ne (ne_of_none hlE nD4)]
                  exact hlE
                refine ⟨rfl, .str y, rfl, .ref l, rfl, l, _, rfl, .inl (.inl (.inl hl4)), rfl, strs_all, _, rfl, ?_⟩
                have eT : (if true = true then !inV (.str y) (zs.map V.str) else inV (.str y) (zs.map V.str)) = decide (y ∉ zs) := by
                  rw [if_pos rfl, inV_strs]
                  simp
                rw [eT]
                refine ite2 (fun e => ?_) (fun e => ?_)
                · refine ⟨.str y, rfl, _, upd_same, ?_, ?_⟩
                  · rw [List.length_map, PySem.sizeLine_eq]
                    have h1 := List.length_filter_le (fun y => decide (y ∉ zs)) ((cands nm).take j)
                    have h2 : ((cands nm).take j).length ≤ (cands nm).length := List.length_take_le' _ _
                    have h3 : (cands nm).length = 27 := by simp [cands]
                    omega
                  · rw [upd_upd, List.take_add_one, hy, List.filter_append]
                    show _ = upd HE D4 (.lst ((_ ++ [y].filter _).map V.str))
                    rw [show [y].filter (fun y => decide (y ∉ zs)) = [y] from List.filter_cons_of_pos (p := fun y => decide (y ∉ zs)) e, List.map_append]
                    rfl
                · rw [List.take_add_one, hy, List.filter_append]
                  show _ = upd HE D4 (.lst ((_ ++ [y].filter _).map V.str))
                  rw [show [y].filter (fun y => decide (y ∉ zs)) = [] from List.filter_cons_of_neg (p := fun y => decide (y ∉ zs)) e, List.append_nil]
              · rintro H4 rfl
                obtain ⟨y, r, hyr, hyc, hyz⟩ := cands_free nm zs (by omega)
                rw [List.length_map, List.take_length, hyr]
                have hl4 : (upd HE D4 (.lst ((y :: r).map V.str))) l = some (.lst (zs.map V.str)) := by
                  rw [upd_ne (ne_of_none hlE nD4)]
                  exact hlE
                refine ⟨D4, _, 0, .str y, rfl, rfl, .inl (.inl upd_same), atI_nat (j := 0) rfl, l, _, _, rfl, rfl, hl4, ?_, ?_⟩
                · rw [List.length_map, PySem.sizeLine_eq]
                  omega
                · have s4 : Same HC (upd HE D4 (.lst ((y :: r).map V.str))) := sE.trans (same_upd nD4)
                  have hb4 : Bx (upd HE D4 (.lst ((y :: r).map V.str))) p cc := by
                    obtain ⟨x1, x2, e1, e2⟩ := hbC
                    exact ⟨x1, x2, s4 _ _ e1, e2⟩
                  refine ⟨_, _, zs ++ [y], cc, rfl, by rw [List.length_append, hzl]; rfl, ?_, ?_, by omega, by omega, ?_, hb4.ne npl, (hoC.trans (Oth.of s4)).new nl⟩
                  · refine List.nodup_append.mpr ⟨hznd, by simp, ?_⟩
                    intro a ha b hb e
                    rw [List.mem_singleton] at hb
                    subst hb
                    subst e
                    exact hyz ha
                  · intro z hz
                    rcases List.mem_append.mp hz with h | h
                    · exact hznm z h
                    · rw [List.mem_singleton.mp h]
                      exact cands_nm hnm hyc
                  · rw [upd_same, List.map_append]
                    rfl
    · rintro σ H3 ⟨y4, y5, zs, c', rfl, hzl, hznd, hznm, h1, h2, hl, hb, ho⟩
      refine ⟨.ref l, rfl, l, zs, rfl, .inl (.inl hl), by omega, fun ys l2 hperm hsrt nl2 => ?_⟩
      exact q _ l2 ys c' (ho.none hb nl2) (ho.trans (Oth.of (same_upd nl2))) upd_same (hperm.length_eq.trans hzl) (hperm.nodup_iff.mpr hznd) (fun z hz => hznm z (hperm.mem_iff.mp hz)) hsrt (hb.ne (hb.new nl2)) h1 h2
theorem scHeap : FnScope ["_law_box_here", "_law_least", "_law_most"] ["_law_box_here", "_law_least", "_law_most"] (defScope sHeap) := ⟨rfl, rfl, rfl, by decide +kernel, rfl, by decide +kernel, by decide +kernel⟩
theorem ok_heap {f fT fS fN : Addr} {fd fdT fdS fdN : FuncData} {k : Nat} (F : Fun K "_law_heap" "_law_heap" sHeap f fd) (FT : Fun K "_law_take" "_law_take" sTake fT fdT) (FS : Fun K "_law_strewn" "_law_strewn" sStrewn fS fdS) (FN : Fun K "_law_names" "_law_names" sNames fN fdN)
    (bT : Binds K fdT ["_law_box_here", "_law_bound"] []) (bS : Binds K fdS ["_law_box_here", "_law_some"] []) (bN : Binds K fdN ["_law_box_here", "_law_size"] []) (gT : mg "_law_take" = some (.ref fT)) (gS : mg "_law_strewn" = some (.ref fS)) (gN : mg "_law_names" = some (.ref fN))
    (mR : mg "range" = none) (mS : mg "sorted" = none) (ml : mg "len" = none) (mt : mg "tuple" = none) :
    FnOk P w K mg base CX0 (k + 3) f fd ["_law_box_here", "_law_least", "_law_most"] spHeap := by
  have GT : FnOk P w K mg base CX0 (k + 1) fT fdT ["_law_box_here", "_law_bound"] spTake := ok_take FT
  have GS : FnOk P w K mg base CX0 (k + 2) fS fdS ["_law_box_here", "_law_some"] (spStrewn K) := ok_strewn FS FT bT gT ml
  have GN : FnOk P w K mg base CX0 (k + 2) fN fdN ["_law_box_here", "_law_size"] (spNames K) := ok_names FN FT bT gT mR mS
  refine F.ok scHeap (fun vs H Q E h => ?_) (fun cdv A outer s H vs Q E hr h => ?_)
  · obtain ⟨p, c, m, n, rfl, _⟩ := h
    rfl
  · obtain ⟨p, c, m, n, rfl, hB, hc, hmn, hn, q⟩ := h
    have hBnn := hB.nn
    refine ⟨_, pss_one (ps_ret (pe_callTy call_tupleF (by rfl) mt (by decide +kernel) (pa_cons (pe_call GS hr (by rfl) gS FS.kp bS .nil pass0 (pa_cons (pv 0) (pa_cons
      (pe_call GN hr (by rfl) gN FN.kp bN .nil pass0 (pa_cons (pv 0) (pa_cons (pe_op op_add (pv 1) (pe_call GT (hr.mono (by omega)) (by rfl) gT FT.kp bT .nil pass0 (pa_cons (pv 0) (pa_cons (pe_op op_add (pe_op op_sub (pv 2) (pv 1)) pe_int) pa_nil)))) pa_nil))) pa_nil))) pa_nil))), ?_⟩
    refine ⟨.ref p, rfl, .ref p, rfl, .int m, rfl, .ref p, rfl, .int n, rfl, .int m, rfl, n, m, rfl, rfl, _, 1, rfl, rfl, p, (n : Int) - m + 1, c, rfl, hB, by omega, by omega, by omega, ?_⟩
    intro r c1 o hr0 hr1 hc0 hc1 hb1
    obtain ⟨rn, rfl⟩ := Int.eq_ofNat_of_zero_le hr0
    refine ⟨m, rn, rfl, rfl, p, c1, m + rn, rfl, hb1, by omega, by omega, ?_⟩
    intro H2 l zs c2 nl ho2 hl hzl hznd hznm _ hb2 hc2 hc3
    have nlp : l ≠ p := by
      rintro rfl
      rw [upd_same] at nl
      cases nl
    refine ⟨p, l, c2, _, rfl, hb2, by omega, nlp, .inl (.inl (.inl hl)), by rw [List.length_map]; omega, ?_⟩
    intro H3 l2 ys c3 nl2 ho3 hl2 hpm hb3 hc4 hc5
    obtain ⟨xs, rfl, hxs⟩ := perm_strs hpm
    refine ⟨l2, _, rfl, .inl (.inl hl2), fun t ob nt h1 h2 => ?_⟩
    rw [List.length_map] at hc5
    have hxl := hxs.length_eq
    have hoA : Oth p H H3 := (Oth.put.trans ho2).trans ho3
    exact q _ t xs c3 (hoA.none hb3 nt) (hoA.trans (Oth.of (same_upd nt))) ⟨ob, upd_same, h1, h2⟩ (by omega) (by omega) (hxs.nodup_iff.mpr hznd) (fun z hz => hznm z (hxs.mem_iff.mp hz)) (hb3.ne (hb3.new nt)) (by omega) (by omega)
abbrev nSame : List Str := ["_law_found", "_law_due", "_law_mine", "_law_its"]
theorem scSame : FnScope nSame ["_law_found", "_law_due"] (defScope sSame) := ⟨rfl, rfl, rfl, by decide +kernel, rfl, by decide +kernel, by decide +kernel⟩
theorem same_scal {f : Addr} {fd : FuncData} {k : Nat} (F : Fun K "_law_same" "_law_same" sSame f fd) (mI : mg "isinstance" = none) (mL : mg "list" = none) (mT : mg "tuple" = none) (mB : mg "bool" = none) (mS : mg "str" = none) (mN : mg "int" = none)
    {cdv : Value} {A : Around} {outer : List Env} {s : Shared} {H : Hp} {Q : VK} {E : XK} (hr : Room k (A.deeper (envOfC "_law_same" (defScope sSame) s.heap.objs.size f cdv))) {x y : V} {d : PyData} (hx : Dp K H x d) (hy : Dp K H y d) (hc : d.canLay0 = true) (h0 : d.depth = 0) (q : ∀ H' : Hp, Same H H' → Q (.bl true) H') :
    ∃ t, PSs (cxOf CX0 P w K mg base nSame "_law_same" (defScope sSame) f cdv A outer s H E).nox (defBody sSame) t ∧ t { nx := fun _ H' => Q .non H', rt := Q } (start nSame [x, y]) H := by
  have hsh : SeqAt.shaped d = true := by
    show (d.canLay0 && decide (d.depth ≤ 64)) = true
    rw [hc, h0]
    rfl
  have hx2 := hx
  have hy2 := hy
  cases hx with
  | non =>
    cases hy
    refine ⟨_, pss_cons (ps_if (pt_val (pe_callB call_isiT (by rfl) mI (by decide +kernel) (pa_cons (pv 1) (pa_cons (pe_tup (pa_cons (pe_bltn (v := .ty "list") (by rfl) mL (by decide +kernel) rfl) (pa_cons (pe_bltn (v := .ty "tuple") (by rfl) mT (by decide +kernel) rfl) pa_nil))) pa_nil)))) pss_never pss_nil)
        (pss_cons (ps_if (PW.pt (pw_or (pt_cmpR op_isN (pv 1) pe_non (nomark _)) (pw_or1 (pt_val (pe_callB call_isiT (by rfl) mI (by decide +kernel) (pa_cons (pv 1) (pa_cons (pe_tup (pa_cons (pe_bltn (v := .ty "bool") (by rfl) mB (by decide +kernel) rfl) (pa_cons (pe_bltn (v := .ty "str") (by rfl) mS (by decide +kernel) rfl) pa_nil))) pa_nil)))))))
          (pss_one (ps_ret (pe_and (pe_cmpR (op_eqD hr.units) (pv 0) (pv 1) (nomark _)) (pe_and (pe_cmpR op_eq (pe_callB call_isi (by rfl) mI (by decide +kernel) (pa_cons (pv 0) (pa_cons (pe_bltn (v := .ty "bool") (by rfl) mB (by decide +kernel) rfl) pa_nil))) (pe_callB call_isi (by rfl) mI (by decide +kernel) (pa_cons (pv 1) (pa_cons (pe_bltn (v := .ty "bool") (by rfl) mB (by decide +kernel) rfl) pa_nil))) (nomark _)) (pe_one (pe_cmpR op_eq (pe_cmp (pc_isN (pv 0)) rfl) (pe_cmp (pc_isN (pv 1)) rfl) (nomark _))))))) pss_nil)
        (pss_one (ps_ret (pe_and (pe_callB call_isi (by rfl) mI (by decide +kernel) (pa_cons (pv 0) (pa_cons (pe_bltn (v := .ty "int") (by rfl) mN (by decide +kernel) rfl) pa_nil))) (pe_and (pe_not (pe_callB call_isi (by rfl) mI (by decide +kernel) (pa_cons (pv 0) (pa_cons (pe_bltn (v := .ty "bool") (by rfl) mB (by decide +kernel) rfl) pa_nil)))) (pe_one (pe_cmpR (op_eqD hr.units) (pv 0) (pv 1) (nomark _)))))))), ?_⟩
    refine ⟨_, rfl, (by decide : (2 : Nat) ≤ sizeLine), fun T nT => ⟨_, T, _, _, _, _, rfl, upd_same, two_cls, (.base .non), any2 (r1 := false) (r2 := false) (by decide +kernel) (by decide +kernel), _, rfl, iteF ?_⟩⟩
    have s1 : Same H (upd H T (.tup [V.ty "list", V.ty "tuple"])) := same_upd nT
    generalize (upd H T (.tup [V.ty "list", V.ty "tuple"])) = H1 at *
    refine ⟨_, rfl, rfl, _, rfl, iteT (iteT ?_)⟩
    have s2 := s1
    exact ⟨_, rfl, _, rfl, _, _, Dp.up s2 hx2, Dp.up s2 hy2, hsh, hsh, _, rfl, (by rw [SeqAt.eqv_refl _ hc]; refine iteT ?_; exact ⟨_, rfl, _, _, _, _, false, rfl, .ty _, (.base .non), kit_ty (by decide +kernel), _, rfl, _, _, _, _, false, rfl, .ty _, (.base .non), kit_ty (by decide +kernel), rfl, _, rfl, iteT ⟨_, rfl, _, rfl, rfl, q _ s2⟩⟩)⟩
  | bl b =>
    cases hy
    refine ⟨_, pss_cons (ps_if (pt_val (pe_callB call_isiT (by rfl) mI (by decide +kernel) (pa_cons (pv 1) (pa_cons (pe_tup (pa_cons (pe_bltn (v := .ty "list") (by rfl) mL (by decide +kernel) rfl) (pa_cons (pe_bltn (v := .ty "tuple") (by rfl) mT (by decide +kernel) rfl) pa_nil))) pa_nil)))) pss_never pss_nil)
        (pss_cons (ps_if (PW.pt (pw_or (pt_cmpR op_isN (pv 1) pe_non (nomark _)) (pw_or1 (pt_val (pe_callB call_isiT (by rfl) mI (by decide +kernel) (pa_cons (pv 1) (pa_cons (pe_tup (pa_cons (pe_bltn (v := .ty "bool") (by rfl) mB (by decide +kernel) rfl) (pa_cons (pe_bltn (v := .ty "str") (by rfl) mS (by decide +kernel) rfl) pa_nil))) pa_nil)))))))
          (pss_one (ps_ret (pe_and (pe_cmpR (op_eqD hr.units) (pv 0) (pv 1) (nomark _)) (pe_and (pe_cmpR op_eq (pe_callB call_isi (by rfl) mI (by decide +kernel) (pa_cons (pv 0) (pa_cons (pe_bltn (v := .ty "bool") (by rfl) mB (by decide +kernel) rfl) pa_nil))) (pe_callB call_isi (by rfl) mI (by decide +kernel) (pa_cons (pv 1) (pa_cons (pe_bltn (v := .ty "bool") (by rfl) mB (by decide +kernel) rfl) pa_nil))) (nomark _)) (pe_one (pe_cmpR op_eq (pe_cmp (pc_isN (pv 0)) rfl) (pe_cmp (pc_isN (pv 1)) rfl) (nomark _))))))) pss_nil)
        (pss_one (ps_ret (pe_and (pe_callB call_isi (by rfl) mI (by decide +kernel) (pa_cons (pv 0) (pa_cons (pe_bltn (v := .ty "int") (by rfl) mN (by decide +kernel) rfl) pa_nil))) (pe_and (pe_not (pe_callB call_isi (by rfl) mI (by decide +kernel) (pa_cons (pv 0) (pa_cons (pe_bltn (v := .ty "bool") (by rfl) mB (by decide +kernel) rfl) pa_nil)))) (pe_one (pe_cmpR (op_eqD hr.units) (pv 0) (pv 1) (nomark _)))))))), ?_⟩
    refine ⟨_, rfl, (by decide : (2 : Nat) ≤ sizeLine), fun T nT => ⟨_, T, _, _, _, _, rfl, upd_same, two_cls, (.base (.bl _)), any2 (r1 := false) (r2 := false) (by decide +kernel) (by decide +kernel), _, rfl, iteF ?_⟩⟩
    have s1 : Same H (upd H T (.tup [V.ty "list", V.ty "tuple"])) := same_upd nT
    generalize (upd H T (.tup [V.ty "list", V.ty "tuple"])) = H1 at *
    refine ⟨_, rfl, rfl, _, rfl, iteF ⟨_, rfl, (by decide : (2 : Nat) ≤ sizeLine), fun T2 nT2 => ⟨_, T2, _, _, _, _, rfl, upd_same, two_cls, (.base (.bl _)), any2 (r1 := true) (r2 := false) (by decide +kernel) (by decide +kernel), _, rfl, iteT ?_⟩⟩⟩
    have s2 : Same H (upd H1 T2 (.tup [V.ty "bool", V.ty "str"])) := s1.trans (same_upd nT2)
    generalize (upd H1 T2 (.tup [V.ty "bool", V.ty "str"])) = H2 at *
    exact ⟨_, rfl, _, rfl, _, _, Dp.up s2 hx2, Dp.up s2 hy2, hsh, hsh, _, rfl, (by rw [SeqAt.eqv_refl _ hc]; refine iteT ?_; exact ⟨_, rfl, _, _, _, _, true, rfl, .ty _, (.base (.bl _)), kit_ty (by decide +kernel), _, rfl, _, _, _, _, true, rfl, .ty _, (.base (.bl _)), kit_ty (by decide +kernel), rfl, _, rfl, iteT ⟨_, rfl, _, rfl, rfl, q _ s2⟩⟩)⟩
  | int i =>
    cases hy
    refine ⟨_, pss_cons (ps_if (pt_val (pe_callB call_isiT (by rfl) mI (by decide +kernel) (pa_cons (pv 1) (pa_cons (pe_tup (pa_cons (pe_bltn (v := .ty "list") (by rfl) mL (by decide +kernel) rfl) (pa_cons (pe_bltn (v := .ty "tuple") (by rfl) mT (by decide +kernel) rfl) pa_nil))) pa_nil)))) pss_never pss_nil)
        (pss_cons (ps_if (PW.pt (pw_or (pt_cmpR op_isN (pv 1) pe_non (nomark _)) (pw_or1 (pt_val (pe_callB call_isiT (by rfl) mI (by decide +kernel) (pa_cons (pv 1) (pa_cons (pe_tup (pa_cons (pe_bltn (v := .ty "bool") (by rfl) mB (by decide +kernel) rfl) (pa_cons (pe_bltn (v := .ty "str") (by rfl) mS (by decide +kernel) rfl) pa_nil))) pa_nil)))))))
          (pss_one (ps_ret (pe_and (pe_cmpR (op_eqD hr.units) (pv 0) (pv 1) (nomark _)) (pe_and (pe_cmpR op_eq (pe_callB call_isi (by rfl) mI (by decide +kernel) (pa_cons (pv 0) (pa_cons (pe_bltn (v := .ty "bool") (by rfl) mB (by decide +kernel) rfl) pa_nil))) (pe_callB call_isi (by rfl) mI (by decide +kernel) (pa_cons (pv 1) (pa_cons (pe_bltn (v := .ty "bool") (by rfl) mB (by decide +kernel) rfl) pa_nil))) (nomark _)) (pe_one (pe_cmpR op_eq (pe_cmp (pc_isN (pv 0)) rfl) (pe_cmp (pc_isN (pv 1)) rfl) (nomark _))))))) pss_nil)
        (pss_one (ps_ret (pe_and (pe_callB call_isi (by rfl) mI (by decide +kernel) (pa_cons (pv 0) (pa_cons (pe_bltn (v := .ty "int") (by rfl) mN (by decide +kernel) rfl) pa_nil))) (pe_and (pe_not (pe_callB call_isi (by rfl) mI (by decide +kernel) (pa_cons (pv 0) (pa_cons (pe_bltn (v := .ty "bool") (by rfl) mB (by decide +kernel) rfl) pa_nil)))) (pe_one (pe_cmpR (op_eqD hr.units) (pv 0) (pv 1) (nomark _)))))))), ?_⟩
    refine ⟨_, rfl, (by decide : (2 : Nat) ≤ sizeLine), fun T nT => ⟨_, T, _, _, _, _, rfl, upd_same, two_cls, (.base (.int _)), any2 (r1 := false) (r2 := false) (by decide +kernel) (by decide +kernel), _, rfl, iteF ?_⟩⟩
    have s1 : Same H (upd H T (.tup [V.ty "list", V.ty "tuple"])) := same_upd nT
    generalize (upd H T (.tup [V.ty "list", V.ty "tuple"])) = H1 at *
    refine ⟨_, rfl, rfl, _, rfl, iteF ⟨_, rfl, (by decide : (2 : Nat) ≤ sizeLine), fun T2 nT2 => ⟨_, T2, _, _, _, _, rfl, upd_same, two_cls, (.base (.int _)), any2 (r1 := false) (r2 := false) (by decide +kernel) (by decide +kernel), _, rfl, iteF ?_⟩⟩⟩
    have s2 : Same H (upd H1 T2 (.tup [V.ty "bool", V.ty "str"])) := s1.trans (same_upd nT2)
    generalize (upd H1 T2 (.tup [V.ty "bool", V.ty "str"])) = H2 at *
    refine ⟨_, rfl, _, _, _, _, true, rfl, .ty _, (.base (.int _)), kit_ty (by decide +kernel), _, rfl, iteT ⟨_, rfl, _, _, _, _, false, rfl, .ty _, (.base (.int _)), kit_ty (by decide +kernel), _, rfl, _, rfl, iteT ⟨_, rfl, _, rfl, _, _, Dp.up s2 hx2, Dp.up s2 hy2, hsh, hsh, ?_⟩⟩⟩
    rw [SeqAt.eqv_refl _ hc]
    exact q _ s2
  | str z =>
    cases hy
    refine ⟨_, pss_cons (ps_if (pt_val (pe_callB call_isiT (by rfl) mI (by decide +kernel) (pa_cons (pv 1) (pa_cons (pe_tup (pa_cons (pe_bltn (v := .ty "list") (by rfl) mL (by decide +kernel) rfl) (pa_cons (pe_bltn (v := .ty "tuple") (by rfl) mT (by decide +kernel) rfl) pa_nil))) pa_nil)))) pss_never pss_nil)
        (pss_cons (ps_if (PW.pt (pw_or (pt_cmpR op_isN (pv 1) pe_non (nomark _)) (pw_or1 (pt_val (pe_callB call_isiT (by rfl) mI (by decide +kernel) (pa_cons (pv 1) (pa_cons (pe_tup (pa_cons (pe_bltn (v := .ty "bool") (by rfl) mB (by decide +kernel) rfl) (pa_cons (pe_bltn (v := .ty "str") (by rfl) mS (by decide +kernel) rfl) pa_nil))) pa_nil)))))))
          (pss_one (ps_ret (pe_and (pe_cmpR (op_eqD hr.units) (pv 0) (pv 1) (nomark _)) (pe_and (pe_cmpR op_eq (pe_callB call_isi (by rfl) mI (by decide +kernel) (pa_cons (pv 0) (pa_cons (pe_bltn (v := .ty "bool") (by rfl) mB (by decide +kernel) rfl) pa_nil))) (pe_callB call_isi (by rfl) mI (by decide +kernel) (pa_cons (pv 1) (pa_cons (pe_bltn (v := .ty "bool") (by rfl) mB (by decide +kernel) rfl) pa_nil))) (nomark _)) (pe_one (pe_cmpR op_eq (pe_cmp (pc_isN (pv 0)) rfl) (pe_cmp (pc_isN (pv 1)) rfl) (nomark _))))))) pss_nil)
        (pss_one (ps_ret (pe_and (pe_callB call_isi (by rfl) mI (by decide +kernel) (pa_cons (pv 0) (pa_cons (pe_bltn (v := .ty "int") (by rfl) mN (by decide +kernel) rfl) pa_nil))) (pe_and (pe_not (pe_callB call_isi (by rfl) mI (by decide +kernel) (pa_cons (pv 0) (pa_cons (pe_bltn (v := .ty "bool") (by rfl) mB (by decide +kernel) rfl) pa_nil)))) (pe_one (pe_cmpR (op_eqD hr.units) (pv 0) (pv 1) (nomark _)))))))), ?_⟩
    refine ⟨_, rfl, (by decide : (2 : Nat) ≤ sizeLine), fun T nT => ⟨_, T, _, _, _, _, rfl, upd_same, two_cls, (.base (.str _)), any2 (r1 := false) (r2 := false) (by decide +kernel) (by decide +kernel), _, rfl, iteF ?_⟩⟩
    have s1 : Same H (upd H T (.tup [V.ty "list", V.ty "tuple"])) := same_upd nT
    generalize (upd H T (.tup [V.ty "list", V.ty "tuple"])) = H1 at *
    refine ⟨_, rfl, rfl, _, rfl, iteF ⟨_, rfl, (by decide : (2 : Nat) ≤ sizeLine), fun T2 nT2 => ⟨_, T2, _, _, _, _, rfl, upd_same, two_cls, (.base (.str _)), any2 (r1 := false) (r2 := true) (by decide +kernel) (by decide +kernel), _, rfl, iteT ?_⟩⟩⟩
    have s2 : Same H (upd H1 T2 (.tup [V.ty "bool", V.ty "str"])) := s1.trans (same_upd nT2)
    generalize (upd H1 T2 (.tup [V.ty "bool", V.ty "str"])) = H2 at *
    exact ⟨_, rfl, _, rfl, _, _, Dp.up s2 hx2, Dp.up s2 hy2, hsh, hsh, _, rfl, (by rw [SeqAt.eqv_refl _ hc]; refine iteT ?_; exact ⟨_, rfl, _, _, _, _, false, rfl, .ty _, (.base (.str _)), kit_ty (by decide +kernel), _, rfl, _, _, _, _, false, rfl, .ty _, (.base (.str _)), kit_ty (by decide +kernel), rfl, _, rfl, iteT ⟨_, rfl, _, rfl, rfl, q _ s2⟩⟩)⟩
  | lst _ _ => cases h0
  | tup _ _ => cases h0
theorem same_seq {f : Addr} {fd : FuncData} {k n : Nat} (F : Fun K "_law_same" "_law_same" sSame f fd) (bS : Binds K fd ["_law_found", "_law_due"] []) (gS : mg "_law_same" = some (.ref f)) (mI : mg "isinstance" = none) (mL : mg "list" = none) (mT : mg "tuple" = none) (mB : mg "bool" = none) (mS : mg "str" = none) (mN : mg "int" = none) (ml : mg "len" = none) (mA : mg "all" = none) (mZ : mg "zip" = none) (IH : FnOk P w K mg base CX0 k f fd ["_law_found", "_law_due"] (spSame K n))
    {cdv : Value} {A : Around} {outer : List Env} {s : Shared} {H : Hp} {Q : VK} {E : XK} (hr : Room k (A.deeper (envOfC "_law_same" (defScope sSame) s.heap.objs.size f cdv))) {x y : V} {d : PyData} (hx : Dp K H x d) (hy : Dp K H y d) (hc : d.canLay0 = true) (h0 : d.depth ≠ 0) (hn : d.depth ≤ n + 1) (h60 : d.depth ≤ 60) (hw : wide d ≤ 100000) (q : ∀ H' : Hp, Same H H' → Q (.bl true) H') :
    ∃ t, PSs (cxOf CX0 P w K mg base nSame "_law_same" (defScope sSame) f cdv A outer s H E).nox (defBody sSame) t ∧ t { nx := fun _ H' => Q .non H', rt := Q } (start nSame [x, y]) H := by
  cases hx with
  | non => exact absurd rfl h0
  | bl b => exact absurd rfl h0
  | int i => exact absurd rfl h0
  | str z => exact absurd rfl h0
  | @lst a xs ds hqx hdx =>
    cases hy with
    | @lst b ys _ hqy hdy =>
      have hc : PyData.canLayAll0 ds = true := hc
      have hn2 : PyData.depthAll ds + 1 ≤ n + 1 := hn
      have h602 : PyData.depthAll ds + 1 ≤ 60 := h60
      have hw2 : max ds.length (wideAll ds) ≤ 100000 := hw
      refine ⟨_, pss_cons (ps_if (pt_val (pe_callB call_isiT (by rfl) mI (by decide +kernel) (pa_cons (pv 1) (pa_cons (pe_tup (pa_cons (pe_bltn (v := .ty "list") (by rfl) mL (by decide +kernel) rfl) (pa_cons (pe_bltn (v := .ty "tuple") (by rfl) mT (by decide +kernel) rfl) pa_nil))) pa_nil))))
          (pss_cons (ps_if (PW.pt (pw_or (pt_cmpR op_ne (pe_callB call_isi (by rfl) mI (by decide +kernel) (pa_cons (pv 0) (pa_cons (pe_bltn (v := .ty "list") (by rfl) mL (by decide +kernel) rfl) pa_nil))) (pe_callB call_isi (by rfl) mI (by decide +kernel) (pa_cons (pv 1) (pa_cons (pe_bltn (v := .ty "list") (by rfl) mL (by decide +kernel) rfl) pa_nil))) (nomark _)) (pw_or1 (pt_cmpR op_ne (pe_callB call_isi (by rfl) mI (by decide +kernel) (pa_cons (pv 0) (pa_cons (pe_bltn (v := .ty "tuple") (by rfl) mT (by decide +kernel) rfl) pa_nil))) (pe_callB call_isi (by rfl) mI (by decide +kernel) (pa_cons (pv 1) (pa_cons (pe_bltn (v := .ty "tuple") (by rfl) mT (by decide +kernel) rfl) pa_nil))) (nomark _))))) pss_never pss_nil)
          (pss_one (ps_ret (pe_and (pe_cmpR op_eq (pe_callB call_len_seq (by rfl) ml PySem.boot_len (pa_cons (pv 0) pa_nil)) (pe_callB call_len_seq (by rfl) ml PySem.boot_len (pa_cons (pv 1) pa_nil)) (nomark _))
            (pe_one (pe_callB (cr_all rfl) (by rfl) mA (by decide +kernel) (pa_cons (pe_lc (own := [("_law_mine", 2), ("_law_its", 3)]) (g := gTup K 2 (gCons (gName 2) (gCons (gName 3) gNil))) (tt := tYes) rfl scSame.nd
              (RZ.pi_zipA (by rfl) mZ (pa_cons (pv 0) (pa_cons (pv 1) pa_nil)))
              (blkOk_by (N := nSame) (sc := defScope sSame) (by decide +kernel)) (fun _ _ _ _ _ => pg_tup rfl (pgs_cons (pg_name (i := 2) scSame.nd rfl (.inl rfl)) (pgs_cons (pg_name (i := 3) scSame.nd rfl (.inl rfl)) pgs_nil)))
              (fun _ _ _ _ _ => pts_nil) (fun _ _ _ _ _ => pe_call IH hr (by rfl) gS F.kp bS .nil pass0 (pa_cons (pv 2) (pa_cons (pv 3) pa_nil)))) pa_nil))))))) pss_nil)
        pss_never, ?_⟩
      refine ⟨_, rfl, (by decide : (2 : Nat) ≤ sizeLine), fun T nT => ⟨_, T, _, _, _, _, rfl, upd_same, two_cls, ty_list ((same_upd nT).seq hqy), any2 (r1 := true) (r2 := false) (by decide +kernel) (by decide +kernel), _, rfl, iteT ?_⟩⟩
      have s1 : Same H (upd H T (.tup [V.ty "list", V.ty "tuple"])) := same_upd nT
      generalize (upd H T (.tup [V.ty "list", V.ty "tuple"])) = H1 at *
      refine ⟨_, rfl, _, _, _, _, true, rfl, .ty _, ty_list ((s1).seq hqx), kit_ty (by decide +kernel), _, rfl, _, _, _, _, true, rfl, .ty _, ty_list ((s1).seq hqy), kit_ty (by decide +kernel), rfl, _, rfl, iteF ⟨_, rfl, _, _, _, _, false, rfl, .ty _, ty_list ((s1).seq hqx), kit_ty (by decide +kernel), _, rfl, _, _, _, _, false, rfl, .ty _, ty_list ((s1).seq hqy), kit_ty (by decide +kernel), rfl, _, rfl, iteF ?_⟩⟩
      have hxl : xs.length = ds.length := dpAll_len hdx
      have hyl : ys.length = ds.length := dpAll_len hdy
      refine ⟨_, rfl, _, _, rfl, .inl ((s1).seq hqx), _, rfl, _, _, rfl, .inl ((s1).seq hqy), rfl, _, rfl, ?_⟩
      rw [hxl, hyl]
      simp only [decide_true]
      refine ⟨.ref a, rfl, .ref b, rfl, a, b, xs, ys, rfl, .inl ⟨(s1).seq hqx, (s1).seq hqy, fun D nD => ?_⟩⟩
      refine lc_it (n := ds.length) (walk_zip (xs := xs) (ys := ys) (by omega)) (fun i H4 => H4 D = some (.lst ((List.replicate i true).map V.bl)) ∧ Same H1 H4) ?_ ?_ ?_ ?_
      · exact ⟨upd_same, same_upd nD⟩
      · rintro i H4 hi ⟨hD, s4⟩
        exact ⟨(s1.trans s4).seq hqx, (s1.trans s4).seq hqy⟩
      · rintro i v H4 H5 hi ⟨hD, s4⟩ ⟨T2, u1, u2, rfl, nT2, rfl, hu1, hu2⟩
        have s5 : Same H4 (upd H4 T2 (.tup [u1, u2])) := same_upd nT2
        obtain ⟨d1, hd1, hdp1⟩ := dpAll_at hdx hu1
        obtain ⟨d2, hd2, hdp2⟩ := dpAll_at hdy hu2
        rw [hd1] at hd2
        cases hd2
        have hca := all_at hd1 hc
        have sA : Same H (upd H4 T2 (.tup [u1, u2])) := (s1.trans s4).trans s5
        refine ⟨T2, _, rfl, .inl (.inl upd_same), rfl, _, _, rfl, _, _, rfl, rfl, rfl, ?_⟩
        refine ⟨u1, rfl, u2, rfl, u1, u2, d1, rfl, Dp.up sA hdp1, Dp.up sA hdp2, hca.1, by omega, by omega, (by have := wide_at hd1; omega), ?_⟩
        intro H6 s6
        have hD6 := s6 _ _ (s5 _ _ hD)
        refine ⟨_, hD6, ?_, ?_, ?_⟩
        · rw [List.length_map, List.length_replicate, PySem.sizeLine_eq]
          omega
        · rw [upd_same, List.replicate_succ', List.map_append]
          rfl
        · intro z o ez
          rw [upd_ne (ne_of_none ez nD)]
          exact s6 _ _ (s5 _ _ (s4 _ _ ez))
      · rintro H4 ⟨hD, s4⟩
        refine ⟨D, _, rfl, .inl (.inl hD), ?_⟩
        rw [trues (bs := List.replicate ds.length true) fun z hz => (List.mem_replicate.mp hz).2]
        exact q H4 (s1.trans s4)
  | @tup a xs ds hqx hdx =>
    cases hy with
    | @tup b ys _ hqy hdy =>
      have hc : PyData.canLayAll0 ds = true := hc
      have hn2 : PyData.depthAll ds + 1 ≤ n + 1 := hn
      have h602 : PyData.depthAll ds + 1 ≤ 60 := h60
      have hw2 : max ds.length (wideAll ds) ≤ 100000 := hw
      refine ⟨_, pss_cons (ps_if (pt_val (pe_callB call_isiT (by rfl) mI (by decide +kernel) (pa_cons (pv 1) (pa_cons (pe_tup (pa_cons (pe_bltn (v := .ty "list") (by rfl) mL (by decide +kernel) rfl) (pa_cons (pe_bltn (v := .ty "tuple") (by rfl) mT (by decide +kernel) rfl) pa_nil))) pa_nil))))
          (pss_cons (ps_if (PW.pt (pw_or (pt_cmpR op_ne (pe_callB call_isi (by rfl) mI (by decide +kernel) (pa_cons (pv 0) (pa_cons (pe_bltn (v := .ty "list") (by rfl) mL (by decide +kernel) rfl) pa_nil))) (pe_callB call_isi (by rfl) mI (by decide +kernel) (pa_cons (pv 1) (pa_cons (pe_bltn (v := .ty "list") (by rfl) mL (by decide +kernel) rfl) pa_nil))) (nomark _)) (pw_or1 (pt_cmpR op_ne (pe_callB call_isi (by rfl) mI (by decide +kernel) (pa_cons (pv 0) (pa_cons (pe_bltn (v := .ty "tuple") (by rfl) mT (by decide +kernel) rfl) pa_nil))) (pe_callB call_isi (by rfl) mI (by decide +kernel) (pa_cons (pv 1) (pa_cons (pe_bltn (v := .ty "tuple") (by rfl) mT (by decide +kernel) rfl) pa_nil))) (nomark _))))) pss_never pss_nil)
          (pss_one (ps_ret (pe_and (pe_cmpR op_eq (pe_callB call_len_seq (by rfl) ml PySem.boot_len (pa_cons (pv 0) pa_nil)) (pe_callB call_len_seq (by rfl) ml PySem.boot_len (pa_cons (pv 1) pa_nil)) (nomark _))
            (pe_one (pe_callB (cr_all rfl) (by rfl) mA (by decide +kernel) (pa_cons (pe_lc (own := [("_law_mine", 2), ("_law_its", 3)]) (g := gTup K 2 (gCons (gName 2) (gCons (gName 3) gNil))) (tt := tYes) rfl scSame.nd
              (RZ.pi_zipA (by rfl) mZ (pa_cons (pv 0) (pa_cons (pv 1) pa_nil)))
              (blkOk_by (N := nSame) (sc := defScope sSame) (by decide +kernel)) (fun _ _ _ _ _ => pg_tup rfl (pgs_cons (pg_name (i := 2) scSame.nd rfl (.inl rfl)) (pgs_cons (pg_name (i := 3) scSame.nd rfl (.inl rfl)) pgs_nil)))
              (fun _ _ _ _ _ => pts_nil) (fun _ _ _ _ _ => pe_call IH hr (by rfl) gS F.kp bS .nil pass0 (pa_cons (pv 2) (pa_cons (pv 3) pa_nil)))) pa_nil))))))) pss_nil)
        pss_never, ?_⟩
      refine ⟨_, rfl, (by decide : (2 : Nat) ≤ sizeLine), fun T nT => ⟨_, T, _, _, _, _, rfl, upd_same, two_cls, ty_tup (sameT (same_upd nT) hqy), any2 (r1 := false) (r2 := true) (by decide +kernel) (by decide +kernel), _, rfl, iteT ?_⟩⟩
      have s1 : Same H (upd H T (.tup [V.ty "list", V.ty "tuple"])) := same_upd nT
      generalize (upd H T (.tup [V.ty "list", V.ty "tuple"])) = H1 at *
      refine ⟨_, rfl, _, _, _, _, false, rfl, .ty _, ty_tup (sameT (s1) hqx), kit_ty (by decide +kernel), _, rfl, _, _, _, _, false, rfl, .ty _, ty_tup (sameT (s1) hqy), kit_ty (by decide +kernel), rfl, _, rfl, iteF ⟨_, rfl, _, _, _, _, true, rfl, .ty _, ty_tup (sameT (s1) hqx), kit_ty (by decide +kernel), _, rfl, _, _, _, _, true, rfl, .ty _, ty_tup (sameT (s1) hqy), kit_ty (by decide +kernel), rfl, _, rfl, iteF ?_⟩⟩
      have hxl : xs.length = ds.length := dpAll_len hdx
      have hyl : ys.length = ds.length := dpAll_len hdy
      refine ⟨_, rfl, _, _, rfl, .inr (sameT (s1) hqx), _, rfl, _, _, rfl, .inr (sameT (s1) hqy), rfl, _, rfl, ?_⟩
      rw [hxl, hyl]
      simp only [decide_true]
      refine ⟨.ref a, rfl, .ref b, rfl, a, b, xs, ys, rfl, .inr ⟨sameT (s1) hqx, sameT (s1) hqy, fun D nD => ?_⟩⟩
      refine lc_it (n := ds.length) (walk_zipT (xs := xs) (ys := ys) hxl hyl) (fun i H4 => H4 D = some (.lst ((List.replicate i true).map V.bl)) ∧ Same H1 H4) ?_ ?_ ?_ ?_
      · exact ⟨upd_same, same_upd nD⟩
      · rintro i H4 hi ⟨hD, s4⟩
        exact ⟨sameT (s1.trans s4) hqx, sameT (s1.trans s4) hqy⟩
      · rintro i v H4 H5 hi ⟨hD, s4⟩ ⟨T2, u1, u2, rfl, nT2, rfl, hu1, hu2⟩
        have s5 : Same H4 (upd H4 T2 (.tup [u1, u2])) := same_upd nT2
        obtain ⟨d1, hd1, hdp1⟩ := dpAll_at hdx hu1
        obtain ⟨d2, hd2, hdp2⟩ := dpAll_at hdy hu2
        rw [hd1] at hd2
        cases hd2
        have hca := all_at hd1 hc
        have sA : Same H (upd H4 T2 (.tup [u1, u2])) := (s1.trans s4).trans s5
        refine ⟨T2, _, rfl, .inl (.inl upd_same), rfl, _, _, rfl, _, _, rfl, rfl, rfl, ?_⟩
        refine ⟨u1, rfl, u2, rfl, u1, u2, d1, rfl, Dp.up sA hdp1, Dp.up sA hdp2, hca.1, by omega, by omega, (by have := wide_at hd1; omega), ?_⟩
        intro H6 s6
        have hD6 := s6 _ _ (s5 _ _ hD)
        refine ⟨_, hD6, ?_, ?_, ?_⟩
        · rw [List.length_map, List.length_replicate, PySem.sizeLine_eq]
          omega
        · rw [upd_same, List.replicate_succ', List.map_append]
          rfl
        · intro z o ez
          rw [upd_ne (ne_of_none ez nD)]
          exact s6 _ _ (s5 _ _ (s4 _ _ ez))
      · rintro H4 ⟨hD, s4⟩
        refine ⟨D, _, rfl, .inl (.inl hD), ?_⟩
        rw [trues (bs := List.replicate ds.length true) fun z hz => (List.mem_replicate.mp hz).2]
        exact q H4 (s1.trans s4)
theorem ok_same {f : Addr} {fd : FuncData} (F : Fun K "_law_same" "_law_same" sSame f fd) (bS : Binds K fd ["_law_found", "_law_due"] []) (gS : mg "_law_same" = some (.ref f)) (mI : mg "isinstance" = none) (mL : mg "list" = none) (mT : mg "tuple" = none) (mB : mg "bool" = none) (mS : mg "str" = none) (mN : mg "int" = none) (ml : mg "len" = none) (mA : mg "all" = none) (mZ : mg "zip" = none) : ∀ n : Nat, FnOk P w K mg base CX0 (n + 1) f fd ["_law_found", "_law_due"] (spSame K n)
  | 0 => by
    refine F.ok scSame (fun vs H Q E h => ?_) (fun cdv A outer s H vs Q E hr h => ?_)
    · obtain ⟨x, y, d, rfl, _⟩ := h
      rfl
    · obtain ⟨x, y, d, rfl, hx, hy, hc, h0, _, _, q⟩ := h
      exact same_scal F mI mL mT mB mS mN hr hx hy hc (by omega) q
  | n + 1 => by
    have IH := ok_same F bS gS mI mL mT mB mS mN ml mA mZ n
    refine F.ok scSame (fun vs H Q E h => ?_) (fun cdv A outer s H vs Q E hr h => ?_)
    · obtain ⟨x, y, d, rfl, _⟩ := h
      rfl
    · obtain ⟨x, y, d, rfl, hx, hy, hc, h0, h60, hw, q⟩ := h
      by_cases hz : d.depth = 0
      · exact same_scal F mI mL mT mB mS mN hr hx hy hc hz q
      · exact same_seq F bS gS mI mL mT mB mS mN ml mA mZ IH hr hx hy hc hz h0 h60 hw q
end
end HF
namespace HF
open PySem PySem.Spec PyProof.Rows L2
/-! ### lists of pairs of books -/
def OkP (zs : List Str) (p : Addr × List Str) : Prop := ∃ x y, p.2 = [x, y] ∧ x ∈ zs ∧ y ∈ zs ∧ x ≠ y
def Prs (zs : List Str) (H : Hp) (L : SL) : Prop := ∀ p ∈ L, H p.1 = some (.tup (p.2.map V.str)) ∧ OkP zs p
abbrev rf (L : SL) : List V := L.map fun p => V.ref p.1
theorem Prs.same {zs : List Str} {H H' : Hp} {L : SL} (h : Prs zs H L) (sm : Same H H') : Prs zs H' L := fun p hp => ⟨sm _ _ (h p hp).1, (h p hp).2⟩
theorem Prs.oth {zs : List Str} {H H' : Hp} {L : SL} {p : Addr} {c : Int} (h : Prs zs H L) (o : Oth p H H') (hb : Bx H p c) : Prs zs H' L := fun q hq => by
  refine ⟨o _ _ (h q hq).1 ?_, (h q hq).2⟩
  obtain ⟨x, y, e, _⟩ := hb
  exact ne_of (h q hq).1 e (by intro z; cases z)
theorem Prs.nil {zs : List Str} {H : Hp} : Prs zs H [] := fun p hp => nomatch hp
theorem Prs.app {zs : List Str} {H : Hp} {L M : SL} (h : Prs zs H L) (g : Prs zs H M) : Prs zs H (L ++ M) := fun p hp => (List.mem_append.mp hp).elim (h p) (g p)
theorem Prs.one {zs : List Str} {H : Hp} {T : Addr} {x y : Str} (h : H T = some (.tup [.str x, .str y])) (hx : x ∈ zs) (hy : y ∈ zs) (ne : x ≠ y) : Prs zs H [(T, [x, y])] := fun p hp => by
  rw [List.mem_singleton.mp hp]
  exact ⟨h, x, y, rfl, hx, hy, ne⟩
theorem Prs.sq {K : PySem.W.Frag} {zs : List Str} {H : Hp} {L : SL} (h : Prs zs H L) : ∀ p ∈ L, SqT K H p.1 (p.2.map V.str) := fun p hp => .inl (.inl (h p hp).1)
theorem Prs.two {zs : List Str} {H : Hp} {L : SL} (h : Prs zs H L) : ∀ p ∈ L, p.2.length = 1 + 1 := fun p hp => by
  obtain ⟨x, y, e, _⟩ := (h p hp).2
  rw [e]
  rfl
/-- the ties of a heap: unlike pairs, rising -/
def Ties (zs : List Str) (H : Hp) (r : Addr) (L : SL) : Prop := Tp H r (rf L) ∧ Prs zs H L ∧ (L.map (·.2)).Nodup ∧ L.Pairwise (fun p q => PySem.W.dataLe false encS p q = true)
theorem Ties.same {zs : List Str} {H H' : Hp} {r : Addr} {L : SL} (h : Ties zs H r L) (sm : Same H H') : Ties zs H' r L := ⟨h.1.same sm, h.2.1.same sm, h.2.2⟩
theorem Ties.oth {zs : List Str} {H H' : Hp} {r p : Addr} {L : SL} {c : Int} (h : Ties zs H r L) (o : Oth p H H') (hb : Bx H p c) : Ties zs H' r L := ⟨h.1.oth o (h.1.ne hb), h.2.1.oth o hb, h.2.2⟩
theorem at7 {r : Int} (h0 : 0 ≤ r) (h1 : r < 7) : ∃ j : Int, atI [V.int 0, V.int 6, V.int 3, V.int 2, V.int 4, V.int 6, V.int 4] r = some (V.int j) ∧ 0 ≤ j ∧ j ≤ 6 := by
  obtain ⟨n, rfl⟩ := Int.eq_ofNat_of_zero_le h0
  match n, h1 with
  | 0, _ => exact ⟨0, atI_nat (j := 0) rfl, by decide, by decide⟩
  | 1, _ => exact ⟨6, atI_nat (j := 1) rfl, by decide, by decide⟩
  | 2, _ => exact ⟨3, atI_nat (j := 2) rfl, by decide, by decide⟩
  | 3, _ => exact ⟨2, atI_nat (j := 3) rfl, by decide, by decide⟩
  | 4, _ => exact ⟨4, atI_nat (j := 4) rfl, by decide, by decide⟩
  | 5, _ => exact ⟨6, atI_nat (j := 5) rfl, by decide, by decide⟩
  | 6, _ => exact ⟨4, atI_nat (j := 6) rfl, by decide, by decide⟩
  | n + 7, h => omega
def spTies (K : PySem.W.Frag) : Sp := fun vs H Q _ => ∃ (p t : Addr) (c : Int) (zs : List Str), vs = [.ref p, .ref t] ∧ Bx H p c ∧ c < 2 ^ 38 ∧ Sq K H t (zs.map V.str) ∧ t ≠ p ∧ zs.Nodup ∧ zs.length ≤ 12 ∧
  ∀ (H' : Hp) (r : Addr) (L : SL) (c' : Int), H r = none → Oth p H H' → Ties zs H' r L → Bx H' p c' → c ≤ c' → c' ≤ c + 200 → Q (.ref r) H'
end HF
namespace HF
open PySem PySem.Spec PyProof.Rows L2
abbrev sTies : Stmt := topS 22
abbrev nTies : List Str := ["_law_box_here", "_law_stack", "_law_kind", "_law_found", "_law_own", "_law_odds", "_law_mine", "_law_its", "_law_order"]
theorem scTies : FnScope nTies ["_law_box_here", "_law_stack"] (defScope sTies) := ⟨rfl, rfl, rfl, by decide +kernel, rfl, by decide +kernel, by decide +kernel⟩
section
variable {P : Program} {w : World} {K : PySem.W.Frag} {mg : Str → Option Value} {base : Heap}
theorem ok_ties {f fT fS : Addr} {fd fdT fdS : FuncData} {k : Nat} (F : Fun K "_law_ties" "_law_ties" sTies f fd) (FT : Fun K "_law_take" "_law_take" sTake fT fdT) (FS : Fun K "_law_strewn" "_law_strewn" sStrewn fS fdS)
    (bT : Binds K fdT ["_law_box_here", "_law_bound"] []) (bS : Binds K fdS ["_law_box_here", "_law_some"] []) (gT : mg "_law_take" = some (.ref fT)) (gS : mg "_law_strewn" = some (.ref fS))
    (mS : mg "sorted" = none) (mI : mg "int" = none) (mZ : mg "zip" = none) (mT : mg "tuple" = none) (mE : mg "set" = none) (ml : mg "len" = none) :
    FnOk P w K mg base CX0 (k + 3) f fd ["_law_box_here", "_law_stack"] (spTies K) := by
  have GT : FnOk P w K mg base CX0 (k + 1) fT fdT ["_law_box_here", "_law_bound"] spTake := ok_take FT
  have GS : FnOk P w K mg base CX0 (k + 2) fS fdS ["_law_box_here", "_law_some"] (spStrewn K) := ok_strewn FS FT bT gT ml
  refine F.ok scTies (fun vs H Q E h => ?_) (fun cdv A outer s H vs Q E hr h => ?_)
  · obtain ⟨p, t, c, zs, rfl, _⟩ := h
    rfl
  · obtain ⟨p, t, c, zs, rfl, hB, hc, hS, ntp, hnd, hlen, q⟩ := h
    have hBnn := hB.nn
    have r1 := hr.mono (show k + 1 ≤ k + 2 by omega)
    refine ⟨_, pss_cons (ps_par3 (i := 2) (j := 3) (l := 4) (by rfl) scTies.nd rfl rfl rfl (by decide) (by decide) (by decide) rfl rfl rfl (pa_cons (pe_call GT r1 (by rfl) gT FT.kp bT .nil pass0 (pa_cons (pv 0) (pa_cons pe_int pa_nil)))
          (pa_cons (pe_lst pa_nil) (pa_cons (pe_callB (cr_srt hr.units) (by rfl) mS (by decide +kernel) (pa_cons (pv 1) pa_nil)) pa_nil))) (by rfl))
      (pss_cons (ps_set (i := 5) scTies.nd rfl (.inl rfl) (pe_ix ix_list (pe_lst (pa_cons pe_int (pa_cons pe_int (pa_cons pe_int (pa_cons pe_int (pa_cons pe_int (pa_cons pe_int (pa_cons pe_int pa_nil)))))))) (pv 2) (fun _ _ => rfl)))
      (pss_cons (ps_for PassesOwn.never rfl (pi_list (pv 4)) (pg_name (i := 6) scTies.nd rfl (.inl rfl))
        (pss_one (ps_for PassesOwn.never rfl (pi_list (pv 4)) (pg_name (i := 7) scTies.nd rfl (.inl rfl))
          (pss_one (ps_if (PW.pt (pw_and (pt_cmpR op_ne (pv 6) (pv 7) (nomark _)) (pw_and1 (pt_cmpR op_gt (pv 5) pe_int (nomark _)))))
            (pss_one (ps_set (i := 3) scTies.nd rfl (.inl rfl) (pe_op op_cat (pv 3) (pe_op op_rep (pe_lst (pa_cons (pe_tup (pa_cons (pv 6) (pa_cons (pv 7) pa_nil))) pa_nil))
              (pe_callTy call_int1 (by rfl) mI (by decide +kernel) (pa_cons (pe_cmpR op_ne (pe_cmpR op_eq (pe_call GT r1 (by rfl) gT FT.kp bT .nil pass0 (pa_cons (pv 0) (pa_cons (pv 5) pa_nil))) pe_int (nomark _)) (pe_cmpR op_eq (pv 2) pe_int (nomark _)) (nomark _)) pa_nil)))))) pss_nil)))))
      (C8.pss_cut (ps_if (pt_cmpR op_eq (pv 2) pe_int (nomark _))
        (pss_cons (ps_set (i := 8) scTies.nd rfl (.inl rfl) (pe_call GS hr (by rfl) gS FS.kp bS .nil pass0 (pa_cons (pv 0) (pa_cons (pv 4) pa_nil))))
        (pss_one (ps_set (i := 3) scTies.nd rfl (.inl rfl) (pe_op op_cat (pv 3) (pe_lc (own := [("_law_mine", 6), ("_law_its", 7)]) (g := gTup K 2 (gCons (gName 6) (gCons (gName 7) gNil))) rfl scTies.nd
          (pi_zip (by rfl) mZ (pa_cons (pv 8) (pa_cons (pe_op op_cat (pe_slice sl_list (pv 8) (po_some pe_int) po_none) (pe_slice sl_list (pv 8) po_none (po_some pe_int))) pa_nil)))
          (blkOk_by (N := nTies) (sc := defScope sTies) (by decide +kernel)) (fun _ _ _ _ _ => pg_tup rfl (pgs_cons (pg_name (i := 6) scTies.nd rfl (.inl rfl)) (pgs_cons (pg_name (i := 7) scTies.nd rfl (.inl rfl)) pgs_nil)))
          (fun _ _ _ _ _ => pts_one (pt_cmpR op_ne (pv 6) (pv 7) (nomark _))) (fun _ _ _ _ _ => pe_tup (pa_cons (pv 6) (pa_cons (pv 7) pa_nil)))))))) pss_nil)
      (C8.pss_cut (ps_if (pt_cmpR op_eq (pv 2) pe_int (nomark _))
        (pss_one (ps_set (i := 3) scTies.nd rfl (.inl rfl) (pe_op op_cat (pv 3) (pe_lc (own := [("_law_mine", 6), ("_law_its", 7)]) (g := gTup K 2 (gCons (gName 6) (gCons (gName 7) gNil))) (tt := tYes) rfl scTies.nd
          (pi_list (pv 3))
          (blkOk_by (N := nTies) (sc := defScope sTies) (by decide +kernel)) (fun _ _ _ _ _ => pg_tup rfl (pgs_cons (pg_name (i := 6) scTies.nd rfl (.inl rfl)) (pgs_cons (pg_name (i := 7) scTies.nd rfl (.inl rfl)) pgs_nil)))
          (fun _ _ _ _ _ => pts_nil) (fun _ _ _ _ _ => pe_tup (pa_cons (pv 7) (pa_cons (pv 6) pa_nil))))))) pss_nil)
      (pss_one (ps_ret (pe_callTy call_tupleF (by rfl) mT (by decide +kernel) (pa_cons (pe_callB (cr_sortS rfl hr.units) (by rfl) mS (by decide +kernel) (pa_cons (pe_callTy (cr_setS rfl hr.units) (by rfl) mE (by decide +kernel) (pa_cons (pv 3) pa_nil)) pa_nil)) pa_nil)))))))), ?_⟩
    refine ⟨.ref p, rfl, p, 7, c, rfl, hB, by omega, by decide, by decide, fun kd c1 o hk0 hk1 hc1 hc2 hb1 => ?_⟩
    have ho1 : Oth p H (upd H p o) := Oth.put
    generalize (upd H p o) = H1 at *
    refine ⟨Nat.zero_le _, fun l0 nl0 => ⟨.ref t, rfl, t, zs, rfl, sameQ (same_upd nl0) (ho1.sq ntp hS), by omega, fun ow now => ⟨_, _, _, rfl, ?_⟩⟩⟩
    have s2 : Same H1 (upd (upd H1 l0 (.lst [])) ow (.lst ((srt zs).map V.str))) := (same_upd nl0).trans (same_upd now)
    have hl0 : (upd (upd H1 l0 (.lst [])) ow (.lst ((srt zs).map V.str))) l0 = some (.lst (rf [])) := same_upd now _ _ upd_same
    have how : (upd (upd H1 l0 (.lst [])) ow (.lst ((srt zs).map V.str))) ow = some (.lst ((srt zs).map V.str)) := upd_same
    have nl0p : l0 ≠ p := (hb1.new nl0).symm
    have nowp : ow ≠ p := ((hb1.ne (hb1.new nl0)).new now).symm
    generalize (upd (upd H1 l0 (.lst [])) ow (.lst ((srt zs).map V.str))) = H2 at *
    have hb2 := hb1.same s2
    have ho2 : Oth p H H2 := ho1.trans (Oth.of s2)
    obtain ⟨od, hod, hod0, hod6⟩ := at7 hk0 hk1
    refine ⟨(by decide : (7 : Nat) ≤ sizeLine), fun D7 nD7 => ⟨.int kd, rfl, D7, _, kd, _, rfl, rfl, .inl (.inl upd_same), hod, ?_⟩⟩
    have s3 : Same H2 (upd H2 D7 (.lst [.int 0, .int 6, .int 3, .int 2, .int 4, .int 6, .int 4])) := same_upd nD7
    generalize (upd H2 D7 (.lst [.int 0, .int 6, .int 3, .int 2, .int 4, .int 6, .int 4])) = H3 at *
    have hb3 := hb2.same s3
    have ho3 : Oth p H H3 := ho2.trans (Oth.of s3)
    have hown : ∀ x ∈ srt zs, x ∈ zs := fun x hx => (srt_perm zs).mem_iff.mp hx
    have hol : (srt zs).length ≤ 12 := by rw [srt_len]; exact hlen
    generalize srt zs = os at *
    refine ⟨.ref ow, rfl, ow, rfl, ⟨_, .inl (.inl (s3 _ _ how))⟩, for_list (xs := os.map V.str) (fun i σ H4 => ∃ (l : Addr) (L : SL) (c' : Int) (y6 y7 : Option V), σ = [some (.ref p), some (.ref t), some (.int kd), some (.ref l), some (.ref ow), some (.int od), y6, y7, none] ∧
        H4 l = some (.lst (rf L)) ∧ l ≠ p ∧ Prs zs H4 L ∧ L.length ≤ 12 * i ∧ c1 ≤ c' ∧ c' ≤ c1 + 12 * i ∧ Bx H4 p c' ∧ Oth p H H4 ∧ H4 ow = some (.lst (os.map V.str))) ?_ ?_ ?_ ?_⟩
    · exact ⟨l0, [], c1, none, none, rfl, s3 _ _ hl0, nl0p, Prs.nil, Nat.zero_le _, by omega, by omega, hb3, ho3, s3 _ _ how⟩
    · rintro i σ H4 hi ⟨l, L, c', y6, y7, rfl, hl, nlp, hpr, hL, hc3, hc4, hb4, ho4, how4⟩
      exact .inl (.inl how4)
    · rintro i v σ H4 hv ⟨l, L, c', y6, y7, rfl, hl, nlp, hpr, hL, hc3, hc4, hb4, ho4, how4⟩
      have hi : i < os.length := by
        have := (List.getElem?_eq_some_iff.mp hv).1
        rw [List.length_map] at this
        exact this
      rw [List.getElem?_map] at hv
      obtain ⟨x, hx, rfl⟩ := Option.map_eq_some_iff.mp hv
      have hxz := hown x (List.mem_of_getElem? hx)
      refine ⟨.ref ow, rfl, ow, rfl, ⟨_, .inl (.inl how4)⟩, for_list (xs := os.map V.str) (fun j σ H5 => ∃ (l : Addr) (L : SL) (c' : Int) (y7 : Option V), σ = [some (.ref p), some (.ref t), some (.int kd), some (.ref l), some (.ref ow), some (.int od), some (.str x), y7, none] ∧
          H5 l = some (.lst (rf L)) ∧ l ≠ p ∧ Prs zs H5 L ∧ L.length ≤ 12 * i + j ∧ c1 ≤ c' ∧ c' ≤ c1 + 12 * i + j ∧ Bx H5 p c' ∧ Oth p H H5 ∧ H5 ow = some (.lst (os.map V.str))) ?_ ?_ ?_ ?_⟩
      · exact ⟨l, L, c', y7, rfl, hl, nlp, hpr, by omega, by omega, by omega, hb4, ho4, how4⟩
      · rintro j σ H5 hj ⟨l, L, c', y7, rfl, hl, nlp, hpr, hL, hc3, hc4, hb5, ho5, how5⟩
        exact .inl (.inl how5)
      · rintro j v σ H5 hv ⟨l, L, c', y7, rfl, hl, nlp, hpr, hL, hc3, hc4, hb5, ho5, how5⟩
        have hj : j < os.length := by
          have := (List.getElem?_eq_some_iff.mp hv).1
          rw [List.length_map] at this
          exact this
        rw [List.getElem?_map] at hv
        obtain ⟨y, hy, rfl⟩ := Option.map_eq_some_iff.mp hv
        have hyz := hown y (List.mem_of_getElem? hy)
        have skip : ∃ (l : Addr) (L : SL) (c' : Int) (y7 : Option V), [some (V.ref p), some (.ref t), some (.int kd), some (.ref l), some (.ref ow), some (.int od), some (.str x), some (.str y), none] = [some (V.ref p), some (.ref t), some (.int kd), some (.ref l), some (.ref ow), some (.int od), some (.str x), y7, none] ∧
          H5 l = some (.lst (rf L)) ∧ l ≠ p ∧ Prs zs H5 L ∧ L.length ≤ 12 * i + (j + 1) ∧ c1 ≤ c' ∧ c' ≤ c1 + 12 * i + (j + 1 : Nat) ∧ Bx H5 p c' ∧ Oth p H H5 ∧ H5 ow = some (.lst (os.map V.str)) := ⟨l, L, c', _, rfl, hl, nlp, hpr, by omega, by omega, by omega, hb5, ho5, how5⟩
        refine ⟨.str x, rfl, .str y, rfl, rfl, _, rfl, ite2 (fun e => ?_) (fun e => iteF ⟨_, _, _, _, rfl, hl, nlp, hpr, by omega, by omega, by omega, hb5, ho5, how5⟩)⟩
        have hxy : x ≠ y := fun z => by
          subst z
          simp at e
        refine ⟨.int od, rfl, od, 0, rfl, rfl, _, rfl, ite2 (fun e2 => ?_) (fun e2 => ⟨_, _, _, _, rfl, hl, nlp, hpr, by omega, by omega, by omega, hb5, ho5, how5⟩)⟩
        have hod1 : 0 < od := of_decide_eq_true e2
        refine ⟨.ref l, rfl, .str x, rfl, .str y, rfl, (by decide : (2 : Nat) ≤ sizeLine), fun T nT => ⟨(by decide : (1 : Nat) ≤ sizeLine), fun La nLa => ?_⟩⟩
        have s6 : Same H5 (upd (upd H5 T (.tup [.str x, .str y])) La (.lst [.ref T])) := (same_upd nT).trans (same_upd nLa)
        have hT : (upd (upd H5 T (.tup [.str x, .str y])) La (.lst [.ref T])) T = some (.tup [.str x, .str y]) := same_upd nLa _ _ upd_same
        have hLa : (upd (upd H5 T (.tup [.str x, .str y])) La (.lst [.ref T])) La = some (.lst [.ref T]) := upd_same
        have nTp : T ≠ p := (hb5.new nT).symm
        have nLap : La ≠ p := ((hb5.ne (hb5.new nT)).new nLa).symm
        generalize (upd (upd H5 T (.tup [.str x, .str y])) La (.lst [.ref T])) = H6 at *
        have hb6 := hb5.same s6
        refine ⟨.ref p, rfl, .int od, rfl, p, od, c', rfl, hb6, by omega, hod1, by omega, fun r c2 o2 hr0 hr1 hc5 hc6 hb7 => ?_⟩
        have o7 : Oth p H6 (upd H6 p o2) := Oth.put
        generalize (upd H6 p o2) = H7 at *
        refine ⟨rfl, .int kd, rfl, rfl, rfl, .inr ⟨_, rfl, La, _, [.ref T], rfl, rfl, o7 _ _ hLa nLap, ?_, ?_, ?_, fun Lb nLb => ?_⟩⟩
        · split <;> decide
        · split <;> decide
        · split
          · exact (by decide : (1 * 1 : Nat) ≤ sizeLine)
          · exact (by decide : (1 * 0 : Nat) ≤ sizeLine)
        have s8 : Same H7 (upd H7 Lb (.lst (List.replicate (if (!decide (V.bl (decide (V.int r = V.int 0)) = V.bl (decide (V.int kd = V.int 4)))) = true then (1 : Int) else 0).toNat [V.ref T]).flatten)) := same_upd nLb
        have hl8 := s8 _ _ (o7 _ _ (s6 _ _ hl) nlp)
        have hpr8 := (((hpr.same s6).oth o7 hb6).same s8)
        have how8 := s8 _ _ (o7 _ _ (s6 _ _ how5) nowp)
        have hT8 := s8 _ _ (o7 _ _ hT nTp)
        have hb8 := hb7.same s8
        have ho8 : Oth p H _ := ((ho5.trans (Oth.of s6)).trans o7).trans (Oth.of s8)
        refine ⟨l, Lb, _, _, rfl, rfl, hl8, upd_same, ?_, fun l2 nl2 => ?_⟩
        · rw [List.length_map, sizeLine_eq]
          split <;> simp <;> omega
        have s9 := same_upd (o := .lst (rf L ++ (List.replicate (if (!decide (V.bl (decide (V.int r = V.int 0)) = V.bl (decide (V.int kd = V.int 4)))) = true then (1 : Int) else 0).toNat [V.ref T]).flatten)) nl2
        have nl2p : l2 ≠ p := (hb8.new nl2).symm
        by_cases b : (!decide (V.bl (decide (V.int r = V.int 0)) = V.bl (decide (V.int kd = V.int 4)))) = true
        · refine ⟨l2, L ++ [(T, [x, y])], c2, _, rfl, ?_, nl2p, (hpr8.app (Prs.one hT8 hxz hyz hxy)).same s9, by rw [List.length_append]; show L.length + 1 ≤ _; omega, by omega, by omega, hb8.same s9, ho8.trans (Oth.of s9), s9 _ _ how8⟩
          rw [upd_same, if_pos b]
          show some (HO.lst (rf L ++ [V.ref T])) = some (HO.lst (rf (L ++ [(T, [x, y])])))
          rw [show rf (L ++ [(T, [x, y])]) = rf L ++ [V.ref T] by simp [rf]]
        · refine ⟨l2, L, c2, _, rfl, ?_, nl2p, hpr8.same s9, by omega, by omega, by omega, hb8.same s9, ho8.trans (Oth.of s9), s9 _ _ how8⟩
          rw [upd_same, if_neg b]
          show some (HO.lst (rf L ++ [])) = _
          rw [List.append_nil]
      · rintro σ H5 ⟨l, L, c', y7, rfl, hl, nlp, hpr, hL, hc3, hc4, hb5, ho5, how5⟩
        rw [List.length_map] at hL hc4
        exact ⟨l, L, c', _, y7, rfl, hl, nlp, hpr, by omega, by omega, by omega, hb5, ho5, how5⟩
    · rintro σ H4 ⟨l, L, c', y6, y7, rfl, hl, nlp, hpr, hL, hc3, hc4, hb4, ho4, how4⟩
      rw [List.length_map] at hL hc4
      refine ⟨fun σ H5 => ∃ (l : Addr) (L : SL) (c' : Int) (y8 : Option V), σ = [some (.ref p), some (.ref t), some (.int kd), some (.ref l), some (.ref ow), some (.int od), y6, y7, y8] ∧ H5 l = some (.lst (rf L)) ∧ Prs zs H5 L ∧ L.length ≤ 156 ∧ (kd = 6 → L.length ≤ 144) ∧ c1 ≤ c' ∧ c' ≤ c1 + 156 ∧ Bx H5 p c' ∧ Oth p H H5, ?_, ?_⟩
      · refine ⟨.int kd, rfl, rfl, _, rfl, ite2 (fun e => ?_) (fun e => ⟨l, L, c', none, rfl, hl, hpr, by omega, fun _ => by omega, by omega, by omega, hb4, ho4⟩)⟩
        have ek : kd = 5 := V.int.inj (of_decide_eq_true e)
        refine ⟨.ref p, rfl, .ref ow, rfl, p, ow, c', _, rfl, hb4, by omega, nowp, .inl (.inl (.inl how4)), by rw [List.length_map]; omega, fun H5 lo ys c5 nlo ho5 hlo hpm hb5 hc5 hc6 => ?_⟩
        obtain ⟨ls, rfl, hls⟩ := perm_strs hpm
        rw [List.length_map] at hc6
        have hl5 := ho5 _ _ hl nlp
        have hpr5 := hpr.oth ho5 hb4
        have hlsz : ∀ x ∈ ls, x ∈ zs := fun x hx => hown x (hls.mem_iff.mp hx)
        have hlsl : ls.length ≤ 12 := by rw [hls.length_eq]; exact hol
        refine ⟨.ref l, rfl, .ref lo, rfl, .ref lo, rfl, 1, rfl, lo, _, rfl, .inl (.inl hlo), fun C1 nC1 => ⟨.ref lo, rfl, 1, rfl, lo, _, rfl, (same_upd nC1).seq (.inl (.inl hlo)), fun C2 nC2 => ?_⟩⟩
        rw [cutFrom1] at nC2 ⊢
        rw [cutTo1]
        have s6 : Same H5 (upd (upd H5 C1 (.lst ((ls.map V.str).drop 1))) C2 (.lst ((ls.map V.str).take 1))) := (same_upd nC1).trans (same_upd nC2)
        have hC1 : (upd (upd H5 C1 (.lst ((ls.map V.str).drop 1))) C2 (.lst ((ls.map V.str).take 1))) C1 = some (.lst ((ls.map V.str).drop 1)) := same_upd nC2 _ _ upd_same
        refine ⟨C1, C2, _, _, rfl, rfl, hC1, upd_same, ?_, fun C3 nC3 => ?_⟩
        · rw [List.length_drop, List.length_take, List.length_map, sizeLine_eq]
          omega
        have e3 : (ls.map V.str).drop 1 ++ (ls.map V.str).take 1 = (ls.drop 1 ++ ls.take 1).map V.str := by
          rw [List.map_append, List.map_drop, List.map_take]
        rw [e3]
        have s7 := s6.trans (same_upd (o := .lst ((ls.drop 1 ++ ls.take 1).map V.str)) nC3)
        have hC3 : (upd (upd (upd H5 C1 (.lst ((ls.map V.str).drop 1))) C2 (.lst ((ls.map V.str).take 1))) C3 (.lst ((ls.drop 1 ++ ls.take 1).map V.str))) C3 = some (.lst ((ls.drop 1 ++ ls.take 1).map V.str)) := upd_same
        generalize (upd (upd (upd H5 C1 (.lst ((ls.map V.str).drop 1))) C2 (.lst ((ls.map V.str).take 1))) C3 (.lst ((ls.drop 1 ++ ls.take 1).map V.str))) = H7 at *
        have hl2 : (ls.drop 1 ++ ls.take 1).length = ls.length := by
          rw [List.length_append, List.length_drop, List.length_take]
          omega
        have hrz : ∀ x ∈ ls.drop 1 ++ ls.take 1, x ∈ zs := fun x hx => (List.mem_append.mp hx).elim (fun z => hlsz x (List.mem_of_mem_drop z)) fun z => hlsz x (List.mem_of_mem_take z)
        generalize ls.drop 1 ++ ls.take 1 = rs at *
        refine ⟨lo, C3, _, _, rfl, s7.seq (.inl (.inl hlo)), .inl (.inl hC3), fun D2 nD2 => lc_it (walk_zip (xs := ls.map V.str) (ys := rs.map V.str) (n := ls.length) (by rw [List.length_map, List.length_map, hl2]; omega)) (fun i H8 => ∃ M : SL, M.length ≤ i ∧ H8 D2 = some (.lst (rf M)) ∧ Prs zs H8 M ∧ Same H7 H8) ?_ ?_ ?_ ?_⟩
        · exact ⟨[], Nat.le_refl _, upd_same, Prs.nil, same_upd nD2⟩
        · rintro i H8 hi ⟨M, hM, hD, hpM, s8⟩
          exact ⟨s8.seq (s7.seq (.inl (.inl hlo))), s8.seq (.inl (.inl hC3))⟩
        · rintro i v H8 H9 hi ⟨M, hM, hD, hpM, s8⟩ ⟨T, u, v', rfl, nT, rfl, hu, hv⟩
          have hu' : (ls.map V.str)[i]? = some u := hu
          have hv' : (rs.map V.str)[i]? = some v' := hv
          rw [List.getElem?_map] at hu' hv'
          obtain ⟨x, hx, rfl⟩ := Option.map_eq_some_iff.mp hu'
          obtain ⟨y, hy, rfl⟩ := Option.map_eq_some_iff.mp hv'
          have s9 : Same H8 (upd H8 T (.tup [.str x, .str y])) := same_upd nT
          refine ⟨T, _, rfl, .inl (.inl upd_same), rfl, _, _, rfl, _, _, rfl, rfl, rfl, ?_⟩
          refine ⟨.str x, rfl, .str y, rfl, rfl, _, rfl, ite2 (fun e => ?_) (fun e => ⟨M, by omega, s9 _ _ hD, hpM.same s9, s8.trans s9⟩)⟩
          have hxy : x ≠ y := fun z => by
            subst z
            simp at e
          refine ⟨.str x, rfl, .str y, rfl, (by decide : (2 : Nat) ≤ sizeLine), fun T2 nT2 => ?_⟩
          have s10 := s9.trans (same_upd (o := .tup [.str x, .str y]) nT2)
          have hT2 : (upd (upd H8 T (.tup [.str x, .str y])) T2 (.tup [.str x, .str y])) T2 = some (.tup [.str x, .str y]) := upd_same
          have hD10 := s10 _ _ hD
          generalize (upd (upd H8 T (.tup [.str x, .str y])) T2 (.tup [.str x, .str y])) = Hb at *
          refine ⟨_, hD10, ?_, M ++ [(T2, [x, y])], by rw [List.length_append]; show M.length + 1 ≤ _; omega, ?_, ?_, ?_⟩
          · rw [List.length_map, sizeLine_eq]
            omega
          · rw [upd_same]
            simp [rf]
          · intro q hq
            have h0 := ((hpM.same s10).app (Prs.one hT2 (hlsz x (List.mem_of_getElem? hx)) (hrz y (List.mem_of_getElem? hy)) hxy)) q hq
            exact ⟨by rw [upd_ne (ne_of h0.1 hD10 (by intro z; cases z))]; exact h0.1, h0.2⟩
          · intro b ob eb
            rw [upd_ne (ne_of_none eb nD2)]
            exact s10 _ _ (s8 _ _ eb)
        · rintro H8 ⟨M, hM, hD, hpM, s8⟩
          refine ⟨l, D2, _, _, rfl, rfl, s8 _ _ (s7 _ _ hl5), hD, ?_, fun l2 nl2 => ?_⟩
          · rw [List.length_map, List.length_map, sizeLine_eq]
            omega
          have s9 := same_upd (o := .lst (rf L ++ rf M)) nl2
          refine ⟨l2, L ++ M, c5, _, rfl, ?_, (((hpr5.same s7).same s8).app hpM).same s9, by rw [List.length_append]; omega, fun z => by omega, by omega, by omega, ((hb5.same s7).same s8).same s9, ((ho4.trans ho5).trans (Oth.of (s7.trans s8))).trans (Oth.of s9)⟩
          rw [upd_same, show rf (L ++ M) = rf L ++ rf M from List.map_append]
      · rintro σ H5 ⟨l, L, c', y8, rfl, hl, hpr, hL, hL6, hc3, hc4, hb5, ho5⟩
        refine ⟨fun σ H6 => ∃ (l : Addr) (L : SL), σ = [some (.ref p), some (.ref t), some (.int kd), some (.ref l), some (.ref ow), some (.int od), y6, y7, y8] ∧ H6 l = some (.lst (rf L)) ∧ Prs zs H6 L ∧ L.length ≤ 288 ∧ Same H5 H6, ?_, ?_⟩
        · refine ⟨.int kd, rfl, rfl, _, rfl, ite2 (fun e => ?_) (fun e => ⟨l, L, rfl, hl, hpr, by omega, Same.refl _⟩)⟩
          have ek : kd = 6 := V.int.inj (of_decide_eq_true e)
          have hL7 := hL6 ek
          refine ⟨.ref l, rfl, .ref l, rfl, l, rfl, ⟨_, .inl (.inl hl)⟩, fun D2 nD2 => lc_list (xs := rf L) (fun i H8 => ∃ M : SL, M.length ≤ i ∧ H8 D2 = some (.lst (rf M)) ∧ Prs zs H8 M ∧ Same H5 H8) ?_ ?_ ?_ ?_⟩
          · exact ⟨[], Nat.le_refl _, upd_same, Prs.nil, same_upd nD2⟩
          · rintro i H8 hi ⟨M, hM, hD, hpM, s8⟩
            exact s8.seq (.inl (.inl hl))
          · rintro i v H8 hv ⟨M, hM, hD, hpM, s8⟩
            have hi : i < (rf L).length := (List.getElem?_eq_some_iff.mp hv).1
            rw [List.length_map] at hi
            rw [List.getElem?_map] at hv
            obtain ⟨q0, hq0, rfl⟩ := Option.map_eq_some_iff.mp hv
            obtain ⟨hq1, x, y, hq2, hxz, hyz, hxy⟩ := hpr q0 (List.mem_of_getElem? hq0)
            rw [hq2] at hq1
            refine ⟨q0.1, _, rfl, .inl (.inl (s8 _ _ hq1)), rfl, _, _, rfl, _, _, rfl, rfl, rfl, ?_⟩
            refine ⟨.str y, rfl, .str x, rfl, (by decide : (2 : Nat) ≤ sizeLine), fun T2 nT2 => ?_⟩
            have s10 : Same H8 (upd H8 T2 (.tup [.str y, .str x])) := same_upd nT2
            have hT2 : (upd H8 T2 (.tup [.str y, .str x])) T2 = some (.tup [.str y, .str x]) := upd_same
            have hD10 := s10 _ _ hD
            generalize (upd H8 T2 (.tup [.str y, .str x])) = Hb at *
            refine ⟨_, hD10, ?_, M ++ [(T2, [y, x])], by rw [List.length_append]; show M.length + 1 ≤ _; omega, ?_, ?_, ?_⟩
            · rw [List.length_map, sizeLine_eq]
              omega
            · rw [upd_same]
              simp [rf]
            · intro q hq
              have h0 := ((hpM.same s10).app (Prs.one hT2 hyz hxz (Ne.symm hxy))) q hq
              exact ⟨by rw [upd_ne (ne_of h0.1 hD10 (by intro z; cases z))]; exact h0.1, h0.2⟩
            · intro b ob eb
              rw [upd_ne (ne_of_none eb nD2)]
              exact s10 _ _ (s8 _ _ eb)
          · rintro H8 ⟨M, hM, hD, hpM, s8⟩
            rw [List.length_map] at hM
            refine ⟨l, D2, _, _, rfl, rfl, s8 _ _ hl, hD, ?_, fun l2 nl2 => ?_⟩
            · rw [List.length_map, List.length_map, sizeLine_eq]
              omega
            have s9 := same_upd (o := .lst (rf L ++ rf M)) nl2
            refine ⟨l2, L ++ M, rfl, ?_, ((hpr.same s8).app hpM).same s9, by rw [List.length_append]; omega, s8.trans s9⟩
            rw [upd_same, show rf (L ++ M) = rf L ++ rf M from List.map_append]
        · rintro σ H6 ⟨l, L, rfl, hl, hpr, hL, s6⟩
          refine ⟨.ref l, rfl, l, L, rfl, .inl (.inl hl), hpr.sq, by omega, fun sa M nsa hsub hall hMnd hMl => ?_⟩
          have hprM : Prs zs H6 M := fun q hq => hpr q (hsub q hq)
          have s7 := same_upd (o := SetO P w sa M) nsa
          refine ⟨sa, M, 1, rfl, upd_same, (hprM.same s7).sq, hprM.two, by omega, fun N pl hperm hNnd hNs npl => ?_⟩
          have s8 := s7.trans (same_upd (o := .lst (rf N)) npl)
          refine ⟨pl, rf N, rfl, .inl (.inl upd_same), fun rt ob nrt e1 e2 => ?_⟩
          have s9 := s8.trans (same_upd (o := .frz ob (.tup (rf N))) nrt)
          have sA := s6.trans s9
          exact q _ rt N c' (by
            have := s8.free nrt
            exact ho5.none hb5 (s6.free this)) (ho5.trans (Oth.of sA)) ⟨⟨ob, upd_same, e1, e2⟩, fun q0 hq0 => hprM.same s9 q0 (hperm.mem_iff.mp hq0), hNnd, hNs⟩ (hb5.same sA) (by omega) (by omega)
end
end HF
/-! enumerate(tuple) -/
namespace HF
open PySem PySem.Spec PyProof.Rows L2
theorem enum_new1 {v : Value} {ob : Obj} {Hv : Heap → Prop} (B : Begins v ob Hv) :
    Meets (Builtin.«enumerate.__new__» ⟨[.type "enumerate", v], []⟩) (fun _ R st => Hv st.heap ∧
      R (.ok (.ret (.ref (st.heap.push ob).objs.size))) { st with heap := (st.heap.push ob).push { cls := .type "enumerate", data := .fields #[.none, .bool false, .ref st.heap.objs.size, rawInt 0, .none, .none] } }) := by
  refine .of_wp fun prog w A R st hyp => ?_
  obtain ⟨hp, gg, dd, tk, os⟩ := st
  obtain ⟨h1, h2⟩ := hyp
  have hsub := sub_enumerate
  have walkI : ∀ {A' : Around} {E : Value → Shared → Prop} {Q : Value → Shared → Prop}, Q (.ref hp.objs.size) ⟨hp.push ob, gg, dd, tk, os⟩ → wpAny (model prog w) A' (pyIter v) Q E ⟨hp, gg, dd, tk, os⟩ := fun q => B.iter prog w _ _ ⟨hp, gg, dd, tk, os⟩ _ h1 q
  wp_walk using walkI
  refine wpAny_stack_any fun stk => wpAny_pure ?_
  split
  · rename_i cc _ _ _ _ _
    cases (cc == Value.type "enumerate") <;> (wp_walk using walkI; exact ⟨_, rfl, h2⟩)
  · wp_walk using walkI
    exact ⟨_, rfl, h2⟩
section
variable {prog : Program} {w : World} {A : Around} {E : Value → Shared → Prop} {s : Shared}
theorem enum_call1 {v : Value} {ob : Obj} {Hv : Heap → Prop} {Q : Value → Shared → Prop} (B : Begins v ob Hv) (h1 : Hv s.heap)
    (hQ : ∀ h', IsEnum h' (s.heap.objs.size + 1) s.heap.objs.size 0 .none → h'.get? s.heap.objs.size = some ob → (∀ b o, s.heap.get? b = some o → h'.get? b = some o) → Q (.ref (s.heap.objs.size + 1)) { s with heap := h' }) :
    wpAny (model prog w) A (call (.type "enumerate") [v]) Q E s := by
  refine callType_new F.called_enumerate (by decide) (F.typeCall_enumerate_1 _) (F.newCall_enumerate_1 _) (fun obj => F.args_object_init_2 obj _) F.entry_enumerate_new (enum_new1 B) ⟨h1, ?_⟩
  have hz : (s.heap.push ob).objs.size = s.heap.objs.size + 1 := Heap.size_push ..
  show _ ∧ _
  rw [hz]
  have he : IsEnum ((s.heap.push ob).push { cls := .type "enumerate", data := .fields #[.none, .bool false, .ref s.heap.objs.size, rawInt 0, .none, .none] }) (s.heap.objs.size + 1) s.heap.objs.size 0 .none := by
    have e := Heap.get?_push_size (s.heap.push ob) (o := { cls := .type "enumerate", data := .fields #[.none, .bool false, .ref s.heap.objs.size, rawInt 0, .none, .none] }) rfl
    rw [hz] at e
    exact e
  exact ⟨⟨_, he, rfl⟩, hQ _ he (Heap.get?_push_of_some _ (Heap.get?_push_size _ B.free)) fun b o x => Heap.get?_push_of_some _ (Heap.get?_push_of_some _ x)⟩
theorem enum_end_t {e it a : Addr} {its : Array Value} {i : Nat} {j : Int} {old : Value} {Q : Option Value → Shared → Prop} (hh : A.handled = none) (he : IsEnum s.heap e it j old) (hit : s.heap.IsTupleIter it a i) (ht : s.heap.IsTuple a its) (hi : its.size ≤ i)
    (hQ : ∀ h', Heap.ExtBut it s.heap h' → Q none { s with heap := h' }) : wpAny (model prog w) A (pyNext (.ref e)) Q E s := by
  have ty : s.TypeIs (.ref e) "enumerate" := ⟨_, he, rfl⟩
  unfold pyNext
  refine wpAny_bind (wpAny_attempt (wpAny_callSpecial?_slot (name := Str.ofString "__next__") ty F.slot_enumerate_next (wpAny_call_entry F.slot_enumerate_next ty F.entry_enumerate_next ?_ (F.args_enumerate_next_1 _))))
  show wpAny _ _ (field (.ref e) 2 >>= _) _ _ _
  refine wpAny_bind (wpAny_field he rfl (x := .ref it) rfl (wpAny_bind (wpAny_nextOf_tuple_end (A := A.in1) hh hit ht (by simp; omega) fun h1 x kp stop => ?_)))
  obtain ⟨o, ho, hc⟩ := stop
  exact wpAny_bind (wpAny_isInstance (T := "StopIteration") (b := true) ⟨o, ho, hc⟩ isSubtype_stop (wpAny_pure (hQ _ kp)))
end
/-- the tuple's items in new pairs with their places -/
def ItE (K : PySem.W.Frag) (a : Addr) : It :=
  ⟨fun i H => ∃ (xs : List V) (x : V), SqT K H a xs ∧ xs[i]? = some x, fun i H v H' => ∃ T x, v = .ref T ∧ H T = none ∧ H' = upd H T (.tup [.int (i : Nat), x]) ∧ ∀ xs, SqT K H a xs → xs[i]? = some x, fun i H => ∃ xs : List V, SqT K H a xs ∧ xs.length ≤ i⟩
theorem turn_E {P : Program} {w : World} {K : PySem.W.Frag} {elts : List Expr} {kk : Nat} {tpos : Pos} (a e it : Addr) :
    Turn P w K (.Tuple elts kk tpos) (ItE K a) [e, it] e (fun i h => (∃ old, IsEnum h e it ((i : Nat) : Int) old) ∧ h.IsTupleIter it a i ∧ e ≠ it ∧ a ≠ it ∧ e ≠ a) where
  mem := by simp
  obj := fun i h st b hb => by
    obtain ⟨⟨old, he⟩, ⟨o, ho, hc, hd⟩, _⟩ := st
    rcases (show b = e ∨ b = it by simpa using hb) with rfl | rfl
    · exact ⟨_, he, fun v q => nomatch q⟩
    · exact ⟨o, ho, fun v q => by rw [hd] at q; cases q⟩
  keep := fun i h h' st kp => let ⟨⟨old, he⟩, hi, r⟩ := st; ⟨⟨old, kp e (by simp) _ he⟩, hi.at fun o q => kp it (by simp) o q, r⟩
  item := by
    intro X hP hw hK hc i pins st σ H E I hf inv hg
    subst hP hw hK
    obtain ⟨⟨old, he⟩, hit, ne1, ne2, ne3⟩ := inv
    obtain ⟨xs, x, hq, hx⟩ := hg
    obtain ⟨its, rv, pl, hz⟩ := I.tuple hq
    obtain ⟨u, hu, ru⟩ := rv.get hx
    have lte : e < st.heap.objs.size := Heap.lt_size he
    have lti : it < st.heap.objs.size := by obtain ⟨_, q, _⟩ := hit; exact Heap.lt_size q
    have hui : its.toArray[i]? = some u := by simpa using hu
    have hlt : i < its.toArray.size := (Array.getElem?_eq_some_iff.mp hui).1
    refine wpAny_pyNext_enum_itemD (Draws.tuple (A := X.A.in1) (show X.A.in1.handled = none from I.ok.hd hc) it a ne2 its.toArray) he ⟨hit, pl⟩ hlt ne1 (by simp [ne1, ne3]) fun y h1 tk hy ho hst hT hsz kp => ?_
    have ey : y = u := Option.some.inj ((show its.toArray[i]? = some y from hy).symm.trans hui)
    subst ey
    refine ⟨_, rfl, wpAny_letOwnedTupleGo_enum (s := { st with heap := h1, toks := tk + 1 }) ho fun h2 he2 sb => ?_⟩
    have hT2 : h2.get? st.heap.objs.size = some { cls := .type "tuple", data := .seq #[.int i tk, y] } := (sb.2 _ (Nat.ne_of_gt lte)).trans hT
    have new : ObjOk X.prog X.w (upd H st.heap.objs.size (.tup [.int (i : Nat), x])) h2 st.heap.objs.size (.tup [.int (i : Nat), x]) :=
      ⟨(by decide : (2 : Nat) ≤ sizeLine), [.int i tk, y], .cons ⟨_, rfl⟩ (.cons ru .nil), ⟨_, hT2, rfl, _, rfl⟩⟩
    have J : Inv X pins σ (upd H st.heap.objs.size (.tup [.int (i : Nat), x])) { st with heap := h2, toks := tk + 1 } :=
      I.turnedNew (ch := [e, it]) (fun b ob hb q => (sb.2 b (fun z => hb (by simp [z]))).trans (kp b ob (fun z => hb (by simp [z])) (fun z => hb (by simp [z])) q)) hf (Nat.le_refl _) new
    refine ⟨.ref st.heap.objs.size, _, J, rfl, ⟨_, x, rfl, I.hok.fresh (Nat.le_refl _), rfl, fun ys hy => by rw [I.tuple_inj hy hq]; exact hx⟩, ⟨⟨y, ?_⟩, hst.1.at fun o q => (sb.2 it (Ne.symm ne1)).trans q, ne1, ne2, ne3⟩, fun b hb => ?_⟩
    · rw [show ((i + 1 : Nat) : Int) = (i : Int) + 1 by omega]
      exact he2
    · have lb : b < st.heap.objs.size := by
        rcases (show b = e ∨ b = it by simpa using hb) with rfl | rfl
        · exact lte
        · exact lti
      rw [upd_ne (Nat.ne_of_lt lb)]
      exact (hf b hb).1
  done := by
    intro X hP hw hK hc i pins st σ H E I hf inv hg
    subst hP hw hK
    obtain ⟨⟨old, he⟩, hit, ne1, ne2, ne3⟩ := inv
    obtain ⟨xs, hq, hx⟩ := hg
    obtain ⟨its, rv, pl, hz⟩ := I.tuple hq
    obtain ⟨f0, f1, f2, f3, f4, f5⟩ := hf it (by simp)
    have hl := rv.length
    exact enum_end_t (I.ok.hd hc) he hit pl (by simp; omega) fun h1 eb => ⟨rfl, I.turned (t' := st.toks) (fun b o hb q => eb b o hb q) f0 f1 f3 f4 f5⟩
  self := fun A i st Q E inv h => let ⟨⟨_, he⟩, _⟩ := inv; wpAny_pyIter_enum he h
def iEnT (K : PySem.W.Frag) (ta : TA) : TI := fun σ H R => ta σ H fun vs H1 => ∃ a xs, vs = [.ref a] ∧ SqT K H1 a xs ∧ R (ItE K a) H1
theorem pi_enT {X : Cx} {e : Expr} {ta : TA} {p pos tpos : Pos} {elts : List Expr} {kk : Nat} (hg : Gl X "enumerate") (hm : X.mg "enumerate" = none) (ha : PA X [e] ta) (hst : starEach [e] X.env = [(false, eval e X.env)] := by rfl) :
    PI X (.Tuple elts kk tpos) (.Call (.Name "enumerate" p) [e] [] pos) (iEnT X.K ta) := by
  refine ⟨fun pins st σ H R I hyp => Call_ (ld_blt I hg hm boot_enumerate (PyProof.Rows.callWith_type1 (thn (ha.run pos pins st σ H _ I hyp) ?_) hst rfl))⟩
  rintro us s1 ⟨vs, H1, J, rel, a, xs, rfl, hq, q⟩
  obtain ⟨uv, rfl, ru⟩ := vals1 rel
  cases ru
  obtain ⟨its, rv, pl, hz⟩ := J.tuple hq
  have lta : a < s1.heap.objs.size := by obtain ⟨o, ho, _⟩ := pl; exact Heap.lt_size ho
  refine enum_call1 (begins_tuple a its.toArray) pl fun h1 he hit kp => wpAny_pyIter_enum he ?_
  have J2 : Inv X pins σ H1 { s1 with heap := h1 } := J.kept (t' := s1.toks) kp
  refine ⟨s1.heap.objs.size + 1, [s1.heap.objs.size + 1, s1.heap.objs.size], _, _, H1, rfl, J2, turn_E a (s1.heap.objs.size + 1) s1.heap.objs.size, ⟨⟨.none, he⟩, ⟨_, hit, rfl, rfl⟩, Nat.succ_ne_self _, Nat.ne_of_lt lta, Nat.ne_of_gt (Nat.lt_succ_of_lt lta)⟩, fun b hb => ?_, q⟩
  have hle : s1.heap.objs.size ≤ b := by
    rcases (show b = s1.heap.objs.size + 1 ∨ b = s1.heap.objs.size by simpa using hb) with rfl | rfl
    · exact Nat.le_succ _
    · exact Nat.le_refl _
  exact J.fpOk hle (J.hok.fresh hle)
theorem walk_enT {K : PySem.W.Frag} {a : Addr} {xs : List V} : Walk (ItE K a) xs.length (fun H => SqT K H a xs) (YPair (fun i => some (.int (i : Nat))) (fun i => xs[i]?)) := by
  refine ⟨fun i H hi q => ⟨xs, xs[i], q, List.getElem?_eq_getElem hi⟩, fun H q => ⟨xs, q, Nat.le_refl _⟩, ?_⟩
  rintro i H x H' hi q ⟨T, u, e1, e2, e3, h1⟩
  exact ⟨T, _, u, e1, e2, e3, rfl, h1 xs q⟩
end HF
namespace HF
open PySem PySem.Spec PyProof.Rows L2
/-! ### lists for tuples, at any depth -/
mutual
def lsD : PyData → PyData
  | .list xs => .list (lsAll xs)
  | .tuple xs => .list (lsAll xs)
  | d => d
def lsAll : List PyData → List PyData
  | [] => []
  | x :: r => lsD x :: lsAll r
end
theorem lsAll_len : ∀ ds : List PyData, (lsAll ds).length = ds.length
  | [] => rfl
  | x :: r => by
    show (lsAll r).length + 1 = r.length + 1
    rw [lsAll_len r]
theorem lsAll_snoc : ∀ (ds : List PyData) (d : PyData), lsAll (ds ++ [d]) = lsAll ds ++ [lsD d]
  | [], _ => rfl
  | x :: r, d => by
    show lsD x :: lsAll (r ++ [d]) = _
    rw [lsAll_snoc r d]
    rfl
mutual
/-- data whose lists are new since H -/
inductive Nw (H H' : Hp) : V → PyData → Prop
  | non : Nw H H' .non .none
  | bl (b : Bool) : Nw H H' (.bl b) (.bool b)
  | int (i : Int) : Nw H H' (.int i) (.int i)
  | str (x : Str) : Nw H H' (.str x) (.str x)
  | lst {a : Addr} {xs : List V} {ds : List PyData} : H a = none → H' a = some (.lst xs) → NwAll H H' xs ds → Nw H H' (.ref a) (.list ds)
inductive NwAll (H H' : Hp) : List V → List PyData → Prop
  | nil : NwAll H H' [] []
  | cons {v : V} {vs : List V} {d : PyData} {ds : List PyData} : Nw H H' v d → NwAll H H' vs ds → NwAll H H' (v :: vs) (d :: ds)
end
mutual
theorem Nw.dp {K : PySem.W.Frag} {H H' : Hp} : ∀ {v : V} {d : PyData}, Nw H H' v d → Dp K H' v d
  | _, _, .non => .non
  | _, _, .bl b => .bl b
  | _, _, .int i => .int i
  | _, _, .str x => .str x
  | _, _, .lst _ h t => .lst (.inl (.inl h)) (NwAll.dp t)
theorem NwAll.dp {K : PySem.W.Frag} {H H' : Hp} : ∀ {vs : List V} {ds : List PyData}, NwAll H H' vs ds → DpAll K H' vs ds
  | _, _, .nil => .nil
  | _, _, .cons h t => .cons (Nw.dp h) (NwAll.dp t)
end
mutual
theorem Nw.go {H H' G G' : Hp} (h1 : ∀ a, H a = none → G a = none) (h2 : ∀ a o, H a = none → H' a = some o → G' a = some o) : ∀ {v : V} {d : PyData}, Nw H H' v d → Nw G G' v d
  | _, _, .non => .non
  | _, _, .bl b => .bl b
  | _, _, .int i => .int i
  | _, _, .str x => .str x
  | _, _, .lst n h t => .lst (h1 _ n) (h2 _ _ n h) (NwAll.go h1 h2 t)
theorem NwAll.go {H H' G G' : Hp} (h1 : ∀ a, H a = none → G a = none) (h2 : ∀ a o, H a = none → H' a = some o → G' a = some o) : ∀ {vs : List V} {ds : List PyData}, NwAll H H' vs ds → NwAll G G' vs ds
  | _, _, .nil => .nil
  | _, _, .cons h t => .cons (Nw.go h1 h2 h) (NwAll.go h1 h2 t)
end
theorem NwAll.snoc {H H' : Hp} : ∀ {vs : List V} {ds : List PyData} {v : V} {d : PyData}, NwAll H H' vs ds → Nw H H' v d → NwAll H H' (vs ++ [v]) (ds ++ [d])
  | _, _, _, _, .nil, h => .cons h .nil
  | _, _, _, _, .cons a t, h => .cons a (NwAll.snoc t h)
def spListed (K : PySem.W.Frag) (n : Nat) : Sp := fun vs H Q _ => ∃ (x : V) (d : PyData), vs = [x] ∧ Dp K H x d ∧ d.depth ≤ n ∧ wide d ≤ 100000 ∧ ∀ (H' : Hp) (y : V), Same H H' → Nw H H' y (lsD d) → Q y H'
/-! ### pairs, as tuples of tuples or as lists of lists -/
def PqT (K : PySem.W.Frag) (H : Hp) (r : Addr) (qs : List (Str × Str)) : Prop := ∃ as : List Addr, SqT K H r (as.map V.ref) ∧ as.length = qs.length ∧ ∀ (i : Nat) (a : Addr) (q : Str × Str), as[i]? = some a → qs[i]? = some q → SqT K H a [.str q.1, .str q.2]
def PqL (K : PySem.W.Frag) (H : Hp) (r : Addr) (qs : List (Str × Str)) : Prop := ∃ as : List Addr, SqL K H r (as.map V.ref) ∧ as.length = qs.length ∧ ∀ (i : Nat) (a : Addr) (q : Str × Str), as[i]? = some a → qs[i]? = some q → SqL K H a [.str q.1, .str q.2]
theorem PqT.same {K : PySem.W.Frag} {H H' : Hp} {r : Addr} {qs : List (Str × Str)} (h : PqT K H r qs) (sm : Same H H') : PqT K H' r qs := by
  obtain ⟨as, h1, h2, h3⟩ := h
  exact ⟨as, sameT sm h1, h2, fun i a q e1 e2 => sameT sm (h3 i a q e1 e2)⟩
def prOf (p : Addr × List Str) : Str × Str := match p.2 with
  | [x, y] => (x, y)
  | _ => ("", "")
theorem Ties.pq {K : PySem.W.Frag} {zs : List Str} {H : Hp} {r : Addr} {L : SL} (h : Ties zs H r L) : PqT K H r (L.map prOf) := by
  refine ⟨L.map (·.1), by rw [List.map_map]; exact h.1.sq, by rw [List.length_map, List.length_map], fun i a q e1 e2 => ?_⟩
  rw [List.getElem?_map] at e1 e2
  obtain ⟨p, hp, rfl⟩ := Option.map_eq_some_iff.mp e1
  rw [hp] at e2
  cases (show some (prOf p) = some q from e2)
  obtain ⟨g1, x, y, e, _⟩ := h.2.1 p (List.mem_of_getElem? hp)
  have ep : prOf p = (x, y) := by
    unfold prOf
    rw [e]
  rw [e] at g1
  rw [ep]
  exact .inl (.inl g1)
def sndOf (b : Str) (qs : List (Str × Str)) : List Str := (qs.filter fun q => decide (q.1 = b)).map (·.2)
def fstOf (b : Str) (qs : List (Str × Str)) : List Str := (qs.filter fun q => decide (q.2 = b)).map (·.1)
theorem sndOf_len (b : Str) (qs : List (Str × Str)) : (sndOf b qs).length ≤ qs.length := by
  unfold sndOf
  rw [List.length_map]
  exact List.length_filter_le _ _
theorem fstOf_len (b : Str) (qs : List (Str × Str)) : (fstOf b qs).length ≤ qs.length := by
  unfold fstOf
  rw [List.length_map]
  exact List.length_filter_le _ _
theorem sndOf_snoc (b : Str) (qs : List (Str × Str)) (q : Str × Str) : sndOf b (qs ++ [q]) = sndOf b qs ++ (if q.1 = b then [q.2] else []) := by
  unfold sndOf
  rw [List.filter_append, List.map_append]
  by_cases e : q.1 = b
  · rw [if_pos e, List.filter_cons_of_pos (p := fun q : Str × Str => decide (q.1 = b)) (decide_eq_true e)]
    rfl
  · rw [if_neg e, List.filter_cons_of_neg (p := fun q : Str × Str => decide (q.1 = b)) (by rw [decide_eq_true_eq]; exact e)]
    rfl
theorem fstOf_snoc (b : Str) (qs : List (Str × Str)) (q : Str × Str) : fstOf b (qs ++ [q]) = fstOf b qs ++ (if q.2 = b then [q.1] else []) := by
  unfold fstOf
  rw [List.filter_append, List.map_append]
  by_cases e : q.2 = b
  · rw [if_pos e, List.filter_cons_of_pos (p := fun q : Str × Str => decide (q.2 = b)) (decide_eq_true e)]
    rfl
  · rw [if_neg e, List.filter_cons_of_neg (p := fun q : Str × Str => decide (q.2 = b)) (by rw [decide_eq_true_eq]; exact e)]
    rfl
def spPick (K : PySem.W.Frag) (g : Str → List (Str × Str) → List Str) : Sp := fun vs H Q _ => ∃ (r : Addr) (b : Str) (qs : List (Str × Str)), vs = [.ref r, .str b] ∧ (PqT K H r qs ∨ PqL K H r qs) ∧ qs.length ≤ 400 ∧
  ∀ (H' : Hp) (l : Addr), Same H H' → H l = none → H' l = some (.lst ((srt (g b qs)).map V.str)) → Q (.ref l) H'
theorem fn_false {P : Program} {w : World} {K : PySem.W.Frag} {mg : Str → Option Value} {base : Heap} {k : Nat} {f : Addr} {fd : FuncData} {ps : List Str} : FnOk P w K mg base CX0 k f fd ps (fun _ _ _ _ => False) := ⟨fun _ _ _ _ h => h.elim, fun _ _ _ _ _ _ _ _ _ _ _ _ _ h => h.elim⟩
end HF
namespace HF
open PySem PySem.Spec PyProof.Rows L2
abbrev sFriends : Stmt := topS 6
theorem scFriends : FnScope ["ties", "book", "fan", "friend"] ["ties", "book"] (defScope sFriends) := ⟨rfl, rfl, rfl, by decide +kernel, rfl, by decide +kernel, by decide +kernel⟩
theorem ok_Friends {P : Program} {w : World} {K : PySem.W.Frag} {mg : Str → Option Value} {base : Heap} {f : Addr} {fd : FuncData} {k : Nat} (F : Fun K "friends_of" "friends_of" sFriends f fd) (mS : mg "sorted" = none) : FnOk P w K mg base CX0 (k + 1) f fd ["ties", "book"] (spPick K sndOf) := by
  refine F.ok scFriends (fun vs H Q E h => ?_) (fun cdv A outer s H vs Q E hr h => ?_)
  · obtain ⟨r, b, qs, rfl, _⟩ := h
    rfl
  · obtain ⟨r, b, qs, rfl, hq, hlen, q⟩ := h
    rcases hq with hq | hq
    · obtain ⟨as, hr0, hal, hat⟩ := hq
      refine ⟨_, pss_one (ps_ret (pe_callB (cr_srt hr.units) (by rfl) mS (by decide +kernel) (pa_cons (pe_lc (own := [("fan", 2), ("friend", 3)]) (g := gTup K 2 (gCons (gName 2) (gCons (gName 3) gNil))) rfl scFriends.nd (pi_tup (pv 0))
        (blkOk_by (N := ["ties", "book", "fan", "friend"]) (sc := defScope sFriends) (by decide +kernel)) (fun _ _ _ _ _ => pg_tup rfl (pgs_cons (pg_name (i := 2) scFriends.nd rfl (.inl rfl)) (pgs_cons (pg_name (i := 3) scFriends.nd rfl (.inl rfl)) pgs_nil)))
        (fun _ _ _ _ _ => pts_one (pt_cmpR op_eq (pv 2) (pv 1) (nomark _))) (fun _ _ _ _ _ => pv 3)) pa_nil))), ?_⟩
      refine ⟨.ref r, rfl, r, rfl, ⟨_, hr0⟩, fun D nD => lc_it (walk_tup (xs := as.map V.ref)) (fun i H4 => H4 D = some (.lst ((sndOf b (qs.take i)).map V.str)) ∧ Same H H4) ?_ ?_ ?_ ?_⟩
      · exact ⟨upd_same, same_upd nD⟩
      · rintro i H4 hi ⟨hD, s4⟩
        exact sameT (s4) hr0
      · rintro i v H4 H5 hi ⟨hD, s4⟩ ⟨rfl, hv⟩
        rw [List.getElem?_map] at hv
        obtain ⟨a, ha, rfl⟩ := Option.map_eq_some_iff.mp hv
        have hil : i < qs.length := by
          rw [← hal]
          exact (List.getElem?_eq_some_iff.mp ha).1
        have hqi : qs[i]? = some qs[i] := List.getElem?_eq_getElem hil
        have hpa := hat i a _ ha hqi
        generalize qs[i] = q0 at *
        have hstep : sndOf b (qs.take (i + 1)) = sndOf b (qs.take i) ++ (if q0.1 = b then [q0.2] else []) := by
          rw [List.take_add_one, hqi]
          exact sndOf_snoc b (qs.take i) q0
        have hfew : (sndOf b (qs.take i)).length ≤ 400 := by
          have h1 := sndOf_len b (qs.take i)
          rw [List.length_take] at h1
          omega
        refine ⟨a, _, rfl, sameT (s4) hpa, rfl, _, _, rfl, _, _, rfl, rfl, rfl, ?_⟩
        refine ⟨.str q0.1, rfl, .str b, rfl, rfl, _, rfl, ite2 (fun e => ?_) (fun e => ?_)⟩
        · have e2 : q0.1 = b := V.str.inj (of_decide_eq_true e)
          refine ⟨.str q0.2, rfl, _, hD, by rw [List.length_map, sizeLine_eq]; omega, ?_, ?_⟩
          · rw [upd_same, hstep, if_pos e2, List.map_append]
            rfl
          · intro z o ez
            rw [upd_ne (ne_of_none ez nD)]
            exact s4 _ _ ez
        · have e2 : ¬ q0.1 = b := fun z => e (decide_eq_true (by rw [z]))
          refine ⟨?_, s4⟩
          rw [hD, hstep, if_neg e2, List.append_nil]
      · rintro H4 ⟨hD, s4⟩
        rw [List.length_map, hal, List.take_length] at hD
        refine ⟨D, _, rfl, .inl (.inl (.inl hD)), by have := sndOf_len b qs; omega, fun l nl => ?_⟩
        exact q _ l (s4.trans (same_upd nl)) (s4.free nl) upd_same
    · obtain ⟨as, hr0, hal, hat⟩ := hq
      refine ⟨_, pss_one (ps_ret (pe_callB (cr_srt hr.units) (by rfl) mS (by decide +kernel) (pa_cons (pe_lc (own := [("fan", 2), ("friend", 3)]) (g := gUnl K 2 (gCons (gName 2) (gCons (gName 3) gNil))) rfl scFriends.nd (pi_list (pv 0))
        (blkOk_by (N := ["ties", "book", "fan", "friend"]) (sc := defScope sFriends) (by decide +kernel)) (fun _ _ _ _ _ => pg_unl rfl (pgs_cons (pg_name (i := 2) scFriends.nd rfl (.inl rfl)) (pgs_cons (pg_name (i := 3) scFriends.nd rfl (.inl rfl)) pgs_nil)))
        (fun _ _ _ _ _ => pts_one (pt_cmpR op_eq (pv 2) (pv 1) (nomark _))) (fun _ _ _ _ _ => pv 3)) pa_nil))), ?_⟩
      refine ⟨.ref r, rfl, r, rfl, ⟨_, hr0⟩, fun D nD => lc_it (walk_list (xs := as.map V.ref)) (fun i H4 => H4 D = some (.lst ((sndOf b (qs.take i)).map V.str)) ∧ Same H H4) ?_ ?_ ?_ ?_⟩
      · exact ⟨upd_same, same_upd nD⟩
      · rintro i H4 hi ⟨hD, s4⟩
        exact (s4).seq hr0
      · rintro i v H4 H5 hi ⟨hD, s4⟩ ⟨rfl, hv⟩
        rw [List.getElem?_map] at hv
        obtain ⟨a, ha, rfl⟩ := Option.map_eq_some_iff.mp hv
        have hil : i < qs.length := by
          rw [← hal]
          exact (List.getElem?_eq_some_iff.mp ha).1
        have hqi : qs[i]? = some qs[i] := List.getElem?_eq_getElem hil
        have hpa := hat i a _ ha hqi
        generalize qs[i] = q0 at *
        have hstep : sndOf b (qs.take (i + 1)) = sndOf b (qs.take i) ++ (if q0.1 = b then [q0.2] else []) := by
          rw [List.take_add_one, hqi]
          exact sndOf_snoc b (qs.take i) q0
        have hfew : (sndOf b (qs.take i)).length ≤ 400 := by
          have h1 := sndOf_len b (qs.take i)
          rw [List.length_take] at h1
          omega
        refine ⟨a, _, rfl, (s4).seq hpa, rfl, _, _, rfl, _, _, rfl, rfl, rfl, ?_⟩
        refine ⟨.str q0.1, rfl, .str b, rfl, rfl, _, rfl, ite2 (fun e => ?_) (fun e => ?_)⟩
        · have e2 : q0.1 = b := V.str.inj (of_decide_eq_true e)
          refine ⟨.str q0.2, rfl, _, hD, by rw [List.length_map, sizeLine_eq]; omega, ?_, ?_⟩
          · rw [upd_same, hstep, if_pos e2, List.map_append]
            rfl
          · intro z o ez
            rw [upd_ne (ne_of_none ez nD)]
            exact s4 _ _ ez
        · have e2 : ¬ q0.1 = b := fun z => e (decide_eq_true (by rw [z]))
          refine ⟨?_, s4⟩
          rw [hD, hstep, if_neg e2, List.append_nil]
      · rintro H4 ⟨hD, s4⟩
        rw [List.length_map, hal, List.take_length] at hD
        refine ⟨D, _, rfl, .inl (.inl (.inl hD)), by have := sndOf_len b qs; omega, fun l nl => ?_⟩
        exact q _ l (s4.trans (same_upd nl)) (s4.free nl) upd_same
end HF
/-! heaps and ties as data -/
namespace HF
open PySem PySem.Spec PyProof.Rows L2
theorem pos_at {x : Str} : ∀ {zs : List Str} {i : Nat}, zs.Nodup → zs[i]? = some x → pos x zs = i
  | z :: r, 0, _, h => by
    have e : z = x := Option.some.inj h
    unfold pos
    rw [if_pos e]
  | z :: r, i + 1, nd, h => by
    have h' : r[i]? = some x := h
    obtain ⟨n1, n2⟩ := List.nodup_cons.mp nd
    have e : z ≠ x := fun e => n1 (e ▸ List.mem_of_getElem? h')
    unfold pos
    rw [if_neg e, pos_at n2 h']
abbrev dRow (p : Addr × List Str) : PyData := .tuple (p.2.map PyData.str)
abbrev dTies (L : SL) : PyData := .tuple (L.map dRow)
theorem dp_rows {K : PySem.W.Frag} {zs : List Str} {H : Hp} : ∀ {L : SL}, Prs zs H L → DpAll K H (rf L) (L.map dRow)
  | [], _ => .nil
  | p :: r, h => .cons (.tup (.inl (.inl (h p List.mem_cons_self).1)) (dp_strs _)) (dp_rows fun q hq => h q (List.mem_cons_of_mem _ hq))
theorem Ties.dp {K : PySem.W.Frag} {zs : List Str} {H : Hp} {r : Addr} {L : SL} (h : Ties zs H r L) : Dp K H (.ref r) (dTies L) := .tup h.1.sq (dp_rows h.2.1)
theorem show_rows : ∀ L : SL, PyData.showableAll (L.map dRow) = true
  | [] => rfl
  | p :: r => by
    show (PyData.showableAll (p.2.map PyData.str) && PyData.showableAll (r.map dRow)) = true
    rw [show_strs, show_rows r]
    rfl
theorem nodict_rows : ∀ L : SL, PyData.hasDictAll (L.map dRow) = false
  | [] => rfl
  | p :: r => by
    show (PyData.hasDictAll (p.2.map PyData.str) || PyData.hasDictAll (r.map dRow)) = false
    rw [nodict_strs, nodict_rows r]
    rfl
theorem ints_rows (B : Nat) : ∀ L : SL, PyData.intsShortAll B (L.map dRow) = true
  | [] => rfl
  | p :: r => by
    show (PyData.intsShortAll B (p.2.map PyData.str) && PyData.intsShortAll B (r.map dRow)) = true
    rw [ints_strs, ints_rows B r]
    rfl
theorem depth_rows : ∀ L : SL, PyData.depthAll (L.map dRow) ≤ 1
  | [] => Nat.zero_le _
  | p :: r => by
    show max (PyData.depthAll (p.2.map PyData.str) + 1) (PyData.depthAll (r.map dRow)) ≤ 1
    rw [depth_strs]
    have := depth_rows r
    omega
theorem OkP.nm {zs : List Str} {p : Addr × List Str} (h : OkP zs p) (hn : ∀ z ∈ zs, Nm z) : ∀ z ∈ p.2, Nm z := by
  obtain ⟨x, y, e, hx, hy, _⟩ := h
  rw [e]
  intro z hz
  rcases List.mem_cons.mp hz with h1 | h1
  · rw [h1]; exact hn _ hx
  · rw [List.mem_singleton.mp h1]; exact hn _ hy
theorem lay_rows {zs : List Str} (hn : ∀ z ∈ zs, Nm z) : ∀ {L : SL}, (∀ p ∈ L, OkP zs p) → PyData.canLayAll0 (L.map dRow) = true
  | [], _ => rfl
  | p :: r, h => by
    show (PyData.canLayAll0 (p.2.map PyData.str) && PyData.canLayAll0 (r.map dRow)) = true
    rw [canLay_strs ((h p List.mem_cons_self).nm hn), lay_rows hn fun q hq => h q (List.mem_cons_of_mem _ hq)]
    rfl
theorem weight_rows {zs : List Str} (hn : ∀ z ∈ zs, Nm z) : ∀ {L : SL}, (∀ p ∈ L, OkP zs p) → PyData.weightAll (L.map dRow) ≤ 15 * L.length
  | [], _ => Nat.le_refl _
  | p :: r, h => by
    have ih := weight_rows hn (L := r) fun q hq => h q (List.mem_cons_of_mem _ hq)
    have h1 := weight_strs ((h p List.mem_cons_self).nm hn)
    obtain ⟨x, y, e, _⟩ := h p List.mem_cons_self
    have hl : p.2.length = 2 := by rw [e]; rfl
    show PyData.weightAll (p.2.map PyData.str) + 1 + PyData.weightAll (r.map dRow) ≤ 15 * (r.length + 1)
    omega
/-- [heap, ties] -/
abbrev dHT (xs : List Str) (L : SL) : PyData := .list [.tuple (xs.map PyData.str), dTies L]
theorem ht_show (xs : List Str) (L : SL) : (dHT xs L).showable = true := by
  show (PyData.showableAll (xs.map PyData.str) && (PyData.showableAll (L.map dRow) && true)) = true
  rw [show_strs, show_rows]
  rfl
theorem ht_nodict (xs : List Str) (L : SL) : (dHT xs L).hasDict = false := by
  show (PyData.hasDictAll (xs.map PyData.str) || (PyData.hasDictAll (L.map dRow) || false)) = false
  rw [nodict_strs, nodict_rows]
  rfl
theorem ht_depth (xs : List Str) (L : SL) : (dHT xs L).depth < 60 := by
  show max (PyData.depthAll (xs.map PyData.str) + 1) (max (PyData.depthAll (L.map dRow) + 1) 0) + 1 < 60
  rw [depth_strs]
  have := depth_rows L
  omega
theorem ht_fits {xs zs : List Str} {L : SL} (hx : ∀ z ∈ xs, Nm z) (hn : ∀ z ∈ zs, Nm z) (hL : ∀ p ∈ L, OkP zs p) (lx : xs.length ≤ 1000) (ly : L.length ≤ 1000) : (dHT xs L).shown.length ≤ sizeLine := by
  refine PyData.shown_fits (B := 13) (by decide) (by decide) (PyData.leavesShort_of_canLay0 13 _ ?_ ?_) ?_
  · show (PyData.canLayAll0 (xs.map PyData.str) && (PyData.canLayAll0 (L.map dRow) && true)) = true
    rw [canLay_strs hx, lay_rows hn hL]
    rfl
  · show (PyData.intsShortAll 13 (xs.map PyData.str) && (PyData.intsShortAll 13 (L.map dRow) && true)) = true
    rw [ints_strs, ints_rows]
    rfl
  · show PyData.weightAll (xs.map PyData.str) + 1 + (PyData.weightAll (L.map dRow) + 1 + 0) ≤ 2 ^ 20
    have h1 := weight_strs hx
    have h2 := weight_rows hn hL
    omega
/-! few pairs -/
theorem len_sub {α : Type} [BEq α] [LawfulBEq α] : ∀ {l m : List α}, l.Nodup → l ⊆ m → l.length ≤ m.length
  | [], _, _, _ => Nat.zero_le _
  | x :: r, m, nd, h => by
    obtain ⟨n1, n2⟩ := List.nodup_cons.mp nd
    have hx : x ∈ m := h List.mem_cons_self
    have ih := len_sub (m := m.erase x) n2 fun y hy => (List.mem_erase_of_ne (fun (e : y = x) => n1 (e ▸ hy))).mpr (h (List.mem_cons_of_mem _ hy))
    rw [List.length_erase_of_mem hx] at ih
    have := List.length_pos_of_mem hx
    rw [List.length_cons]
    omega
theorem sub_len {zs : List Str} {L : SL} (h : ∀ p ∈ L, OkP zs p) (nd : (L.map (·.2)).Nodup) : L.length ≤ zs.length * zs.length := by
  have hs : (L.map (·.2)) ⊆ (zs.flatMap fun x => zs.map fun y => [x, y]) := by
    intro a ha
    obtain ⟨p, hp, rfl⟩ := List.mem_map.mp ha
    obtain ⟨x, y, e, hx, hy, _⟩ := h p hp
    rw [e]
    exact List.mem_flatMap.mpr ⟨x, hx, List.mem_map.mpr ⟨y, hy, rfl⟩⟩
  have := len_sub nd hs
  rw [List.length_map] at this
  refine Nat.le_trans this ?_
  have hl : ∀ ys : List Str, (ys.flatMap fun x => zs.map fun y => [x, y]).length = ys.length * zs.length := by
    intro ys
    induction ys with
    | nil => simp
    | cons y r ih =>
      rw [List.flatMap_cons, List.length_append, ih, List.length_map, List.length_cons, Nat.succ_mul, Nat.add_comm]
  rw [hl]
  exact Nat.le_refl _
/-! lists for tuples -/
theorem nw_strs {H H' : Hp} : ∀ {zs : List Str} {vs : List V}, NwAll H H' vs (lsAll (zs.map PyData.str)) → vs = zs.map V.str
  | [], _, .nil => rfl
  | z :: r, _, .cons h t => by
    have e := nw_strs t
    have h1 : Nw H H' _ (PyData.str z) := h
    cases h1
    rw [e]
    rfl
theorem nw_rows {H H' : Hp} : ∀ {L : SL} {vs : List V}, NwAll H H' vs (lsAll (L.map dRow)) → ∃ as : List Addr, vs = as.map V.ref ∧ as.length = L.length ∧ ∀ (i : Nat) (a : Addr) (p : Addr × List Str), as[i]? = some a → L[i]? = some p → H' a = some (.lst (p.2.map V.str))
  | [], _, .nil => ⟨[], rfl, rfl, fun i a p h => by simp at h⟩
  | p :: r, _, .cons h t => by
    obtain ⟨as, e, hl, hat⟩ := nw_rows t
    have h1 : Nw H H' _ (PyData.list (lsAll (p.2.map PyData.str))) := h
    obtain ⟨n1, n2, n3⟩ := h1
    rename_i a xs n1 n2 n3
    have ex := nw_strs n3
    subst ex
    refine ⟨a :: as, by rw [e]; rfl, by rw [List.length_cons, List.length_cons, hl], fun i b q hb hq => ?_⟩
    cases i with
    | zero =>
      cases (show some a = some b from hb)
      cases (show some p = some q from hq)
      exact n2
    | succ i => exact hat i b q hb hq
theorem nw_pq {K : PySem.W.Frag} {zs : List Str} {H H' : Hp} {y : V} {L : SL} (h : Nw H H' y (lsD (dTies L))) (hL : ∀ p ∈ L, OkP zs p) : ∃ r, y = .ref r ∧ H r = none ∧ PqL K H' r (L.map prOf) := by
  have h1 : Nw H H' y (PyData.list (lsAll (L.map dRow))) := h
  cases h1 with
  | lst n1 n2 n3 =>
    obtain ⟨as, e, hl, hat⟩ := nw_rows n3
    subst e
    refine ⟨_, rfl, n1, as, .inl (.inl n2), by rw [hl, List.length_map], fun i a q e1 e2 => ?_⟩
    rw [List.getElem?_map] at e2
    obtain ⟨p, hp, rfl⟩ := Option.map_eq_some_iff.mp e2
    have g1 := hat i a p e1 hp
    obtain ⟨x, y, e, _⟩ := hL p (List.mem_of_getElem? hp)
    have ep : prOf p = (x, y) := by
      unfold prOf
      rw [e]
    rw [e] at g1
    rw [ep]
    exact .inl (.inl g1)
theorem PqL.same {K : PySem.W.Frag} {H H' : Hp} {r : Addr} {qs : List (Str × Str)} (h : PqL K H r qs) (sm : Same H H') : PqL K H' r qs := by
  obtain ⟨as, h1, h2, h3⟩ := h
  exact ⟨as, sm.seq h1, h2, fun i a q e1 e2 => sm.seq (h3 i a q e1 e2)⟩
theorem wide_strs : ∀ zs : List Str, wideAll (zs.map PyData.str) = 0
  | [] => rfl
  | z :: r => by
    show max 0 (wideAll (r.map PyData.str)) = 0
    rw [wide_strs r]
    rfl
theorem wide_rows {zs : List Str} : ∀ {L : SL}, (∀ p ∈ L, OkP zs p) → wideAll (L.map dRow) ≤ 2
  | [], _ => Nat.zero_le _
  | p :: r, h => by
    have ih := wide_rows (L := r) fun q hq => h q (List.mem_cons_of_mem _ hq)
    obtain ⟨x, y, e, _⟩ := h p List.mem_cons_self
    show max (max (p.2.map PyData.str).length (wideAll (p.2.map PyData.str))) (wideAll (r.map dRow)) ≤ 2
    rw [wide_strs, List.length_map, e]
    have : [x, y].length = 2 := rfl
    omega
/-- two lists of texts -/
abbrev dLL (xs ys : List Str) : PyData := .list [.list (xs.map PyData.str), .list (ys.map PyData.str)]
theorem ll_lay {xs ys : List Str} (hx : ∀ z ∈ xs, Nm z) (hy : ∀ z ∈ ys, Nm z) : (dLL xs ys).canLay0 = true := by
  show (PyData.canLayAll0 (xs.map PyData.str) && (PyData.canLayAll0 (ys.map PyData.str) && true)) = true
  rw [canLay_strs hx, canLay_strs hy]
  rfl
theorem ll_depth (xs ys : List Str) : (dLL xs ys).depth = 2 := by
  show max (PyData.depthAll (xs.map PyData.str) + 1) (max (PyData.depthAll (ys.map PyData.str) + 1) 0) + 1 = 2
  rw [depth_strs, depth_strs]
  rfl
theorem ll_wide {xs ys : List Str} (hx : xs.length ≤ 1000) (hy : ys.length ≤ 1000) : wide (dLL xs ys) ≤ 100000 := by
  show max 2 (max (max (xs.map PyData.str).length (wideAll (xs.map PyData.str))) (max (max (ys.map PyData.str).length (wideAll (ys.map PyData.str))) 0)) ≤ 100000
  rw [wide_strs, wide_strs, List.length_map, List.length_map]
  omega
theorem ties_depth (L : SL) : (dTies L).depth ≤ 2 := by
  show PyData.depthAll (L.map dRow) + 1 ≤ 2
  have := depth_rows L
  omega
theorem ties_wide {zs : List Str} {L : SL} (h : ∀ p ∈ L, OkP zs p) (hl : L.length ≤ 1000) : wide (dTies L) ≤ 100000 := by
  show max (L.map dRow).length (wideAll (L.map dRow)) ≤ 100000
  have := wide_rows h
  rw [List.length_map]
  omega
/-! who is picked -/
theorem snd_nm {zs : List Str} {L : SL} (h : ∀ p ∈ L, OkP zs p) (hn : ∀ z ∈ zs, Nm z) {b : Str} : ∀ z ∈ srt (sndOf b (L.map prOf)), Nm z := by
  intro z hz
  have h1 : z ∈ sndOf b (L.map prOf) := (srt_perm _).mem_iff.mp hz
  unfold sndOf at h1
  obtain ⟨q, hq, rfl⟩ := List.mem_map.mp h1
  obtain ⟨p, hp, rfl⟩ := List.mem_map.mp (List.mem_filter.mp hq).1
  obtain ⟨x, y, e, hx, hy, _⟩ := h p hp
  unfold prOf
  rw [e]
  exact hn _ hy
theorem fst_nm {zs : List Str} {L : SL} (h : ∀ p ∈ L, OkP zs p) (hn : ∀ z ∈ zs, Nm z) {b : Str} : ∀ z ∈ srt (fstOf b (L.map prOf)), Nm z := by
  intro z hz
  have h1 : z ∈ fstOf b (L.map prOf) := (srt_perm _).mem_iff.mp hz
  unfold fstOf at h1
  obtain ⟨q, hq, rfl⟩ := List.mem_map.mp h1
  obtain ⟨p, hp, rfl⟩ := List.mem_map.mp (List.mem_filter.mp hq).1
  obtain ⟨x, y, e, hx, hy, _⟩ := h p hp
  unfold prOf
  rw [e]
  exact hn _ hx
end HF
/-! goings: rules for tuples, what goings are, as functions of lists of texts -/
namespace HF
open PySem PySem.Spec PyProof.Rows L2
section
variable {X : Cx}
/-- a tuple written out, its object known -/
def tTupF (t : TA) : TE := fun σ H Q => t σ H fun xs H1 => xs.length ≤ sizeLine ∧ ∀ l ob, H1 l = none → ob.cls = .type "tuple" → ob.dict = none → Q (.ref l) (upd H1 l (.frz ob (.tup xs)))
theorem pe_tupF {es : List Expr} {x1 : Nat} {pos : Pos} {t : TA} (h : PA X es t) : PE X (.Tuple es x1 pos) (tTupF t) := by
  refine ⟨fun pins s σ H Q I hq => wpAny_Tuple_spliced (thn (h.run pos pins s σ H _ I hq) ?_)⟩
  rintro us s1 ⟨xs, H1, J, rel, z, q⟩
  refine ⟨by rw [← rel.length]; exact z, ?_⟩
  exact ⟨.ref s1.heap.objs.size, _, J.laid (t' := s1.toks) (o := .frz { cls := .type "tuple", data := .seq us.toArray } (.tup xs)) (fun b u e => Heap.get?_push_of_some _ e) (Nat.le_refl _) ⟨Heap.get?_push_size _ rfl, z, us, rel, ⟨_, Heap.get?_push_size _ rfl, rfl, _, rfl⟩⟩, rfl, q _ _ (J.hok.fresh (Nat.le_refl _)) rfl rfl⟩
/-- t + u, t not bare -/
def rCatF (K : PySem.W.Frag) : R2 := fun x y H Q => ∃ a b xs ys, x = .ref a ∧ y = .ref b ∧ SqT K H a xs ∧ SqT K H b ys ∧ xs ≠ [] ∧ xs.length + ys.length ≤ sizeLine ∧
  (ys = [] → Q (.ref a) H) ∧ (ys ≠ [] → ∀ l ob, H l = none → ob.cls = .type "tuple" → ob.dict = none → Q (.ref l) (upd H l (.frz ob (.tup (xs ++ ys)))))
theorem op_catF : OpR X (binaryOp .Add) (rCatF X.K) := by
  intro pins s σ H x y v u Q I rx ry hyp
  obtain ⟨a, b, xs, ys, rfl, rfl, ha, hb, hx, hz, q1, q2⟩ := hyp
  cases rx
  cases ry
  obtain ⟨its, r1, p1, _⟩ := I.tuple ha
  obtain ⟨its2, r2, p2, _⟩ := I.tuple hb
  refine HT.cat_tup p1 p2 (fun z => hx (r1.nil_iff.mp z)) (fun z => ⟨.ref a, H, I, rfl, q1 (r2.nil_iff.mp z)⟩) (fun z => ?_) (by rw [← r1.length, ← r2.length]; exact hz)
  exact ⟨.ref s.heap.objs.size, _, I.laid (t' := s.toks) (o := .frz { cls := .type "tuple", data := .seq (its ++ its2).toArray } (.tup (xs ++ ys))) (fun b ob q => Heap.get?_push_of_some _ q) (Nat.le_refl _) ⟨Heap.get?_push_size _ rfl, by rw [List.length_append]; exact hz, _, r1.append r2, IsTup.new _ _⟩, rfl, q2 (fun w => z (r2.nil_iff.mpr w)) _ _ (I.hok.fresh (Nat.le_refl _)) rfl rfl⟩
end
/-! ### places -/
theorem pos_le (x : Str) : ∀ zs : List Str, pos x zs ≤ zs.length
  | [] => Nat.le_refl _
  | z :: r => by
    unfold pos
    have := pos_le x r
    by_cases e : z = x
    · rw [if_pos e]; exact Nat.zero_le _
    · rw [if_neg e, List.length_cons]; omega
theorem pos_lt {x : Str} : ∀ {zs : List Str}, x ∈ zs → pos x zs < zs.length
  | z :: r, h => by
    unfold pos
    by_cases e : z = x
    · rw [if_pos e, List.length_cons]; omega
    · rw [if_neg e, List.length_cons]
      have := pos_lt ((List.mem_cons.mp h).resolve_left fun q => e q.symm)
      omega
theorem pos_out {x : Str} : ∀ {zs : List Str}, x ∉ zs → pos x zs = zs.length
  | [], _ => rfl
  | z :: r, h => by
    unfold pos
    rw [if_neg (fun (e : z = x) => h (e ▸ List.mem_cons_self)), pos_out fun q => h (List.mem_cons_of_mem _ q), List.length_cons]
theorem mem_take_pos {x : Str} : ∀ {zs : List Str} {n : Nat}, n ≤ zs.length → (x ∈ zs.take n ↔ pos x zs < n)
  | zs, 0, _ => by simp
  | [], n + 1, h => by simp at h
  | z :: r, n + 1, h => by
    rw [List.take_succ_cons, List.mem_cons]
    unfold pos
    by_cases e : z = x
    · rw [if_pos e]
      exact ⟨fun _ => Nat.zero_lt_succ _, fun _ => .inl e.symm⟩
    · rw [if_neg e]
      have := mem_take_pos (x := x) (zs := r) (n := n) (by rw [List.length_cons] at h; omega)
      constructor
      · rintro (q | q)
        · exact absurd q.symm e
        · have := this.mp q
          omega
      · intro q
        exact .inr (this.mpr (by omega))
/-! ### goings -/
def onTop (b : Str) (zs : List Str) : List Str := b :: zs.filter fun z => decide (z ≠ b)
def lets (qs : List (Str × Str)) (zs : List Str) (b : Str) : Bool := (sndOf b qs).all fun f => decide ((pos f zs : Int) < (pos b zs : Int))
def lefts (zs : List Str) (row : List Str) : List Str := row.foldl (fun z b => onTop b z) zs
def refAt (qs : List (Str × Str)) : List Str → List Str → Option Nat
  | _, [] => none
  | zs, b :: r => if lets qs zs b = true then (refAt qs (onTop b zs) r).map (· + 1) else some 0
theorem onTop_perm {b : Str} : ∀ {zs : List Str}, zs.Nodup → b ∈ zs → (onTop b zs).Perm zs
  | z :: r, nd, h => by
    obtain ⟨n1, n2⟩ := List.nodup_cons.mp nd
    unfold onTop
    by_cases e : z = b
    · subst e
      rw [List.filter_cons_of_neg (by simp)]
      have : r.filter (fun x => decide (x ≠ z)) = r := List.filter_eq_self.mpr fun x hx => decide_eq_true fun q => n1 (q ▸ hx)
      rw [this]
    · rw [List.filter_cons_of_pos (by simp [e])]
      have ih := onTop_perm n2 ((List.mem_cons.mp h).resolve_left fun q => e q.symm)
      exact (List.Perm.swap z b _).trans (ih.cons z)
theorem onTop_len {b : Str} {zs : List Str} (nd : zs.Nodup) (h : b ∈ zs) : (onTop b zs).length = zs.length := (onTop_perm nd h).length_eq
theorem lefts_perm : ∀ {row zs : List Str}, zs.Nodup → (∀ b ∈ row, b ∈ zs) → (lefts zs row).Perm zs
  | [], zs, _, _ => .refl _
  | b :: r, zs, nd, h => by
    have hp := onTop_perm nd (h b List.mem_cons_self)
    exact (lefts_perm (row := r) (hp.nodup_iff.mpr nd) fun x hx => hp.mem_iff.mpr (h x (List.mem_cons_of_mem _ hx))).trans hp
theorem lefts_app (zs a b : List Str) : lefts zs (a ++ b) = lefts (lefts zs a) b := List.foldl_append ..
theorem refAt_app (qs : List (Str × Str)) : ∀ (a zs b : List Str), refAt qs zs (a ++ b) = match refAt qs zs a with
    | some i => some i
    | none => (refAt qs (lefts zs a) b).map (· + a.length)
  | [], zs, b => by
    show refAt qs zs b = (refAt qs zs b).map (· + 0)
    simp
  | x :: a, zs, b => by
    show (if lets qs zs x = true then (refAt qs (onTop x zs) (a ++ b)).map (· + 1) else some 0) = _
    rw [refAt_app qs a (onTop x zs) b]
    show _ = match (if lets qs zs x = true then (refAt qs (onTop x zs) a).map (· + 1) else some 0) with
      | some i => some i
      | none => (refAt qs (lefts (onTop x zs) a) b).map (· + (a.length + 1))
    by_cases e : lets qs zs x = true
    · rw [if_pos e, if_pos e]
      cases refAt qs (onTop x zs) a with
      | some i => rfl
      | none =>
        show Option.map (· + 1) (Option.map (· + a.length) _) = _
        rw [Option.map_map]
        rfl
    · rw [if_neg e, if_neg e]
/-- the lowest may always go -/
theorem low_lets {qs : List (Str × Str)} {zs : List Str} (nd : zs.Nodup) (hq : ∀ q ∈ qs, q.2 ∈ zs ∧ q.1 ≠ q.2) (ne : zs ≠ []) : ∃ b ∈ zs, lets qs zs b = true := by
  refine ⟨zs.getLast ne, List.getLast_mem ne, ?_⟩
  have hl : zs[zs.length - 1]? = some (zs.getLast ne) := by
    rw [← List.getLast?_eq_getElem?]
    exact List.getLast?_eq_some_getLast ne
  have hp := pos_at nd hl
  unfold lets
  rw [List.all_eq_true]
  intro f hf
  unfold sndOf at hf
  obtain ⟨q, hq1, rfl⟩ := List.mem_map.mp hf
  obtain ⟨h1, h2⟩ := List.mem_filter.mp hq1
  have e1 : q.1 = zs.getLast ne := of_decide_eq_true h2
  have hne : pos q.2 zs ≠ pos (zs.getLast ne) zs := fun e => (hq q h1).2 (e1.trans (pos_inj (hq q h1).1 (List.getLast_mem ne) e).symm)
  have := pos_lt (hq q h1).1
  exact decide_eq_true (by omega)
/-! ### by last goings -/
def ded : List Str → List Str
  | [] => []
  | y :: r => y :: (ded r).filter fun x => decide (x ≠ y)
def dedG (acc ys : List Str) : List Str := ys.foldl (fun a y => if y ∈ a then a else a ++ [y]) acc
theorem dedG_eq : ∀ (ys acc : List Str), dedG acc ys = acc ++ (ded ys).filter fun x => decide (x ∉ acc)
  | [], acc => by simp [dedG, ded]
  | y :: r, acc => by
    show dedG (if y ∈ acc then acc else acc ++ [y]) r = _
    rw [dedG_eq r, show ded (y :: r) = y :: (ded r).filter (fun x => decide (x ≠ y)) from rfl]
    by_cases e : y ∈ acc
    · rw [if_pos e, List.filter_cons_of_neg (by simp [e]), List.filter_filter]
      congr 1
      refine List.filter_congr fun x _ => ?_
      by_cases h : x ∈ acc
      · simp [h]
      · have : x ≠ y := fun q => h (q ▸ e)
        simp [h, this]
    · rw [if_neg e, List.filter_cons_of_pos (by simp [e]), List.filter_filter, List.append_assoc]
      congr 1
      rw [List.singleton_append]
      congr 1
      refine List.filter_congr fun x _ => ?_
      by_cases h : x ∈ acc
      · simp [h]
      · by_cases h2 : x = y
        · simp [h2]
        · simp [h, h2]
theorem dedG_nil (ys : List Str) : dedG [] ys = ded ys := by
  rw [dedG_eq, List.nil_append]
  exact List.filter_eq_self.mpr fun x _ => by simp
theorem ded_mem {x : Str} : ∀ {ys : List Str}, x ∈ ded ys ↔ x ∈ ys
  | [] => Iff.rfl
  | y :: r => by
    show x ∈ y :: (ded r).filter (fun x => decide (x ≠ y)) ↔ _
    rw [List.mem_cons, List.mem_cons, List.mem_filter, ded_mem (ys := r)]
    by_cases e : x = y
    · simp [e]
    · simp [e]
def byLast (zs steps : List Str) : List Str := ded steps.reverse ++ zs.filter fun z => decide (z ∉ ded steps.reverse)
theorem byLast_eq {zs : List Str} : ∀ (n : Nat) (steps : List Str), steps.length = n → lefts zs steps = byLast zs steps
  | 0, steps, h => by
    have : steps = [] := List.length_eq_zero_iff.mp h
    subst this
    show zs = [] ++ zs.filter _
    rw [List.nil_append]
    exact (List.filter_eq_self.mpr fun x _ => by simp [ded]).symm
  | n + 1, steps, h => by
    obtain ⟨s, b, rfl⟩ : ∃ s b, steps = s ++ [b] := by
      have hne : steps ≠ [] := fun e => by rw [e] at h; simp at h
      exact ⟨steps.dropLast, steps.getLast hne, (List.dropLast_concat_getLast hne).symm⟩
    rw [List.length_append] at h
    have ih := byLast_eq (zs := zs) n s (by simpa using h)
    rw [lefts_app, ih]
    show onTop b (byLast zs s) = _
    unfold onTop byLast
    rw [List.reverse_append]
    show b :: List.filter _ (ded s.reverse ++ _) = (b :: (ded s.reverse).filter _) ++ _
    rw [List.filter_append, List.cons_append, List.filter_filter]
    congr 2
    refine List.filter_congr fun x _ => ?_
    show _ = decide (x ∉ b :: (ded s.reverse).filter _)
    by_cases e1 : x = b
    · simp [e1]
    · by_cases e2 : x ∈ ded s.reverse
      · simp [e1, e2]
      · simp [e1, e2]
theorem lefts_last (zs steps : List Str) : lefts zs steps = byLast zs steps := byLast_eq _ steps rfl
theorem last_again (zs steps : List Str) : lefts (byLast zs steps) steps = byLast zs steps := by
  rw [lefts_last]
  show ded steps.reverse ++ (ded steps.reverse ++ zs.filter fun z => decide (z ∉ ded steps.reverse)).filter _ = ded steps.reverse ++ _
  congr 1
  rw [List.filter_append, List.filter_filter]
  have : (ded steps.reverse).filter (fun z => decide (z ∉ ded steps.reverse)) = [] := List.filter_eq_nil_iff.mpr fun x hx => by simp [hx]
  rw [this, List.nil_append]
  refine List.filter_congr fun x _ => ?_
  simp
theorem ded_rise : ∀ R : List Str, (ded R).Pairwise fun x y => pos x R < pos y R
  | [] => .nil
  | y :: r => by
    refine List.Pairwise.cons (fun x hx => ?_) ?_
    · have hx2 : x ≠ y := of_decide_eq_true (List.mem_filter.mp hx).2
      unfold pos
      rw [if_pos rfl, if_neg hx2.symm]
      exact Nat.zero_lt_succ _
    · refine ((ded_rise r).filter _).imp_of_mem fun {u v} hu hv h => ?_
      have h1 : u ≠ y := of_decide_eq_true (List.mem_filter.mp hu).2
      have h2 : v ≠ y := of_decide_eq_true (List.mem_filter.mp hv).2
      unfold pos
      rw [if_neg h1.symm, if_neg h2.symm]
      exact Nat.succ_lt_succ h
theorem nodup_rise {zs : List Str} (nd : zs.Nodup) : zs.Pairwise fun x y => pos x zs < pos y zs := by
  rw [List.pairwise_iff_getElem]
  intro i j hi hj hij
  rw [pos_at nd (List.getElem?_eq_getElem hi), pos_at nd (List.getElem?_eq_getElem hj)]
  exact hij
/-- of each two the upper one went later, or neither went and it lay above -/
def Later (zs steps : List Str) (x y : Str) : Prop := pos x steps.reverse < pos y steps.reverse ∨ (pos x steps.reverse = steps.length ∧ pos y steps.reverse = steps.length ∧ pos x zs < pos y zs)
theorem last_rise {zs : List Str} (nd : zs.Nodup) (steps : List Str) : (byLast zs steps).Pairwise (Later zs steps) := by
  unfold byLast
  rw [List.pairwise_append]
  refine ⟨(ded_rise _).imp fun h => .inl h, ((nodup_rise nd).filter _).imp_of_mem fun {u v} hu hv h => .inr ⟨?_, ?_, h⟩, fun u hu v hv => .inl ?_⟩
  · have h1 : u ∉ ded steps.reverse := of_decide_eq_true (List.mem_filter.mp hu).2
    rw [pos_out fun q => h1 (ded_mem.mpr q), List.length_reverse]
  · have h1 : v ∉ ded steps.reverse := of_decide_eq_true (List.mem_filter.mp hv).2
    rw [pos_out fun q => h1 (ded_mem.mpr q), List.length_reverse]
  · have h1 : v ∉ ded steps.reverse := of_decide_eq_true (List.mem_filter.mp hv).2
    rw [pos_out (x := v) fun q => h1 (ded_mem.mpr q)]
    exact pos_lt (ded_mem.mp hu)
theorem pw_next {α : Type} {R : α → α → Prop} : ∀ {l : List α} {i : Nat} {x y : α}, l.Pairwise R → l[i]? = some x → l[i + 1]? = some y → R x y
  | a :: b :: r, 0, x, y, h, h1, h2 => by
    cases (show some a = some x from h1)
    cases (show some b = some y from h2)
    exact (List.pairwise_cons.mp h).1 _ List.mem_cons_self
  | a :: r, i + 1, x, y, h, h1, h2 => pw_next (List.pairwise_cons.mp h).2 (show r[i]? = some x from h1) (show r[i + 1]? = some y from h2)
end HF
/-! promises of the functions about goings -/
namespace HF
open PySem PySem.Spec PyProof.Rows L2
variable (K : PySem.W.Frag)
def spPk : Sp := fun vs H Q _ => ∃ (p a : Addr) (c : Int) (xs : List V), vs = [.ref p, .ref a] ∧ Bx H p c ∧ c < 2 ^ 39 ∧ SqL K H a xs ∧ a ≠ p ∧ 0 < xs.length ∧ xs.length ≤ 1000 ∧
  ∀ (i : Nat) (v : V) (c' : Int) (o : HO), xs[i]? = some v → c ≤ c' → c' ≤ c + 1 → Bx (upd H p o) p c' → Q v (upd H p o)
def spPickU (g : Str → List (Str × Str) → List Str) : Sp := fun vs H Q _ => ∃ (r : Addr) (b : Str) (qs : List (Str × Str)), vs = [.ref r, .str b] ∧ PqT K H r qs ∧ qs.length ≤ 400 ∧
  ∀ (H' : Hp) (l : Addr), Same H H' → H l = none → H' l = some (.lst ((g b qs).map V.str)) → Q (.ref l) H'
def spLet : Sp := fun vs H Q _ => ∃ (h r : Addr) (b : Str) (zs : List Str) (qs : List (Str × Str)), vs = [.ref h, .ref r, .str b] ∧ Hq K H h zs ∧ PqT K H r qs ∧ b ∈ zs ∧ (∀ q ∈ qs, q.2 ∈ zs) ∧ qs.length ≤ 400 ∧
  ∀ H' : Hp, Same H H' → Q (.bl (lets qs zs b)) H'
def spTop : Sp := fun vs H Q _ => ∃ (h : Addr) (b : Str) (zs : List Str), vs = [.ref h, .str b] ∧ Hq K H h zs ∧ zs.length ≤ 1000 ∧
  ∀ (H' : Hp) (t : Addr), Same H H' → H t = none → Tp H' t ((onTop b zs).map V.str) → Q (.ref t) H'
def spMay : Sp := fun vs H Q _ => ∃ (h r : Addr) (zs : List Str) (qs : List (Str × Str)), vs = [.ref h, .ref r] ∧ Hq K H h zs ∧ PqT K H r qs ∧ (∀ q ∈ qs, q.2 ∈ zs) ∧ zs.length ≤ 1000 ∧ qs.length ≤ 400 ∧
  ∀ (H' : Hp) (l : Addr), Same H H' → H l = none → H' l = some (.lst (((srt zs).filter (lets qs zs)).map V.str)) → Q (.ref l) H'
def spRun : Sp := fun vs H Q _ => ∃ (p h r : Addr) (n : Nat) (c : Int) (zs : List Str) (L : SL), vs = [.ref p, .ref h, .ref r, .int n] ∧ Bx H p c ∧ c < 2 ^ 38 ∧ n ≤ 1000 ∧ Tp H h (zs.map V.str) ∧ zs.Nodup ∧ zs ≠ [] ∧ zs.length ≤ 12 ∧ Ties zs H r L ∧
  ∀ (H' : Hp) (t l s : Addr) (steps : List Str) (c' : Int), Oth p H H' → H t = none → H l = none → H' t = some (.tup [.ref l, .ref s]) → H' l = some (.lst (steps.map V.str)) → Tp H' s ((lefts zs steps).map V.str) → steps.length = n → (∀ b ∈ steps, b ∈ zs) → refAt (L.map prOf) zs steps = none → Bx H' p c' → c ≤ c' → c' ≤ c + n → Q (.ref t) H'
/-- the program's -/
def spAbv : Sp := fun vs H Q _ => ∃ (h a : Addr) (b : Str) (zs fs : List Str), vs = [.ref h, .ref a, .str b] ∧ Hq K H h zs ∧ SqL K H a (fs.map V.str) ∧ b ∈ zs ∧ fs.length ≤ 400 ∧
  ∀ H' : Hp, Same H H' → Q (.bl (fs.all fun f => decide ((pos f zs : Int) < (pos b zs : Int)))) H'
def PqA (H : Hp) (r : Addr) (qs : List (Str × Str)) : Prop := PqT K H r qs ∨ PqL K H r qs
def spLaid : Sp := fun vs H Q _ => ∃ (h r : Addr) (b : Str) (zs : List Str) (qs : List (Str × Str)), vs = [.ref h, .ref r, .str b] ∧ Hq K H h zs ∧ PqA K H r qs ∧ b ∈ zs ∧ lets qs zs b = true ∧ zs.length ≤ 1000 ∧ qs.length ≤ 400 ∧
  ∀ (H' : Hp) (t : Addr), Same H H' → H t = none → Tp H' t ((onTop b zs).map V.str) → Q (.ref t) H'
def spDone : Sp := fun vs H Q _ => ∃ (h r a : Addr) (zs row : List Str) (qs : List (Str × Str)), vs = [.ref h, .ref r, .ref a] ∧ Hq K H h zs ∧ PqA K H r qs ∧ SqL K H a (row.map V.str) ∧ zs.Nodup ∧ (∀ b ∈ row, b ∈ zs) ∧ refAt qs zs row = none ∧ zs.length ≤ 1000 ∧ qs.length ≤ 400 ∧
  ∀ (H' : Hp) (t : Addr), Same H H' → Tp H' t ((lefts zs row).map V.str) → Q (.ref t) H'
def optV : Option Nat → V
  | none => .non
  | some i => .int (i : Nat)
def spFr : Sp := fun vs H Q _ => ∃ (h r a : Addr) (zs row : List Str) (qs : List (Str × Str)), vs = [.ref h, .ref r, .ref a] ∧ Hq K H h zs ∧ PqA K H r qs ∧ SqL K H a (row.map V.str) ∧ zs.Nodup ∧ (∀ b ∈ row, b ∈ zs) ∧ zs.length ≤ 1000 ∧ qs.length ≤ 400 ∧
  ∀ H' : Hp, Same H H' → Q (optV (refAt qs zs row)) H'
def spLeft : Sp := fun vs H Q _ => ∃ (h a : Addr) (zs row : List Str), vs = [.ref h, .ref a] ∧ Hq K H h zs ∧ SqL K H a (row.map V.str) ∧ zs.Nodup ∧ (∀ b ∈ row, b ∈ zs) ∧ zs.length ≤ 1000 ∧
  ∀ (H' : Hp) (t : Addr), Same H H' → Tp H' t ((lefts zs row).map V.str) → Q (.ref t) H'
def spByLast : Sp := fun vs H Q _ => ∃ (h a : Addr) (zs steps : List Str), vs = [.ref h, .ref a] ∧ Tp H h (zs.map V.str) ∧ SqL K H a (steps.map V.str) ∧ zs.length ≤ 1000 ∧ steps.length ≤ 1000 ∧
  ∀ (H' : Hp) (t : Addr), Same H H' → H t = none → Tp H' t ((byLast zs steps).map V.str) → Q (.ref t) H'
def spLast : Sp := fun vs H Q _ => ∃ (a : Addr) (b : Str) (steps : List Str), vs = [.ref a, .str b] ∧ SqL K H a (steps.map V.str) ∧ steps.length ≤ 1000 ∧
  ∀ H' : Hp, Same H H' → Q (.int (pos b steps.reverse : Nat)) H'
variable {K}
theorem PqA.same {H H' : Hp} {r : Addr} {qs : List (Str × Str)} (h : PqA K H r qs) (sm : Same H H') : PqA K H' r qs := h.imp (fun z => z.same sm) fun z => z.same sm
theorem strs_flat : ∀ zs : List Str, (zs.map V.str).all flatV = true
  | [] => rfl
  | z :: r => strs_flat r
theorem lets_srt (qs : List (Str × Str)) (zs : List Str) (b : Str) : (srt (sndOf b qs)).all (fun f => decide ((pos f zs : Int) < (pos b zs : Int))) = lets qs zs b := by
  unfold lets
  rw [Bool.eq_iff_iff, List.all_eq_true, List.all_eq_true]
  exact ⟨fun h f hf => h f ((srt_perm _).mem_iff.mpr hf), fun h f hf => h f ((srt_perm _).mem_iff.mp hf)⟩
theorem refAt_none {qs : List (Str × Str)} {zs : List Str} {b : Str} {r : List Str} (h : refAt qs zs (b :: r) = none) : lets qs zs b = true ∧ refAt qs (onTop b zs) r = none := by
  unfold refAt at h
  by_cases e : lets qs zs b = true
  · rw [if_pos e] at h
    exact ⟨e, Option.map_eq_none_iff.mp h⟩
  · rw [if_neg e] at h
    exact nomatch h
theorem refAt_at {qs : List (Str × Str)} {b : Str} : ∀ {row zs : List Str} {i : Nat}, row[i]? = some b → refAt qs zs row = none → lets qs (lefts zs (row.take i)) b = true
  | x :: r, zs, 0, h, hn => by
    cases (show some x = some b from h)
    exact (refAt_none hn).1
  | x :: r, zs, i + 1, h, hn => refAt_at (row := r) (zs := onTop x zs) (show r[i]? = some b from h) (refAt_none hn).2
theorem lefts_snoc {zs : List Str} {b : Str} {row : List Str} {i : Nat} (h : row[i]? = some b) : lefts zs (row.take (i + 1)) = onTop b (lefts zs (row.take i)) := by
  rw [List.take_add_one, h, lefts_app]
  rfl
theorem refAt_step {qs : List (Str × Str)} {zs : List Str} {b : Str} {row : List Str} {i : Nat} (h : row[i]? = some b) (hn : refAt qs zs (row.take i) = none) (hl : lets qs (lefts zs (row.take i)) b = true) : refAt qs zs (row.take (i + 1)) = none := by
  rw [List.take_add_one, h, refAt_app, hn]
  show Option.map _ (refAt qs (lefts zs (row.take i)) [b]) = none
  rw [show refAt qs (lefts zs (row.take i)) [b] = none by
    unfold refAt
    rw [if_pos hl]
    rfl]
  rfl
theorem refAt_stop {qs : List (Str × Str)} {zs : List Str} {b : Str} {row : List Str} {i : Nat} (h : row[i]? = some b) (hn : refAt qs zs (row.take i) = none) (hl : ¬ lets qs (lefts zs (row.take i)) b = true) : refAt qs zs row = some i := by
  have e : row = row.take i ++ b :: row.drop (i + 1) := by
    have hlt := (List.getElem?_eq_some_iff.mp h).1
    have hb := (List.getElem?_eq_some_iff.mp h).2
    rw [← hb, List.getElem_cons_drop, List.take_append_drop]
  rw [e, refAt_app, hn]
  show Option.map _ (refAt qs (lefts zs (row.take i)) (b :: row.drop (i + 1))) = some i
  unfold refAt
  rw [if_neg hl]
  show some (0 + (row.take i).length) = some i
  rw [List.length_take]
  have := (List.getElem?_eq_some_iff.mp h).1
  congr 1
  omega
end HF
namespace HF
open PySem PySem.Spec PyProof.Rows L2
/-- name = {..: ..} on one line -/
theorem sw_dict {kx vx : Expr} {gs : List Comprehension} {sc2 : Scope} {pos py : Pos} {y : Str} {n : Nat} {ev : Env} (h1 : ev.scope.kind = .function) (h2 : ev.scope.names.lookup y = some .local) (h3 : (py.line == pos.line) = true)
    (h4 : (sc2.names.any fun (m, k) => m == y && (k == .local || k == .cell)) = false) : swapsWith (.DictComp kx vx gs sc2 pos) (some (.Name y py)) n ev = pure true := by
  have k1 : ev.kindOf y = some .local := h2
  have k2 : ev.blockKind = .function := by
    unfold Env.blockKind
    rw [h1]
    rfl
  unfold swapsWith
  simp only [k2, k1, h4, Expr.pos, h3]
  rfl
theorem ps_setDc {X : Cx} {i : Nat} {y : Str} {py : Pos} {kx vx tg over : Expr} {cs : List Expr} {sc2 : Scope} {own : List (Str × Nat)} {pos sp2 : Pos} {wi : TI} {g : TG} {tt : TT} {tk tv : TE} (calm : X.calm = true) (nd : X.N.Nodup) (hy : X.N[i]? = some y) (loc : X.env.scope.names.lookup y = some .local)
    (sw : swapsWith (.DictComp kx vx [⟨tg, over, cs, 0⟩] sc2 pos) (some (.Name y py)) sp2.line X.env = pure true) (hi : PI X tg over wi) (ok : BlkOk X.N X.env.scope sc2 own)
    (pg : ∀ (s : Shared) (H : Hp) (C : Addr) (cl : List (Str × Addr)) (fp : List Addr), PG (X.blk s H sc2 (compEnvC sc2 cl C X.env) fp) tg g) (pt : ∀ (s : Shared) (H : Hp) (C : Addr) (cl : List (Str × Addr)) (fp : List Addr), PTs (X.blk s H sc2 (compEnvC sc2 cl C X.env) fp) cs tt)
    (pk : ∀ (s : Shared) (H : Hp) (C : Addr) (cl : List (Str × Addr)) (fp : List Addr), PE (X.blk s H sc2 (compEnvC sc2 cl C X.env) fp) kx tk)
    (pv' : ∀ (s : Shared) (H : Hp) (C : Addr) (cl : List (Str × Addr)) (fp : List Addr), PE (X.blk s H sc2 (compEnvC sc2 cl C X.env) fp) vx tv) (fold : ∀ x, foldedSetIterable over X.env x = pure x := by intro _; rfl) :
    PS X (.Assign [.Name y py] (.DictComp kx vx [⟨tg, over, cs, 0⟩] sc2 pos) sp2) (tAsg (tDc wi g tt tk tv (own.map (·.2))) (gName i)) := by
  refine ⟨fun pins st σ H D I hyp => ?_⟩
  rw [exec_Assign_Name_used _ _ _ _ sw]
  refine wpAny_bind (wpAny_standAt (wpAny_bind ?_))
  show wpAny _ X.A (do let _ ← comprehension (.DictComp kx vx [⟨tg, over, cs, 0⟩] sc2 pos) sc2 X.env (firstIterPos [⟨tg, over, cs, 0⟩] pos) newDict false (eval over X.env) (some (assign (.Name y py) X.env))) _ _ st
  have hyp2 : tDc wi g tt tk tv (own.map (·.2)) σ H (fun x H1 => gName i x σ H1 D.nx) := hyp
  refine wpAny_bind (thn (dc_core (Qf := fun _ s' => SP X pins D .next s') calm nd I hi ok pg pt pk pv' fold hyp2 ?_) fun _ s' hq => wpAny_pure (wpAny_pure hq))
  intro L C s' m H' I' q ns fr
  show wpAny _ _ (assign (.Name y py) X.env (.ref L)) _ _ _
  refine wpAny_assign_Name (store_ok2 (v := V.ref L) I' nd hy (.inl loc) rfl (fun s2 J ⟨a, sb, ha⟩ => ?_) (.inr loc))
  obtain ⟨g0, g1, g2, g3, g4, g5⟩ := fr
  have hCa : C ≠ a := ha.elim (fun z => z ▸ g1) fun z e => g4 y a z e.symm
  exact ⟨m, ns.sameBut sb hCa, fun h3 sb3 => ⟨_, H', J.turned (t' := s2.toks) (fun b o hb e => (sb3.2 b hb).trans e) g0 g1 g3 g4 g5, q⟩⟩
/-- a dict comprehension over anything that is walked -/
theorem dc_it {J : It} {n : Nat} {G : Hp → Prop} {Y : Nat → Hp → V → Hp → Prop} (wk : Walk J n G Y) {g : TG} {tt : TT} {tk tv : TE} {is : List Nat} {σ : L2.St} {G1 : Hp} {D : Addr} {Qd : Hp → Prop} (Pv : Nat → Hp → Prop) (h0 : Pv 0 (upd G1 D (.dK []))) (hG : ∀ i H, i ≤ n → Pv i H → G H)
    (hs : ∀ i x H H', i < n → Pv i H → Y i H x H' → g x (wipe σ is) H' fun τ H2 => wipe τ is = wipe σ is ∧ tt τ H2 fun yes H3 =>
      if yes = true then tk τ H3 fun y H4 => tv τ H4 fun z H5 => ∃ es k, y = kV k ∧ H5 D = some (.dK es) ∧ es.length < sizeLine ∧ Pv (i + 1) (upd H5 D (.dK (putK es k z))) else Pv (i + 1) H3) (hd : ∀ H, Pv n H → Qd H) :
    ∃ W : Nat → Nat → Hp → Prop, (∃ m, W 0 m (upd G1 D (.dK []))) ∧ ∀ i m H, W i m H →
      (J.stop i H ∧ Qd H) ∨ (J.go i H ∧ ∃ Nx : Hp → Prop, (∀ H', Nx H' → ∃ m', m' < m ∧ W (i + 1) m' H') ∧ ∀ x H', J.yld i H x H' → g x (wipe σ is) H' fun τ H2 => wipe τ is = wipe σ is ∧ tt τ H2 fun yes H3 =>
        if yes = true then tk τ H3 fun y H4 => tv τ H4 fun z H5 => ∃ es k, y = kV k ∧ H5 D = some (.dK es) ∧ es.length < sizeLine ∧ Nx (upd H5 D (.dK (putK es k z))) else Nx H3) := by
  refine ⟨fun i m H => m = n - i ∧ i ≤ n ∧ Pv i H, ⟨n, (Nat.sub_zero n).symm, Nat.zero_le _, h0⟩, ?_⟩
  intro i m H hW
  obtain ⟨rfl, hi, p⟩ := hW
  have gd := hG i H hi p
  rcases Nat.lt_or_ge i n with hlt | hge
  · refine .inr ⟨wk.goes i H hlt gd, Pv (i + 1), ?_, ?_⟩
    · intro H' p'
      exact ⟨n - (i + 1), by omega, rfl, hlt, p'⟩
    · intro x H' y
      exact hs i x H H' hlt p (wk.yields i H x H' hlt gd y)
  · obtain rfl : i = n := Nat.le_antisymm hi hge
    exact .inl ⟨wk.stops H gd, hd H p⟩
theorem u1 {n : Nat} (h : n + 64 < cLine) : n + 1 < cLine := by omega
theorem keys_at {g : Str → V} : ∀ {xs : List Str} {b : Str}, b ∈ xs → valV (xs.map fun x => ((Sum.inr x : Key), g x)) (Sum.inr b) = some (g b)
  | x :: r, b, h => by
    by_cases e : x = b
    · subst e
      exact valV_pos rfl
    · rw [List.map_cons, valV_neg (fun z => e (Sum.inr.inj z))]
      exact keys_at ((List.mem_cons.mp h).resolve_left fun z => e z.symm)
theorem keys_out {g : Str → V} : ∀ {xs : List Str} {b : Str}, b ∉ xs → valV (xs.map fun x => ((Sum.inr x : Key), g x)) (Sum.inr b) = none
  | [], b, _ => rfl
  | x :: r, b, h => by
    have hne : ¬ ((Sum.inr x : Key) = Sum.inr b) := fun z => h (Sum.inr.inj z ▸ List.mem_cons_self)
    rw [List.map_cons, valV_neg hne]
    exact keys_out fun z => h (List.mem_cons_of_mem _ z)
/-- a dict of lists of texts by texts -/
def DSL (H : Hp) (D : Addr) (xs : List Str) (val : Str → List Str) : Prop := ∃ af : Str → Addr, H D = some (.dK (xs.map fun x => ((Sum.inr x : Key), V.ref (af x)))) ∧ ∀ x ∈ xs, H (af x) = some (.lst ((val x).map V.str))
theorem DSL.same {H H' : Hp} {D : Addr} {xs : List Str} {val : Str → List Str} (h : DSL H D xs val) (sm : Same H H') : DSL H' D xs val := by
  obtain ⟨af, h1, h2⟩ := h
  exact ⟨af, sm _ _ h1, fun x hx => sm _ _ (h2 x hx)⟩
theorem DSL.put {H : Hp} {D l : Addr} {xs : List Str} {val : Str → List Str} {b : Str} (h : DSL H D xs val) (hl : H l = some (.lst ((val b).map V.str))) (nb : b ∉ xs) : ∃ kvs, H D = some (.dK kvs) ∧ kvs.length = xs.length ∧ DSL (upd H D (.dK (putK kvs (Sum.inr b) (.ref l)))) D (xs ++ [b]) val := by
  obtain ⟨af, h1, h2⟩ := h
  refine ⟨_, h1, List.length_map .., fun y => if y = b then l else af y, ?_, fun x hx => ?_⟩
  · rw [upd_same, putK_new _ (keys_out nb), List.map_append]
    congr 3
    · refine List.map_congr_left fun x hx => ?_
      show _ = ((Sum.inr x : Key), V.ref (if x = b then l else af x))
      rw [if_neg fun (e : x = b) => nb (e ▸ hx)]
    · show [(Sum.inr b, V.ref l)] = [(Sum.inr b, V.ref (if b = b then l else af b))]
      rw [if_pos rfl]
  · have hne : ∀ {q : Addr} {ys : List V}, H q = some (.lst ys) → q ≠ D := fun hq e => by
      rw [e, h1] at hq
      exact nomatch hq
    by_cases e : x = b
    · show (upd H D _) (if x = b then l else af x) = _
      rw [if_pos e, upd_ne (hne hl), e]
      exact hl
    · have hx' : x ∈ xs := by
        rcases List.mem_append.mp hx with q | q
        · exact q
        · exact absurd (List.mem_singleton.mp q) e
      show (upd H D _) (if x = b then l else af x) = _
      rw [if_neg e, upd_ne (hne (h2 x hx'))]
      exact h2 x hx'
theorem DSL.get {H : Hp} {D : Addr} {xs : List Str} {val : Str → List Str} {b : Str} (h : DSL H D xs val) (hb : b ∈ xs) : ∃ l, DGet H D (.str b) (some (.ref l)) ∧ H l = some (.lst ((val b).map V.str)) := by
  obtain ⟨af, h1, h2⟩ := h
  refine ⟨af b, ?_, h2 b hb⟩
  have e := DGet.k (k := (Sum.inr b : Key)) h1
  rw [keys_at hb] at e
  exact e
theorem Ties.closed {zs : List Str} {H : Hp} {r : Addr} {L : SL} (h : Ties zs H r L) : ∀ q ∈ L.map prOf, q.2 ∈ zs ∧ q.1 ≠ q.2 ∧ q.1 ∈ zs := by
  intro q hq
  obtain ⟨p, hp, rfl⟩ := List.mem_map.mp hq
  obtain ⟨_, x, y, e, hx, hy, ne⟩ := h.2.1 p hp
  unfold prOf
  rw [e]
  exact ⟨hy, ne, hx⟩
theorem Ties.few {zs : List Str} {H : Hp} {r : Addr} {L : SL} (h : Ties zs H r L) (hz : zs.length ≤ 12) : (L.map prOf).length ≤ 144 := by
  rw [List.length_map]
  exact Nat.le_trans (sub_len (fun p hp => (h.2.1 p hp).2) h.2.2.1) (Nat.mul_le_mul hz hz)
theorem may_some {qs : List (Str × Str)} {zs : List Str} (nd : zs.Nodup) (hq : ∀ q ∈ qs, q.2 ∈ zs ∧ q.1 ≠ q.2) (ne : zs ≠ []) : 0 < ((srt zs).filter (lets qs zs)).length := by
  obtain ⟨b, hb, hl⟩ := low_lets nd hq ne
  exact List.length_pos_of_mem (List.mem_filter.mpr ⟨(srt_perm zs).mem_iff.mpr hb, hl⟩)
end HF
namespace HF
open PySem PySem.Spec PyProof.Rows L2
section
variable {P : Program} {w : World} {K : PySem.W.Frag} {mg : Str → Option Value} {base : Heap}
abbrev sAbv : Stmt := topS 8
abbrev sTop : Stmt := topS 9
abbrev nAbv : List Str := ["heap", "friends", "book", "above", "friend"]
theorem scAbv : FnScope nAbv ["heap", "friends", "book"] (defScope sAbv) := ⟨rfl, rfl, rfl, by decide +kernel, rfl, by decide +kernel, by decide +kernel⟩
abbrev nTop : List Str := ["heap", "book", "lain"]
theorem scTop : FnScope nTop ["heap", "book"] (defScope sTop) := ⟨rfl, rfl, rfl, by decide +kernel, rfl, by decide +kernel, by decide +kernel⟩
theorem ok_Abv {f : Addr} {fd : FuncData} {k : Nat} (F : Fun K "all_above" "all_above" sAbv f fd) (mA : mg "all" = none) : FnOk P w K mg base CX0 (k + 1) f fd ["heap", "friends", "book"] (spAbv K) := by
  refine F.ok scAbv (fun vs H Q E h => ?_) (fun cdv A outer s H vs Q E hr h => ?_)
  · obtain ⟨h, a, b, zs, fs, rfl, _⟩ := h
    rfl
  · obtain ⟨h, a, b, zs, fs, rfl, hq, ha, hb, hfl, q⟩ := h
    have hpl := pos_lt hb
    rcases hq with hq | hq
    · have hns : ¬ (HT.sIx (zs.map V.str).length 0 none = 0 ∧ HT.sIx (zs.map V.str).length (zs.map V.str).length (some ((pos b zs : Nat) : Int)) = (zs.map V.str).length) := by
        rintro ⟨_, e⟩
        rw [HT.sIx_nat, List.length_map] at e
        omega
      refine ⟨_, pss_cons (ps_set (i := 3) scAbv.nd rfl (.inr rfl) (pe_slice sl_list (pv 0) po_none (po_some (pe_bm PySem.F.plainAttrs_list PySem.F.slot_list_index PySem.F.type_list_index mt_index (pv 0) (pa_cons (pv 2) pa_nil)))))
        (pss_one (ps_ret (pe_callB (cr_all rfl) (by rfl) mA (by decide +kernel) (pa_cons (pe_lc (own := [("friend", 4)]) (g := gName 4) (tt := tYes) rfl scAbv.nd (pi_list (pv 1))
          (blkOk_by (N := nAbv) (sc := defScope sAbv) (by decide +kernel)) (fun _ _ _ _ _ => pg_name (i := 4) scAbv.nd rfl (.inl rfl)) (fun _ _ _ _ _ => pts_nil)
          (fun _ _ _ _ _ => pe_cmpR (r := rIn K false) op_in_seq (pv 4) (pv 3) rfl)) pa_nil)))), ?_⟩
      refine ⟨.ref h, rfl, .ref h, rfl, .inl ⟨rfl, _, hq⟩, .str b, rfl, h, _, .str b, pos b zs, .str b, rfl, rfl, hq, rfl, strs_all, strs_at (pos_get hb), (by simp [eqV]), strs_first, _, rfl, h, _, rfl, hq, fun C nC => ?_⟩
      rw [cutTo] at *
      have hC : (upd H C (.lst ((zs.map V.str).take (pos b zs)))) C = some (.lst ((zs.map V.str).take (pos b zs))) := upd_same
      have s1 : Same H (upd H C (.lst ((zs.map V.str).take (pos b zs)))) := same_upd nC
      generalize (upd H C (.lst ((zs.map V.str).take (pos b zs)))) = H1 at *
      rw [← List.map_take] at hC
      refine ⟨.ref a, rfl, a, rfl, ⟨_, s1.seq ha⟩, fun D nD => lc_it (walk_list (xs := fs.map V.str)) (fun i H4 => H4 D = some (.lst (((fs.take i).map fun f => decide ((pos f zs : Int) < (pos b zs : Int))).map V.bl)) ∧ Same H1 H4) ?_ ?_ ?_ ?_⟩
      · exact ⟨upd_same, same_upd nD⟩
      · rintro i H4 hi ⟨hD, s4⟩
        exact (s1.trans s4).seq ha
      · rintro i v H4 H5 hi ⟨hD, s4⟩ ⟨rfl, hv⟩
        rw [List.getElem?_map] at hv
        obtain ⟨x, hx, rfl⟩ := Option.map_eq_some_iff.mp hv
        have hC4 := s4 _ _ hC
        refine ⟨rfl, .str x, rfl, .ref C, rfl, C, _, rfl, .inl (.inl (.inl hC4)), rfl, strs_flat _, _, hD, ?_, ?_, ?_⟩
        · rw [List.length_map, List.length_map, List.length_take, sizeLine_eq]
          omega
        · rw [upd_same, List.take_add_one, hx, List.map_append, List.map_append]
          have e : (if false = true then !inV (.str x) ((zs.take (pos b zs)).map V.str) else inV (.str x) ((zs.take (pos b zs)).map V.str)) = decide ((pos x zs : Int) < (pos b zs : Int)) := by
            rw [if_neg (by decide), inV_strs]
            rw [Bool.eq_iff_iff, decide_eq_true_iff, decide_eq_true_iff, mem_take_pos (Nat.le_of_lt hpl)]
            omega
          rw [e]
          rfl
        · intro z o ez
          rw [upd_ne (ne_of_none ez nD)]
          exact s4 _ _ ez
      · rintro H4 ⟨hD, s4⟩
        rw [List.length_map, List.take_length] at hD
        refine ⟨D, _, rfl, .inl (.inl hD), ?_⟩
        have e : ((fs.map fun f => decide ((pos f zs : Int) < (pos b zs : Int)))).all id = fs.all fun f => decide ((pos f zs : Int) < (pos b zs : Int)) := by rw [List.all_map]; rfl
        rw [e]
        exact q _ (s1.trans s4)
    · have hns : ¬ (HT.sIx (zs.map V.str).length 0 none = 0 ∧ HT.sIx (zs.map V.str).length (zs.map V.str).length (some ((pos b zs : Nat) : Int)) = (zs.map V.str).length) := by
        rintro ⟨_, e⟩
        rw [HT.sIx_nat, List.length_map] at e
        omega
      refine ⟨_, pss_cons (ps_set (i := 3) scAbv.nd rfl (.inr rfl) (pe_slice sl_tup (pv 0) po_none (po_some (pe_bmT PySem.F.slot_tuple_index PySem.F.type_tuple_index mt_tup_index (pv 0) (pa_cons (pv 2) pa_nil)))))
        (pss_one (ps_ret (pe_callB (cr_all rfl) (by rfl) mA (by decide +kernel) (pa_cons (pe_lc (own := [("friend", 4)]) (g := gName 4) (tt := tYes) rfl scAbv.nd (pi_list (pv 1))
          (blkOk_by (N := nAbv) (sc := defScope sAbv) (by decide +kernel)) (fun _ _ _ _ _ => pg_name (i := 4) scAbv.nd rfl (.inl rfl)) (fun _ _ _ _ _ => pts_nil)
          (fun _ _ _ _ _ => pe_cmpR (r := rIn K false) op_in_seq (pv 4) (pv 3) rfl)) pa_nil)))), ?_⟩
      refine ⟨.ref h, rfl, .ref h, rfl, ⟨h, _, rfl, hq⟩, .str b, rfl, h, zs, b, pos b zs, rfl, rfl, hq.sq, pos_get hb, fun m hm => pos_first hm, _, rfl, h, _, rfl, hq.sq, hns, fun C nC => ?_⟩
      rw [cutTo] at *
      have hC : (upd H C (.tup ((zs.map V.str).take (pos b zs)))) C = some (.tup ((zs.map V.str).take (pos b zs))) := upd_same
      have s1 : Same H (upd H C (.tup ((zs.map V.str).take (pos b zs)))) := same_upd nC
      generalize (upd H C (.tup ((zs.map V.str).take (pos b zs)))) = H1 at *
      rw [← List.map_take] at hC
      refine ⟨.ref a, rfl, a, rfl, ⟨_, s1.seq ha⟩, fun D nD => lc_it (walk_list (xs := fs.map V.str)) (fun i H4 => H4 D = some (.lst (((fs.take i).map fun f => decide ((pos f zs : Int) < (pos b zs : Int))).map V.bl)) ∧ Same H1 H4) ?_ ?_ ?_ ?_⟩
      · exact ⟨upd_same, same_upd nD⟩
      · rintro i H4 hi ⟨hD, s4⟩
        exact (s1.trans s4).seq ha
      · rintro i v H4 H5 hi ⟨hD, s4⟩ ⟨rfl, hv⟩
        rw [List.getElem?_map] at hv
        obtain ⟨x, hx, rfl⟩ := Option.map_eq_some_iff.mp hv
        have hC4 := s4 _ _ hC
        refine ⟨rfl, .str x, rfl, .ref C, rfl, C, _, rfl, .inr (.inl (.inl hC4)), rfl, strs_flat _, _, hD, ?_, ?_, ?_⟩
        · rw [List.length_map, List.length_map, List.length_take, sizeLine_eq]
          omega
        · rw [upd_same, List.take_add_one, hx, List.map_append, List.map_append]
          have e : (if false = true then !inV (.str x) ((zs.take (pos b zs)).map V.str) else inV (.str x) ((zs.take (pos b zs)).map V.str)) = decide ((pos x zs : Int) < (pos b zs : Int)) := by
            rw [if_neg (by decide), inV_strs]
            rw [Bool.eq_iff_iff, decide_eq_true_iff, decide_eq_true_iff, mem_take_pos (Nat.le_of_lt hpl)]
            omega
          rw [e]
          rfl
        · intro z o ez
          rw [upd_ne (ne_of_none ez nD)]
          exact s4 _ _ ez
      · rintro H4 ⟨hD, s4⟩
        rw [List.length_map, List.take_length] at hD
        refine ⟨D, _, rfl, .inl (.inl hD), ?_⟩
        have e : ((fs.map fun f => decide ((pos f zs : Int) < (pos b zs : Int)))).all id = fs.all fun f => decide ((pos f zs : Int) < (pos b zs : Int)) := by rw [List.all_map]; rfl
        rw [e]
        exact q _ (s1.trans s4)
theorem ok_Top {f : Addr} {fd : FuncData} {k : Nat} (F : Fun K "on_top" "on_top" sTop f fd) (mT : mg "tuple" = none) : FnOk P w K mg base CX0 (k + 1) f fd ["heap", "book"] (spTop K) := by
  refine F.ok scTop (fun vs H Q E h => ?_) (fun cdv A outer s H vs Q E hr h => ?_)
  · obtain ⟨h, b, zs, rfl, _⟩ := h
    rfl
  · obtain ⟨h, b, zs, rfl, hq, hl, q⟩ := h
    rcases hq with hq | hq
    · refine ⟨_, pss_one (ps_ret (pe_op op_catF (pe_tupF (pa_cons (pv 1) pa_nil)) (pe_callTy call_tupleF (by rfl) mT (by decide +kernel) (pa_cons (pe_lc (own := [("lain", 2)]) (g := gName 2) rfl scTop.nd (pi_list (pv 0))
          (blkOk_by (N := nTop) (sc := defScope sTop) (by decide +kernel)) (fun _ _ _ _ _ => pg_name (i := 2) scTop.nd rfl (.inl rfl)) (fun _ _ _ _ _ => pts_one (pt_cmpR op_ne (pv 2) (pv 1) (nomark _)))
          (fun _ _ _ _ _ => pv 2)) pa_nil)))), ?_⟩
      refine ⟨.str b, rfl, (by decide : (1 : Nat) ≤ sizeLine), fun t0 ob0 nt0 e1 e2 => ?_⟩
      have ht0 : Tp (upd H t0 (.frz ob0 (.tup [V.str b]))) t0 [.str b] := ⟨ob0, upd_same, e1, e2⟩
      have s1 : Same H (upd H t0 (.frz ob0 (.tup [V.str b]))) := same_upd nt0
      generalize (upd H t0 (.frz ob0 (.tup [V.str b]))) = H1 at *
      refine ⟨.ref h, rfl, h, rfl, ⟨_, (s1).seq hq⟩, fun D nD => lc_it (walk_list (xs := zs.map V.str)) (fun i H4 => H4 D = some (.lst (((zs.take i).filter fun z => decide (z ≠ b)).map V.str)) ∧ Same H1 H4) ?_ ?_ ?_ ?_⟩
      · exact ⟨upd_same, same_upd nD⟩
      · rintro i H4 hi ⟨hD, s4⟩
        exact (s1.trans s4).seq hq
      · rintro i v H4 H5 hi ⟨hD, s4⟩ ⟨rfl, hv⟩
        rw [List.getElem?_map] at hv
        obtain ⟨x, hx, rfl⟩ := Option.map_eq_some_iff.mp hv
        have hstep : (zs.take (i + 1)).filter (fun z => decide (z ≠ b)) = (zs.take i).filter (fun z => decide (z ≠ b)) ++ (if x = b then [] else [x]) := by
          rw [List.take_add_one, hx, List.filter_append]
          congr 1
          by_cases e : x = b
          · simp [e]
          · simp [e]
        have hfew : ((zs.take i).filter (fun z => decide (z ≠ b))).length ≤ 1000 := by
          have h1 := List.length_filter_le (fun z => decide (z ≠ b)) (zs.take i)
          rw [List.length_take] at h1
          omega
        refine ⟨rfl, .str x, rfl, .str b, rfl, rfl, _, rfl, ite2 (fun e => ?_) (fun e => ?_)⟩
        · have e2 : ¬ x = b := fun z => by
            subst z
            simp at e
          refine ⟨.str x, rfl, _, hD, by rw [List.length_map, sizeLine_eq]; omega, ?_, ?_⟩
          · rw [upd_same, hstep, if_neg e2, List.map_append]
            rfl
          · intro z o ez
            rw [upd_ne (ne_of_none ez nD)]
            exact s4 _ _ ez
        · have e2 : x = b := Classical.byContradiction fun z => e (by simp [z])
          refine ⟨?_, s4⟩
          rw [hD, hstep, if_pos e2, List.append_nil]
      · rintro H4 ⟨hD, s4⟩
        rw [List.length_map, List.take_length] at hD
        have hfew : (zs.filter (fun z => decide (z ≠ b))).length ≤ 1000 := Nat.le_trans (List.length_filter_le _ _) hl
        refine ⟨D, _, rfl, .inl (.inl hD), fun t1 ob1 nt1 e3 e4 => ?_⟩
        have ht1 : Tp (upd H4 t1 (.frz ob1 (.tup ((zs.filter fun z => decide (z ≠ b)).map V.str)))) t1 ((zs.filter fun z => decide (z ≠ b)).map V.str) := ⟨ob1, upd_same, e3, e4⟩
        have s5 : Same H1 (upd H4 t1 (.frz ob1 (.tup ((zs.filter fun z => decide (z ≠ b)).map V.str)))) := s4.trans (same_upd nt1)
        generalize (upd H4 t1 (.frz ob1 (.tup ((zs.filter fun z => decide (z ≠ b)).map V.str)))) = H5 at *
        refine ⟨t0, t1, _, _, rfl, rfl, (ht0.same s5).sq, ht1.sq, (by simp), ?_, fun e => ?_, fun e l ob nl e5 e6 => ?_⟩
        · rw [List.length_map, sizeLine_eq]
          show 1 + _ ≤ _
          omega
        · refine q _ t0 (s1.trans s5) nt0 ?_
          have e' : zs.filter (fun z => decide (z ≠ b)) = [] := List.map_eq_nil_iff.mp e
          unfold onTop
          rw [e']
          exact ht0.same s5
        · exact q _ l ((s1.trans s5).trans (same_upd nl)) ((s1.trans s5).free nl) ⟨ob, by rw [upd_same]; rfl, e5, e6⟩
    · refine ⟨_, pss_one (ps_ret (pe_op op_catF (pe_tupF (pa_cons (pv 1) pa_nil)) (pe_callTy call_tupleF (by rfl) mT (by decide +kernel) (pa_cons (pe_lc (own := [("lain", 2)]) (g := gName 2) rfl scTop.nd (pi_tup (pv 0))
          (blkOk_by (N := nTop) (sc := defScope sTop) (by decide +kernel)) (fun _ _ _ _ _ => pg_name (i := 2) scTop.nd rfl (.inl rfl)) (fun _ _ _ _ _ => pts_one (pt_cmpR op_ne (pv 2) (pv 1) (nomark _)))
          (fun _ _ _ _ _ => pv 2)) pa_nil)))), ?_⟩
      refine ⟨.str b, rfl, (by decide : (1 : Nat) ≤ sizeLine), fun t0 ob0 nt0 e1 e2 => ?_⟩
      have ht0 : Tp (upd H t0 (.frz ob0 (.tup [V.str b]))) t0 [.str b] := ⟨ob0, upd_same, e1, e2⟩
      have s1 : Same H (upd H t0 (.frz ob0 (.tup [V.str b]))) := same_upd nt0
      generalize (upd H t0 (.frz ob0 (.tup [V.str b]))) = H1 at *
      refine ⟨.ref h, rfl, h, rfl, ⟨_, (hq.same (s1)).sq⟩, fun D nD => lc_it (walk_tup (xs := zs.map V.str)) (fun i H4 => H4 D = some (.lst (((zs.take i).filter fun z => decide (z ≠ b)).map V.str)) ∧ Same H1 H4) ?_ ?_ ?_ ?_⟩
      · exact ⟨upd_same, same_upd nD⟩
      · rintro i H4 hi ⟨hD, s4⟩
        exact (hq.same (s1.trans s4)).sq
      · rintro i v H4 H5 hi ⟨hD, s4⟩ ⟨rfl, hv⟩
        rw [List.getElem?_map] at hv
        obtain ⟨x, hx, rfl⟩ := Option.map_eq_some_iff.mp hv
        have hstep : (zs.take (i + 1)).filter (fun z => decide (z ≠ b)) = (zs.take i).filter (fun z => decide (z ≠ b)) ++ (if x = b then [] else [x]) := by
          rw [List.take_add_one, hx, List.filter_append]
          congr 1
          by_cases e : x = b
          · simp [e]
          · simp [e]
        have hfew : ((zs.take i).filter (fun z => decide (z ≠ b))).length ≤ 1000 := by
          have h1 := List.length_filter_le (fun z => decide (z ≠ b)) (zs.take i)
          rw [List.length_take] at h1
          omega
        refine ⟨rfl, .str x, rfl, .str b, rfl, rfl, _, rfl, ite2 (fun e => ?_) (fun e => ?_)⟩
        · have e2 : ¬ x = b := fun z => by
            subst z
            simp at e
          refine ⟨.str x, rfl, _, hD, by rw [List.length_map, sizeLine_eq]; omega, ?_, ?_⟩
          · rw [upd_same, hstep, if_neg e2, List.map_append]
            rfl
          · intro z o ez
            rw [upd_ne (ne_of_none ez nD)]
            exact s4 _ _ ez
        · have e2 : x = b := Classical.byContradiction fun z => e (by simp [z])
          refine ⟨?_, s4⟩
          rw [hD, hstep, if_pos e2, List.append_nil]
      · rintro H4 ⟨hD, s4⟩
        rw [List.length_map, List.take_length] at hD
        have hfew : (zs.filter (fun z => decide (z ≠ b))).length ≤ 1000 := Nat.le_trans (List.length_filter_le _ _) hl
        refine ⟨D, _, rfl, .inl (.inl hD), fun t1 ob1 nt1 e3 e4 => ?_⟩
        have ht1 : Tp (upd H4 t1 (.frz ob1 (.tup ((zs.filter fun z => decide (z ≠ b)).map V.str)))) t1 ((zs.filter fun z => decide (z ≠ b)).map V.str) := ⟨ob1, upd_same, e3, e4⟩
        have s5 : Same H1 (upd H4 t1 (.frz ob1 (.tup ((zs.filter fun z => decide (z ≠ b)).map V.str)))) := s4.trans (same_upd nt1)
        generalize (upd H4 t1 (.frz ob1 (.tup ((zs.filter fun z => decide (z ≠ b)).map V.str)))) = H5 at *
        refine ⟨t0, t1, _, _, rfl, rfl, (ht0.same s5).sq, ht1.sq, (by simp), ?_, fun e => ?_, fun e l ob nl e5 e6 => ?_⟩
        · rw [List.length_map, sizeLine_eq]
          show 1 + _ ≤ _
          omega
        · refine q _ t0 (s1.trans s5) nt0 ?_
          have e' : zs.filter (fun z => decide (z ≠ b)) = [] := List.map_eq_nil_iff.mp e
          unfold onTop
          rw [e']
          exact ht0.same s5
        · exact q _ l ((s1.trans s5).trans (same_upd nl)) ((s1.trans s5).free nl) ⟨ob, by rw [upd_same]; rfl, e5, e6⟩
end
end HF
namespace HF
open PySem PySem.Spec PyProof.Rows L2
section
variable {P : Program} {w : World} {K : PySem.W.Frag} {mg : Str → Option Value} {base : Heap}
abbrev sLaid : Stmt := topS 12
abbrev nLaid : List Str := ["heap", "ties", "book"]
theorem scLaid : FnScope nLaid ["heap", "ties", "book"] (defScope sLaid) := ⟨rfl, rfl, rfl, by decide +kernel, rfl, by decide +kernel, by decide +kernel⟩
abbrev sAbs : Stmt := topS 11
abbrev nAbs : List Str := ["heap", "books", "book"]
theorem scAbs : FnScope nAbs ["heap", "books"] (defScope sAbs) := ⟨rfl, rfl, rfl, by decide +kernel, rfl, by decide +kernel, by decide +kernel⟩
def spAbs (K : PySem.W.Frag) : Sp := fun vs H Q _ => ∃ (h a : Addr) (zs row : List Str), vs = [.ref h, .ref a] ∧ Hq K H h zs ∧ SqL K H a (row.map V.str) ∧ (∀ b ∈ row, b ∈ zs) ∧ ∀ H' : Hp, Same H H' → Q .non H'
theorem ok_Abs {f : Addr} {fd : FuncData} {k : Nat} (F : Fun K "refuse_absent" "refuse_absent" sAbs f fd) : FnOk P w K mg base CX0 (k + 1) f fd ["heap", "books"] (spAbs K) := by
  refine F.ok scAbs (fun vs H Q E h => ?_) (fun cdv A outer s H vs Q E hr h => ?_)
  · obtain ⟨h, a, zs, row, rfl, _⟩ := h
    rfl
  · obtain ⟨h, a, zs, row, rfl, hq, ha, hin, q⟩ := h
    refine ⟨_, pss_one (ps_for PassesOwn.never rfl (pi_list (pv 1)) (pg_name (i := 2) scAbs.nd rfl (.inl rfl)) (pss_one (ps_if (pt_cmpR (r := rIn K true) op_notIn_seq (pv 2) (pv 0) rfl) pss_never pss_nil))), ?_⟩
    refine ⟨.ref a, rfl, a, rfl, ⟨_, ha⟩, for_list (xs := row.map V.str) (fun i σ Hx => ∃ y : Option V, σ = [some (.ref h), some (.ref a), y] ∧ Hx = H) ⟨none, rfl, rfl⟩ ?_ ?_ ?_⟩
    · rintro i σ Hx hi ⟨y, rfl, rfl⟩
      exact ha
    · rintro i x σ Hx hx ⟨y, rfl, rfl⟩
      rw [List.getElem?_map] at hx
      obtain ⟨b, hb, rfl⟩ := Option.map_eq_some_iff.mp hx
      refine ⟨.str b, rfl, .ref h, rfl, h, _, rfl, hq.imp id (fun z => z.sq), rfl, strs_flat _, _, rfl, ?_⟩
      have e : (if true = true then !inV (.str b) (zs.map V.str) else inV (.str b) (zs.map V.str)) = false := by
        rw [if_pos rfl, inV_strs, decide_eq_true (hin b (List.mem_of_getElem? hb))]
        rfl
      rw [e]
      exact iteF ⟨_, rfl, rfl⟩
    · rintro σ Hx ⟨y, rfl, rfl⟩
      exact q _ (Same.refl _)
theorem ok_Laid {f fA fT fF fR : Addr} {fd dA dT dF dR : FuncData} {k : Nat} (F : Fun K "laid" "laid" sLaid f fd) (FA : Fun K "all_above" "all_above" sAbv fA dA) (bA : Binds K dA ["heap", "friends", "book"] []) (gA : mg "all_above" = some (.ref fA)) (FT : Fun K "on_top" "on_top" sTop fT dT) (bT : Binds K dT ["heap", "book"] []) (gT : mg "on_top" = some (.ref fT)) (FR : Fun K "refuse_absent" "refuse_absent" sAbs fR dR) (bR : Binds K dR ["heap", "books"] []) (gR : mg "refuse_absent" = some (.ref fR)) (FF : Fun K "friends_of" "friends_of" sFriends fF dF) (bF : Binds K dF ["ties", "book"] []) (gF : mg "friends_of" = some (.ref fF)) (mA : mg "all" = none) (mT : mg "tuple" = none) (mS : mg "sorted" = none) : FnOk P w K mg base CX0 (k + 2) f fd ["heap", "ties", "book"] (spLaid K) := by
  have GA : FnOk P w K mg base CX0 (k + 1) fA dA ["heap", "friends", "book"] (spAbv K) := ok_Abv FA mA
  have GF : FnOk P w K mg base CX0 (k + 1) fF dF ["ties", "book"] (spPick K sndOf) := ok_Friends FF mS
  have GT : FnOk P w K mg base CX0 (k + 1) fT dT ["heap", "book"] (spTop K) := ok_Top FT mT
  have GR : FnOk P w K mg base CX0 (k + 1) fR dR ["heap", "books"] (spAbs K) := ok_Abs FR
  refine F.ok scLaid (fun vs H Q E h => ?_) (fun cdv A outer s H vs Q E hr h => ?_)
  · obtain ⟨h, r, b, zs, qs, rfl, _⟩ := h
    rfl
  · obtain ⟨h, r, b, zs, qs, rfl, hq, hP, hb, hlet, hl, hql, q⟩ := h
    refine ⟨_, pss_cons (ps_expr (pe_call GR hr (by rfl) gR FR.kp bR .nil pass0 (pa_cons (pv 0) (pa_cons (pe_lst (pa_cons (pv 2) pa_nil)) pa_nil))))
      (pss_cons (ps_if (pt_not (pt_val (pe_call GA hr (by rfl) gA FA.kp bA .nil pass0 (pa_cons (pv 0) (pa_cons (pe_call GF hr (by rfl) gF FF.kp bF .nil pass0 (pa_cons (pv 1) (pa_cons (pv 2) pa_nil))) (pa_cons (pv 2) pa_nil)))))) pss_never pss_nil)
      (pss_one (ps_ret (pe_call GT hr (by rfl) gT FT.kp bT .nil pass0 (pa_cons (pv 0) (pa_cons (pv 2) pa_nil)))))), ?_⟩
    refine ⟨.ref h, rfl, .str b, rfl, (by decide : (1 : Nat) ≤ sizeLine), fun p np => ?_⟩
    have s0 : Same H (upd H p (.lst [.str b])) := same_upd np
    have hp : (upd H p (.lst [.str b])) p = some (.lst [.str b]) := upd_same
    generalize (upd H p (.lst [.str b])) = Hp0 at *
    refine ⟨h, p, zs, [b], rfl, hq.same s0, .inl (.inl hp), (fun x hx => by rw [List.mem_singleton.mp hx]; exact hb), fun H0 t0 => ?_⟩
    have s00 := s0.trans t0
    refine ⟨.ref h, rfl, .ref r, rfl, .str b, rfl, r, b, qs, rfl, hP.same s00, hql, fun H1 l s1' nl hl1 => ?_⟩
    have s1 := s00.trans s1'
    refine ⟨.str b, rfl, h, l, b, zs, _, rfl, hq.same s1, .inl (.inl hl1), hb, by rw [srt_len]; exact Nat.le_trans (sndOf_len _ _) hql, fun H2 s2 => ⟨_, rfl, ?_⟩⟩
    rw [lets_srt, hlet]
    refine iteF ⟨.ref h, rfl, .str b, rfl, h, b, zs, rfl, hq.same (s1.trans s2), hl, fun H3 t s3 nt ht => ?_⟩
    exact q _ t ((s1.trans s2).trans s3) ((s1.trans s2).free nt) ht
end
end HF
/-! refusals: own classes over a class of Python's own, with an __init__ that tells the base a text and keeps one field -/
namespace HF
open PySem PySem.Spec PyProof.Rows L2
structure XoC (K : PySem.W.Frag) (C : Addr) (B newId initId : String) (bmB : List Value) : Prop where
  base : ExcBaseFacts B newId initId bmB
  store : StoreFacts B bmB "object.__setattr__" "object"
  ini : PySem.W.excInitIn K C bmB newId = true
  over : PySem.W.excOver K C bmB = true
  hdi : PySem.W.hasDictIn K C = true
  sa : PySem.W.findIn K (.ref C) "__setattr__" = some (some (.builtin "object.__setattr__"))
  exC : PySem.W.subIn K (.ref C) (.type "BaseException") = some true
  tyC : PySem.W.typeIn K (.ref C) = some (.type "type")
  kC : PySem.W.keepIn K (.ref C) = true
section
variable {prog : Program} {w : World} {A : Around} {R : Result → Shared → Prop} {hp : Heap} {g : Array GenState} {d : Drawn} {t : Nat} {os : OsState} {K : PySem.W.Frag} {B newId initId : String} {bmB : List Value}
/-- the first field -/
theorem xosa {x C t1 : Addr} {name : Str} {tk : Tok} {v : Value} (T : XoC K C B newId initId bmB) (X : K.In hp) (hx : hp.get? x = some (PySem.HandSPX.excO C t1)) (no : PySem.W.findIn K (.ref C) name = some none)
    (hq : ∀ h2 tk2 dx, (∀ b o, b ≠ x → hp.get? b = some o → h2.get? b = some o) → hp.objs.size ≤ dx → dx ≠ x → h2.get? x = some { PySem.HandSPX.excO C t1 with dict := some dx } → h2.Ns1 dx (fun y => if y = name then some v else none) → R (.ok (.ret .none)) ⟨h2, g, d, tk2, os⟩) :
    codeAny (model prog w) A (.call (.builtin "object.__setattr__") ⟨[.ref x, .str name tk, v], []⟩) R ⟨hp, g, d, t, os⟩ := by
  have I : PySem.W.InstAt hp x (PySem.HandSPX.excO C t1) C none := ⟨hx, rfl, rfl, trivial⟩
  have far : x ≠ hp.objs.size := Nat.ne_of_lt (Heap.lt_size hx)
  have tkr : PySem.W.takerIn K C name = some none := by
    unfold PySem.W.takerIn
    rw [no]
    rfl
  obtain ⟨cd, hcd, hdct⟩ : ∃ cd, PySem.W.clsIn K C = some cd ∧ cd.hasDict = true := by
    have z := T.hdi
    unfold PySem.W.hasDictIn at z
    cases hc : PySem.W.clsIn K C with
    | none =>
      rw [hc] at z
      exact nomatch z
    | some cd =>
      rw [hc] at z
      exact ⟨cd, rfl, z⟩
  have lc : PySem.W.Looks (model prog w) hp (classData C) cd := PySem.W.looks_clsIn X hcd
  refine PySem.W.osa_openX T.store X I T.over tkr fun bb => ?_
  dsimp only
  obtain ⟨n1, n2, n3, n4, n5, n6, n7, n8, n9, n10, n11⟩ := cd
  dsimp only at hdct
  subst hdct
  unfold PySem.Builtin.ObjectAttr.storeInOwnDict PySem.Builtin.ObjectAttr.ownDictForStores
  repeat (first | with_reducible refine PySem.HandSPX.store_in_new ?_ ?_ | with_reducible refine wpAny_loadPart_at hx ?_ | with_reducible refine lc.at ?_ | wp_step)
  · exact ⟨_, #[], _, (Heap.get?_update_ne _ _ _ _ far.symm).trans (Heap.get?_push_at rfl rfl), rfl, fun e he => absurd he (by simp), fun _ => rfl⟩
  · intro h2 tk2 ns sb
    have hx1 : (hp.push { cls := .type "dict", data := .dict #[] }).get? x = some (PySem.HandSPX.excO C t1) := Heap.get?_push_of_some _ hx
    refine hq h2 tk2 hp.objs.size (fun b o hb ho => ?_) (Nat.le_refl _) far.symm ?_ ns
    · exact (sb.2 b (Nat.ne_of_lt (Heap.lt_size ho))).trans ((Heap.get?_update_ne _ _ _ _ hb).trans (Heap.get?_push_of_some _ ho))
    · exact (sb.2 x far).trans (Heap.get?_update_self _ hx1 rfl)
end
section
variable {X : Cx} {pins : List (Addr × Obj)} {σ : L2.St} {H : Hp} {s : Shared} {a C dx : Addr} {f : Str} {y : V} {u : Value} {E : Value → Shared → Prop} {A : Around} {B newId initId : String} {bmB : List Value}
/-- self.f = y on an exception without a dict as yet -/
theorem xst_new {Q : Unit → Shared → Prop} (T : XoC X.K C B newId initId bmB) (I : Inv X pins σ H s) (e : H a = some (exo a C none)) (no : PySem.W.findIn X.K (.ref C) f = some none) (ry : RelV y u)
    (q : ∀ dx s', H dx = none → dx ≠ a → Inv X pins σ (upd (upd H dx (exd dx [(f, y)])) a (exo a C (some dx))) s' → Q () s') : wpAny (model X.prog X.w) A (setAttr (.ref a) f u) Q E s := by
  obtain ⟨t1, ho⟩ := exo_at I.hok e
  obtain ⟨hp, g, d, t, os⟩ := s
  have plain : PySem.W.InstAt hp a (PySem.HandSPX.excO C t1) C none := ⟨ho, rfl, rfl, trivial⟩
  refine PySem.W.set_plain I.kIn plain T.sa (xosa T I.kIn ho no ?_)
  intro h2 tk2 dx kp big ne hx ns
  have bare : H dx = none := I.hok.fresh big
  have below : ∀ {b : Addr} {o : Obj}, hp.get? b = some o → b ≠ dx := fun z => Nat.ne_of_lt (Nat.lt_of_lt_of_le (Heap.lt_size z) big)
  have away : ∀ {b : Addr}, H b = none → b ≠ a := fun n z => by
    rw [z, e] at n
    exact nomatch n
  have un : Un X.fs [] H (upd (upd H dx (exd dx [(f, y)])) a (exo a C (some dx))) hp h2 :=
    { keep := fun b o z n _ _ => kp b o (away n) z
      slot := fun b o z n _ _ => ⟨o.slots, kp b o (away n) z⟩
      free := fun b o z n _ => (upd_ne (away n)).trans ((upd_ne (below z)).trans n)
      there := fun b o z _ => if hb : b = a then ⟨_, hb ▸ hx⟩ else ⟨o, kp b o hb z⟩
      tups := fun b xs z => (upd_ne (at_ne e z exo_tup)).trans ((upd_ne (ne_of_none z bare)).trans z)
      frzs := fun b o v z => (upd_ne (at_ne e z exo_frz)).trans ((upd_ne (ne_of_none z bare)).trans z)
      tbls := fun b ps z => ⟨#[], by rw [upd_ne (at_ne e z exo_tbl), upd_ne (ne_of_none z bare), z]; simp⟩ }
  refine q dx _ bare ne (I.un (t' := tk2) un fun b o z => ?_)
  by_cases ha : b = a
  · subst ha
    rw [upd_same] at z
    cases z
    exact exo_ok hx
  · rw [upd_ne ha] at z
    by_cases hd : b = dx
    · subst hd
      rw [upd_same] at z
      cases z
      exact exd_ok ns (relO_put (fs := []) ry fun g => True.intro)
    · rw [upd_ne hd] at z
      refine (I.hok b o z).stay (fun c v hc z2 => kp c v ?_ z2) (fun c hc => ?_) fun c xs hc => ?_
      · exact hc.elim (fun q2 => q2 ▸ ha) fun q2 => at_ne e q2 exo_own
      · exact (upd_ne (at_ne e hc exo_own)).trans ((upd_ne (ne_of_none hc bare)).trans hc)
      · exact (upd_ne (at_ne e hc exo_tup)).trans ((upd_ne (ne_of_none hc bare)).trans hc)
/-- B.__init__(self, ..) -/
theorem xinit {us : List Value} {Q : Value → Shared → Prop} (T : XoC X.K C B newId initId bmB) (I : Inv X pins σ H s) (e : H a = some (exo a C none)) (few : us.length ≤ sizeLine) (q : ∀ s', Inv X pins σ H s' → Q .none s') :
    wpAny (model X.prog X.w) A (call (.builtin initId) (.ref a :: us)) Q E s := by
  obtain ⟨c1, c2, c3, c4, c5, c6, c7, c8, c9, c10, c11, c12, c13, c14, c15, c16, hC, hT⟩ := PySem.W.excInit_of I.kIn T.ini
  obtain ⟨t1, ho⟩ := exo_at I.hok e
  obtain ⟨hp, g, d, t, os⟩ := s
  refine wpAny_call (PySem.HandSPX.init_base T.base hT hC ho few ?_)
  intro h2 t2 kp hx
  have J := I.write (t' := t) (x := a) (e := a) (o := exo a C none) (by rw [e]; exact True.intro) (.inl rfl) kp ⟨_, hx⟩ (exo_ok hx)
  have same : upd H a (exo a C none) = H := funext fun b => by
    by_cases hb : b = a
    · rw [hb, upd_same, e]
    · rw [upd_ne hb]
  rw [same] at J
  exact q _ J
end
/-- the readings -/
def tBI (K : PySem.W.Frag) (B newId initId : String) (bmB : List Value) (ta : TA) : TE := fun σ H Q => ta σ H fun vs H1 => ∃ (a C : Addr) (ws : List V), vs = .ref a :: ws ∧ ws.length ≤ 1000 ∧ XoC K C B newId initId bmB ∧ H1 a = some (exo a C none) ∧ Q .non H1
def tXst (K : PySem.W.Frag) (B newId initId : String) (bmB : List Value) (f : Str) (to te : TE) : TS := fun D σ H => te σ H fun y H1 => to σ H1 fun x H2 => ∃ a C : Addr, x = .ref a ∧ XoC K C B newId initId bmB ∧ PySem.W.findIn K (.ref C) f = some none ∧
  H2 a = some (exo a C none) ∧ ∀ dx, H2 dx = none → dx ≠ a → D.nx σ (upd (upd H2 dx (exd dx [(f, y)])) a (exo a C (some dx)))
section
variable {X : Cx} {o e : Expr} {es : List Expr} {to te : TE} {ta : TA} {f : Str} {p p' p1 p2 pos : Pos} {B newId initId : String} {bmB : List Value} {x : Str}
theorem pe_binit {pl : Sem Bool} (hg : Gl X x) (hm : X.mg x = none) (boot : bootBuiltins x = some (.type B)) (nn : x ≠ "__name__") (ndb : (x == ("__debug__" : Str)) = false) (ty : typeOf (.type B) = pure (.type "type")) (ns : Manifest.isStub B = false) (hin : PySem.W.handedIn (.builtin initId) = true)
    (vV : PySem.W.findCls X.K (.type B) (.type "type") "__init__" = some (.val (.builtin initId))) (ha : PA X (e :: es) ta)
    (hc : eval (.Call (.Attribute (.Name x p1) "__init__" p2) (e :: es) [] pos) X.env = (do
      let ov ← eval (.Name x p1) X.env
      standAt p2.atName
      let (f, first) ← holding [ov] (getMethod ov "__init__" pl)
      callWith pos f first (backTo pos (starEach (e :: es) X.env)) (backToKw pos (keywordEach [] X.env))) := by rfl)
    (he : starEach (e :: es) X.env = (false, eval e X.env) :: starEach es X.env := by rfl) (hpl : (backTo pos (starEach es X.env)).any (·.1) = false := by rfl) :
    PE X (.Call (.Attribute (.Name x p1) "__init__" p2) (e :: es) [] pos) (tBI X.K B newId initId bmB ta) := by
  refine ⟨fun pins st σ H Q I want => PySem.W.methodCall_KW (ld_blt I hg hm boot ?_ nn ndb) hc⟩
  obtain ⟨m, fr⟩ := I.fr
  refine PySem.W.method_type fr I.ok.mod.kin ty ns vV hin ?_
  show wpAny _ _ (callWith pos (Value.builtin initId) [] (backTo pos (starEach (e :: es) X.env)) []) _ _ _
  refine PyProof.Rows.callWith_method1 (thn (ha.run pos pins _ σ H _ (I.tok _) want) ?_) he hpl
  rintro us s1 ⟨vs, H1, J, rel, a, C, ws, rfl, few, T, ea, q⟩
  cases rel with
  | @cons _ u0 _ ur ra rr =>
    cases (show u0 = Value.ref a from ra)
    have hlen : ur.length ≤ sizeLine := by
      rw [← Paired.length rr, sizeLine_eq]
      omega
    exact xinit T J ea hlen fun s2 J2 => ⟨.non, H1, J2, rfl, q⟩
theorem ps_xst (ho : PE X o to) (he : PE X e te) (sw : swapsWith e (some (.Attribute o f p')) pos.line X.env = pure false := by rfl) : PS X (.Assign [.Attribute o f p'] e pos) (tXst X.K B newId initId bmB f to te) := by
  refine ⟨fun pins st σ H D I want => plainObj_wpAny_Assign_Attribute (thn (he.run pins st σ H _ I want) ?_) sw⟩
  rintro v s1 ⟨y, H1, J1, r1, q1⟩
  refine thn (ho.run pins s1 σ H1 _ J1 q1) ?_
  rintro u s2 ⟨z, H2, J2, r2, a, C, rfl, T, no, ea, q⟩
  cases (show u = Value.ref a from r2)
  exact xst_new T J2 ea no r1 fun dx s3 n ne J3 => ⟨σ, _, J3, q dx n ne⟩
/-- C(e, ..) -/
theorem pmk_x {CX : CXT} {C fI : Addr} {k : Nat} {fd : FuncData} {ps : List Str} {sp : Sp} {ds : List Value} {dvs : List V} (T : XoC X.K C B newId initId bmB) (iC : PySem.W.findIn X.K (.ref C) "__init__" = some (some (.ref fI))) (tI : PySem.W.typeIn X.K (.ref fI) = some (.type "function"))
    (F1 : FnOk X.prog X.w X.K X.mg X.base CX k fI fd ps sp) (hr : Room (k + 1) X.A) (hb : Binds X.K fd ps ds) (hd : Vals dvs ds) (hx : Passes CX X (fun _ _ _ => False)) (hg : Gl X x) (hm : X.mg x = some (.ref C)) (ha : PA X (e :: es) ta)
    (hdb : (x == ("__debug__" : Str)) = false := by decide) (he : starEach (e :: es) X.env = (false, eval e X.env) :: starEach es X.env := by rfl) (hpl : (backTo pos (starEach es X.env)).any (·.1) = false := by rfl) :
    PMk X (.Call (.Name x p) (e :: es) [] pos) (tMkO C sp dvs ta) := by
  intro pins st σ H Q I want
  refine wpAny_Call_Name_kw (ld_glob I hg hm (PySem.W.callWith_K (h₀ := X.base) I.ok.mod.kin T.kC (thn (ha.run pos pins st σ H _ I want) ?_) he hpl) hdb)
  rintro us s1 ⟨vs, H1, J, rel, few, q1⟩
  refine ⟨J.kIn, ?_⟩
  obtain ⟨c1, c2, c3, c4, c5, c6, c7, c8, c9, c10, c11, c12, c13, c14, c15, c16, hC, hT⟩ := PySem.W.excInit_of J.kIn T.ini
  show wpAny _ _ (call (.ref C) us) _ _ _
  obtain ⟨hp, g, dr, tk, os⟩ := s1
  have up1 : hp.objs.size ≤ hp.objs.size + 1 := Nat.le_succ _
  have hq := q1 (hp.objs.size + 1) (J.hok.fresh up1)
  have kk : ∀ b o, hp.get? b = some o → ((hp.push (PySem.W.kdv_tup us)).push (PySem.HandSPX.excO C hp.objs.size)).get? b = some o := fun b o z => Heap.get?_push_of_some _ (Heap.get?_push_of_some _ z)
  have made : ((hp.push (PySem.W.kdv_tup us)).push (PySem.HandSPX.excO C hp.objs.size)).get? (hp.objs.size + 1) = some (PySem.HandSPX.excO C hp.objs.size) := by heap_get
  have J2 : Inv X pins σ (upd H1 (hp.objs.size + 1) (exo (hp.objs.size + 1) C none)) ⟨(hp.push (PySem.W.kdv_tup us)).push (PySem.HandSPX.excO C hp.objs.size), g, dr, tk, os⟩ := J.laid (t' := tk) kk up1 (exo_ok made)
  have r2 : Vals (V.ref (hp.objs.size + 1) :: (vs ++ dvs)) (Value.ref (hp.objs.size + 1) :: (us ++ ds)) := .cons rfl (rel.append hd)
  have hl : (Value.ref (hp.objs.size + 1) :: us ++ ds).length = ps.length := by
    have z := r2.length
    rw [F1.len _ _ _ _ hq] at z
    exact z.symm
  have short : us.length ≤ sizeLine := by
    rw [← Paired.length rel, sizeLine_eq]
    omega
  refine wpAny_call (PySem.HandSPX.call_own T.base hT hC (PySem.W.looks_findIn J.kIn iC) (fun self => PySem.W.bind_fn J.kIn self tI) short (codeAny_mono (F1.run _ X.stack _ _ ⟨Value.ref (hp.objs.size + 1) :: us, []⟩ (Value.ref (hp.objs.size + 1) :: (us ++ ds)) _ _ (fun _ _ _ => False) (hr.make C us []) (J2.env0.make C us []) (hb _ (Value.ref (hp.objs.size + 1) :: us) J2.kIn hl) r2 hq) ?_))
  intro r s2 z
  cases r with
  | error er => exact hx pins σ _ _ er s2 J2 z
  | ok fl =>
    cases fl with
    | ret u =>
      obtain ⟨v, H2, os2, bare2, un2, hok2, rv, ev, dd, fs, ea, ed, nd1, q2⟩ := z
      subst ev
      obtain ⟨h2, g2, d2, t2, os3⟩ := s2
      exact ⟨rv, mk_end (raises_own T.exC T.tyC) J up1 kk un2 hok2 os2 bare2 ea ed nd1 q2⟩
    | next => exact z.elim
    | brk => exact z.elim
    | cont => exact z.elim
end
end HF
/-! a refusal caught by one of several classes, and kept -/
namespace HF
open PySem PySem.Spec PyProof.Rows L2
/-- an exception of the class cls that was caught: at a, its dict at d -/
def ExH (cls : Value) (d : Option Addr) (a : Addr) : HO := .ext fun h => ∃ oe vs, h.get? a = some oe ∧ Zc cls d oe ∧ oe.data = .fields vs
theorem exH_ok {P : Program} {w : World} {H : Hp} {h : Heap} {a : Addr} {cls : Value} {d : Option Addr} {oe : Obj} {vs : Array Value} (e : h.get? a = some oe) (z : Zc cls d oe) (hd : oe.data = .fields vs) : ObjOk P w H h a (ExH cls d a) := by
  refine ⟨⟨oe, vs, e, z, hd⟩, ⟨oe, e⟩, ?_⟩
  rintro h1 h2 ⟨o2, v2, e2, z2, d2⟩ k
  exact ⟨o2, v2, k _ e2, z2, d2⟩
theorem fly_keeps {Bs h h2 : Heap} {l : List Env} {a : Addr} {Z : Obj → Prop} (f : PySem.HandSPX.FlyingZ Bs l a Z h) (k : ∀ b o, h.get? b = some o → h2.get? b = some o) : PySem.HandSPX.FlyingZ Bs l a Z h2 := by
  obtain ⟨f1, f2, f3, oe, vs, T, oT, tt, e1, e2, e3, e4, e5, e6, e7, e8, e9⟩ := f
  refine ⟨fun b o z => k b o (f1 b o z), f2, f3.of_keeps fun b o z _ => ⟨o, k b o z, rfl⟩, oe, vs, T, oT, tt, k _ _ e1, e2, e3, e4, e5, e6, k _ _ e7, e8, e9⟩
theorem Inv.track {X : Cx} {pins : List (Addr × Obj)} {σ : L2.St} {H : Hp} {s : Shared} {a : Addr} {φ : Heap → Prop} (I : Inv X pins σ H s) (hn : H a = none) (h0 : X.s_0.heap.get? a = none) (nL : a ≠ X.env.locals)
    (nC : ∀ x c, X.env.cells.lookup x = some c → c ≠ a) (nP : ∀ p ∈ X.pn ++ pins, p.1 ≠ a) (new : ObjOk X.prog X.w (upd H a (.ext φ)) s.heap a (.ext φ)) : Inv X pins σ (upd H a (.ext φ)) s where
  ok := I.ok
  os := I.os
  bare := I.bare
  base :=
    { keep := I.base.keep
      slot := I.base.slot
      free := fun b o z n hx => by
        have ne : b ≠ a := fun e => by
          rw [e, h0] at z
          exact nomatch z
        rw [upd_ne ne]
        exact I.base.free b o z n hx
      there := I.base.there
      tups := fun b xs z => by
        have q := I.base.tups b xs z
        rw [upd_ne (ne_of_none q hn)]
        exact q
      frzs := fun b o u z => by
        have q := I.base.frzs b o u z
        rw [upd_ne (ne_of_none q hn)]
        exact q
      tbls := fun b ps z => by
        obtain ⟨more, q⟩ := I.base.tbls b ps z
        exact ⟨more, by rw [upd_ne (ne_of_none q hn)]; exact q⟩ }
  loc := I.loc
  cell := I.cell
  free := by
    rw [upd_ne nL.symm]
    exact I.free
  freeC := fun x c e => by
    rw [upd_ne (nC x c e)]
    exact I.freeC x c e
  pin := fun p hp => by
    obtain ⟨p1, p2, p3⟩ := I.pin p hp
    exact ⟨p1, by rw [upd_ne (nP p hp)]; exact p2, p3⟩
  hok := fun b o z => by
    by_cases e : b = a
    · subst e
      rw [upd_same] at z
      cases z
      exact new
    · rw [upd_ne e] at z
      exact (I.hok b o z).stay (fun _ _ _ q => q) (fun c hc => by rw [upd_ne (ne_of_none hc hn)]; exact hc) fun c xs hc => by rw [upd_ne (ne_of_none hc hn)]; exact hc
  len := I.len
/-- what the clause wishes: the exception stays, at a -/
def wHold (K : PySem.W.Frag) (Cs : List Addr) (i : Nat) (ts : Addr → Value → Option Addr → TS) (Wout : WX) (D : Ends) : WX := fun cls d σ H =>
  ∃ b, PySem.W.exmAny K cls (Cs.map Value.ref) = some b ∧
    (b = true → ∀ a, H a = none → ts a cls d { nx := fun τ G => D.nx (τ.set i none) (upd G a (ExH cls d a)), rt := fun _ _ => False, bk := fun _ _ => False, ct := fun _ _ => False } (σ.set i (some (.ref a))) H) ∧ (b = false → Wout cls d σ H)
section
variable {X : Cx} {n : Str} {i : Nat} {body suite : List Stmt} {b₀ : Stmt} {x1 : Nat} {np pos pos' : Pos} {tb : WX → TS} {ts : Addr → Value → Option Addr → TS} {Wout : WX} {n1 n2 n3 n4 : Str} {q1 q2 q3 q4 : Pos} {C1 C2 C3 C4 : Addr}
theorem ps_try_hold (top : X.stack = X.env :: X.outer) (frm : X.env.frame = some X.env.locals) (nd : X.N.Nodup) (hi : X.N[i]? = some n) (loc : X.env.kindOf n = some .local) (ex0 : X.ex = [])
    (g1 : Gl X n1) (m1 : X.mg n1 = some (.ref C1)) (g2 : Gl X n2) (m2 : X.mg n2 = some (.ref C2)) (g3 : Gl X n3) (m3 : X.mg n3 = some (.ref C3)) (g4 : Gl X n4) (m4 : X.mg n4 = some (.ref C4)) (tk : Takes X Wout)
    (hb : ∀ (W : WX) (pn : List (Addr × Obj)) (xe : Value → Shared → Prop), Takes (X.tr pn xe) W → PassesOwn (model X.prog X.w) X.A X.env xe → PSs (X.tr pn xe) body (tb W))
    (hsu : ∀ (a : Addr) (oe : Obj) (cls : Value) (d : Option Addr) (pn : List (Addr × Obj)), Zc cls d oe → (∃ vs, oe.data = .fields vs) → PSs (X.suite a ((a, oe) :: pn)) (b₀ :: suite) (ts a cls d))
    (d1 : (n1 == ("__debug__" : Str)) = false := by decide) (d2 : (n2 == ("__debug__" : Str)) = false := by decide) (d3 : (n3 == ("__debug__" : Str)) = false := by decide) (d4 : (n4 == ("__debug__" : Str)) = false := by decide) :
    PS X (.Try body [.ExceptHandler (some (.Tuple [.Name n1 q1, .Name n2 q2, .Name n3 q3, .Name n4 q4] x1 np)) (some n) (b₀ :: suite) pos'] [] [] pos) (fun D σ H => tb (wHold X.K [C1, C2, C3, C4] i ts Wout D) D σ H) := by
  refine ⟨fun pins st σ H D I want => ?_⟩
  have ok := I.ok
  have frs1 : X.A.frames = some (X.env :: X.outer) := by rw [ok.frames, top]
  refine wpAny_Try_except ?_
  refine wpAny_mono ((hb (wHold X.K [C1, C2, C3, C4] i ts Wout D) (X.pn ++ pins) (fun e u1 => wpAny (model X.prog X.w) X.A (noteFrame e X.env) (fun _ u2 => wpAny (model X.prog X.w) X.A (setFlight e none) (fun _ u3 =>
    wpAny (model X.prog X.w) X.A (handleBy e X.env [.ExceptHandler (some (.Tuple [.Name n1 q1, .Name n2 q2, .Name n3 q3, .Name n4 q4] x1 np)) (some n) (b₀ :: suite) pos']) (SP X pins D) X.xe u3) X.xe u2) X.xe u1) ?grab PassesOwn.looking).run [] st σ H D (I.toTry _) want) ?thru (fun e u he => he)
  case grab =>
    rintro u sx ⟨a, Bs, sI, pins2, σ2, H2, cls, d, rfl, JT, nb, up, sky, na, eos, ag, b, hb1, yes, no⟩
    have J : Inv X pins σ2 H2 sI := JT.ofTry ok
    have sky2 : Sky Bs (X.env :: X.outer) a (Zc cls d) X.env.locals sx.heap := by
      rw [← top]
      exact sky
    show wpAny (model X.prog X.w) X.A (noteFrame (.ref a) X.env) _ _ _
    refine Sky.land Zc.steady frs1 frm sky2 fun h3 fl3 up3 => ?_
    have J3 : Inv X pins σ2 H2 { sx with heap := h3 } := J.landed nb fl3.1 (up.trans up3) eos ag
    obtain ⟨oe3, vs3, he3, hz3, hd3⟩ := fl3.there
    have off : ∀ {h : Heap} {o : Obj} {vs : Array Value}, h.FunFrames Bs (X.env :: X.outer) → h.get? a = some o → o.data = .fields vs → a ∉ frs (X.env :: X.outer) := by
      intro h o vs ff e dd hm
      obtain ⟨_, o2, e2, bad⟩ := ff.mem hm
      rw [e] at e2
      cases e2
      exact bad _ dd
    have nfr := off fl3.2.2.1 he3 hd3
    have nL : a ≠ X.env.locals := fun z => nfr (List.mem_filterMap.mpr ⟨X.env, List.mem_cons_self, by rw [frm, z]⟩)
    have nF : a ∉ X.fs := fun hm => by
      obtain ⟨e, he, q⟩ := List.mem_filterMap.mp hm
      exact nfr (List.mem_filterMap.mpr ⟨e, List.mem_cons_of_mem _ he, q⟩)
    have bareB : Bs.get? a = none := fl3.2.1
    have gone : sI.heap.get? a = none := by
      cases e : sI.heap.get? a with
      | none => rfl
      | some o =>
        have z := nb a o e (by rw [top]; exact nfr)
        rw [bareB] at z
        exact nomatch z
    have gone0 : X.s_0.heap.get? a = none := by
      cases e : X.s_0.heap.get? a with
      | none => rfl
      | some o =>
        obtain ⟨o2, z⟩ := J.base.there a o e (by rw [ex0]; exact List.not_mem_nil)
        rw [gone] at z
        exact nomatch z
    have apart : ∀ p ∈ X.pn ++ pins, p.1 ≠ a := fun p hp z => by
      have q := (J.pin p hp).1
      rw [z, gone] at q
      exact nomatch q
    have S3 := J3.suite he3 hd3 na nL nF
    refine wpAny_handleBy_cons (codeAny_handlers_test ?_) (by intro q; cases q)
    have LT : PySem.W.Looks (model X.prog X.w) h3 (typeOf (.ref a)) cls := fun A Q E s k q => wpAny_typeOf_ref (k _ _ he3) (by rw [hz3.1]; exact q)
    have kp4 : ∀ b o, h3.get? b = some o → (h3.push { cls := .type "tuple", data := .seq [Value.ref C1, Value.ref C2, Value.ref C3, Value.ref C4].toArray }).get? b = some o := fun _ _ z => Heap.get?_push_of_some _ z
    have at4 : (h3.push { cls := .type "tuple", data := .seq [Value.ref C1, Value.ref C2, Value.ref C3, Value.ref C4].toArray }).get? h3.objs.size = some { cls := .type "tuple", data := .seq [Value.ref C1, Value.ref C2, Value.ref C3, Value.ref C4].toArray } := Heap.get?_push_size _ rfl
    refine wpAny_Tuple_spliced (PyProof.Rows.args_cons (ld_glob (X := X.suite a ((a, oe3) :: (X.pn ++ pins))) S3 g1 m1 ?_ d1))
    refine PyProof.Rows.args_cons (ld_glob (X := X.suite a ((a, oe3) :: (X.pn ++ pins))) S3 g2 m2 ?_ d2)
    refine PyProof.Rows.args_cons (ld_glob (X := X.suite a ((a, oe3) :: (X.pn ++ pins))) S3 g3 m3 ?_ d3)
    refine PyProof.Rows.args_cons (ld_glob (X := X.suite a ((a, oe3) :: (X.pn ++ pins))) S3 g4 m4 ?_ d4)
    refine PyProof.Rows.args_nil ⟨(by rw [sizeLine_eq]; exact (by decide : 4 ≤ 16777216)), ?_⟩
    generalize hh4 : h3.push { cls := .type "tuple", data := .seq [Value.ref C1, Value.ref C2, Value.ref C3, Value.ref C4].toArray } = h4 at *
    have fl4 := fly_keeps fl3 kp4
    have up4 : sI.heap.UpToSlots h4 := fun b o e hd => by
      obtain ⟨sl, z⟩ := (up.trans up3) b o e hd
      exact ⟨sl, kp4 _ _ z⟩
    have J4 : Inv X pins σ2 H2 { sx with heap := h4 } := J.landed nb fl4.1 up4 eos ag
    have LM := PySem.W.exm_tup4 (M := model X.prog X.w) (K := X.K) (tp := h3.objs.size) (e := a) J4.kIn (LT.keeps kp4) at4 hb1
    refine LM.here ?_
    cases b with
    | true =>
      refine codeAny_handlers_suite_as ?_
      refine PySem.HandSPX.lands_againZ fl4 fun h5 fl5 up5 => ?_
      have J5 : Inv X pins σ2 H2 { sx with heap := h5 } := J.landed nb fl5.1 (up4.trans up5) eos ag
      obtain ⟨oe5, vs5, he5, hz5, hd5⟩ := fl5.there
      have S5 := J5.suite he5 hd5 na nL nF
      refine store_ok (X := X.suite a ((a, oe5) :: (X.pn ++ pins))) (v := .ref a) S5 nd hi (.inl loc) rfl (fun s6 S6 => ?_) (.inr loc)
      refine wpAny_mono ((hsu a oe5 cls d (X.pn ++ pins) hz5 ⟨_, hd5⟩).run [] s6 _ H2 _ S6 (yes rfl a na)) (fun fl7 s7 hsp => ?_) (fun _ _ z => z.elim)
      cases fl7 with
      | next =>
        obtain ⟨σ7, H7, S7, q7⟩ := hsp
        obtain ⟨pa1, pa2, pa3, pa4, pa5⟩ := S7.pin (a, oe5) (List.mem_append_left _ List.mem_cons_self)
        have J7 : Inv X pins σ7 H7 s7 := S7.unsuite ok
        have cells : ∀ x c, X.env.cells.lookup x = some c → c ≠ a := fun x c e z => by
          obtain ⟨v, ov, w1, w2⟩ := J7.cell x c e
          rw [z, pa1] at w1
          cases w1
          exact pa5 _ w2
        have J8 : Inv X pins σ7 (upd H7 a (ExH cls d a)) s7 := Inv.track J7 pa2 gone0 nL cells apart (exH_ok pa1 hz5 hd5)
        exact gone_ok J8 nd hi loc fun s8 J9 => ⟨_, _, J9, q7⟩
      | brk =>
        obtain ⟨σ7, H7, S7, q7⟩ := hsp
        exact q7.elim
      | cont =>
        obtain ⟨σ7, H7, S7, q7⟩ := hsp
        exact q7.elim
      | ret v =>
        obtain ⟨y7, σ7, H7, S7, r7, q7⟩ := hsp
        exact q7.elim
    | false =>
      show wpAny _ X.A (handleBy (.ref a) X.env []) _ _ _
      refine wpAny_handleBy_nil ?_
      obtain ⟨k1, k2, k3, oe, vs, T, oT, tt, he, hz, hd, h1, hr⟩ := id fl4
      unfold PySem.passOn
      refine wpAny_bind (wpAny_field he hd h1 ?_)
      rw [if_neg (show ¬ ((Value.ref T == Value.none) = true) from by simp)]
      have out : wpAny (model X.prog X.w) X.A (setFlight (.ref a) X.env.frame) (fun _ u4 => wpAny (model X.prog X.w) X.A (throw (.ref a) : Sem Flow) (SP X pins D) X.xe u4) X.xe { sx with heap := h4 } := by
        rw [frm]
        refine PySem.HandSPX.setFlight_upZ fl4 fun h5 fh5 up5 => wpAny_throw (tk _ _ ?_)
        exact ⟨a, Bs, sI, pins, σ2, H2, cls, d, rfl, J, nb, up4.trans up5, .inr (.inr (by rw [top]; exact fh5)), na, eos, ag, no rfl⟩
      first
        | exact wpAny_bind (wpAny_pure (wpAny_bind out))
        | exact wpAny_bind out
  case thru =>
    intro f u hsp
    cases f with
    | next =>
      obtain ⟨τ, G, J, q⟩ := hsp
      exact wpAny_execs_nil ⟨τ, G, J.ofTry ok, q⟩
    | brk =>
      obtain ⟨τ, G, J, q⟩ := hsp
      exact ⟨τ, G, J.ofTry ok, q⟩
    | cont =>
      obtain ⟨τ, G, J, q⟩ := hsp
      exact ⟨τ, G, J.ofTry ok, q⟩
    | ret v =>
      obtain ⟨y, τ, G, J, r, q⟩ := hsp
      exact ⟨y, τ, G, J.ofTry ok, r, q⟩
end
end HF
namespace HF
open PySem PySem.Spec PyProof.Rows L2
/-- what isinstance and the reading of fields ask of a class -/
structure XIs (K : PySem.W.Frag) (C : Addr) : Prop where
  cl : (PySem.W.clsIn K C).isSome = true
  ga : PySem.W.findIn K (.ref C) "__getattribute__" = some (some (.builtin "BaseException.__getattribute__"))
  gg : PySem.W.findIn K (.ref C) "__getattr__" = some none
  ex : PySem.W.subIn K (.ref C) (.type "BaseException") = some true
  hd : PySem.W.hasDictIn K C = true
  ca : PySem.W.findIn K (.ref C) "__class__" = some (some (.builtin "object.__class__"))
  sg : PySem.W.specialIn K (.builtin "object.__class__") "__get__" = some (some (.builtin "getset_descriptor.__get__"))
  tk : PySem.W.takesIn K (.builtin "object.__class__") = some true
  ob : PySem.W.mroIn K C (.type "object") = some true
section
variable {X : Cx}
theorem held_inst {pins : List (Addr × Obj)} {σ : L2.St} {H : Hp} {s : Shared} {a C dd : Addr} {fs : List (Str × V)} (I : Inv X pins σ H s) (ha : H a = some (ExH (.ref C) (some dd) a)) (hd : H dd = some (.xd fs)) :
    ∃ (oe od : Obj) (mA : Str → Option Value), PySem.W.InstAt s.heap a oe C (some od) ∧ (∀ f, RelO (fs.lookup f) (mA f)) ∧ (∀ f, PySem.W.lookIn f od = some (mA f)) := by
  obtain ⟨⟨oe, vs, e1, z, e2⟩, _⟩ := (show ObjOk X.prog X.w H s.heap a (ExH (.ref C) (some dd) a) from I.hok a _ ha)
  obtain ⟨mA, ns, rel⟩ := (show ObjOk X.prog X.w H s.heap dd (.xd fs) from I.hok dd _ hd)
  obtain ⟨od, ho, hl⟩ := lookIn_ns ns
  refine ⟨oe, od, mA, ⟨e1, z.1, by unfold PySem.W.notCls; rw [e2] <;> rfl, by rw [z.2]; exact ho⟩, rel, hl⟩
def rIsX (K : PySem.W.Frag) : List V → Hp → VK → Prop := fun xs H Q => ∃ (a C dd : Addr) (fs : List (Str × V)) (c : V) (cv : Value) (b : Bool), xs = [.ref a, c] ∧ H a = some (ExH (.ref C) (some dd) a) ∧ H dd = some (.xd fs) ∧ XIs K C ∧ (∀ u, RelV c u → u = cv) ∧ PySem.W.kitOne K (.ref C) cv = some b ∧ Q (.bl b) H
theorem call_isX : CallR X (.builtin "isinstance") (rIsX X.K) := by
  intro pins s σ H xs us Q I rel hyp
  obtain ⟨a, C, dd, fs, c, cv, b, rfl, ha, hd, T, hc, e, q⟩ := hyp
  obtain ⟨u1, u2, rfl, r1, r2⟩ := vals2 rel
  cases r1
  cases hc _ r2
  obtain ⟨oe, od, mA, J, _, _⟩ := held_inst I ha hd
  exact PySem.W.kia_one (PySem.W.kitx_exc T.cl T.ga T.gg T.ex T.ca T.sg T.tk T.ob) I.kIn J e (fun z => nomatch z) fun tk => ⟨.bl b, H, I.kept (t' := tk) fun _ _ z => z, rfl, q⟩
def rIsXT (K : PySem.W.Frag) : List V → Hp → VK → Prop := fun xs H Q => ∃ (a t C dd : Addr) (fs : List (Str × V)) (cs : List Addr) (b : Bool), xs = [.ref a, .ref t] ∧ H a = some (ExH (.ref C) (some dd) a) ∧ H dd = some (.xd fs) ∧ XIs K C ∧ H t = some (.tup (cs.map V.ref)) ∧ PySem.W.kitAny K (.ref C) (cs.map Value.ref) = some b ∧ Q (.bl b) H
theorem call_isXT : CallR X (.builtin "isinstance") (rIsXT X.K) := by
  intro pins s σ H xs us Q I rel hyp
  obtain ⟨a, t, C, dd, fs, cs, b, rfl, ha, hd, T, ht, e, q⟩ := hyp
  obtain ⟨u1, u2, rfl, r1, r2⟩ := vals2 rel
  cases r1
  cases r2
  obtain ⟨oe, od, mA, J, _, _⟩ := held_inst I ha hd
  obtain ⟨its, rv, ⟨o, ho, hcl, n, hdat⟩, _⟩ := I.tuple (.inl (.inl ht) : SqT X.K H t (cs.map V.ref))
  have eits := refs_at rv
  subst eits
  obtain ⟨oc, odd, oda, osl⟩ := o
  dsimp only at hcl hdat
  subst hcl hdat
  exact PySem.W.kia_tup (PySem.W.kitx_exc T.cl T.ga T.gg T.ex T.ca T.sg T.tk T.ob) I.kIn J ho e (fun z => nomatch z) fun tk => ⟨.bl b, H, I.kept (t' := tk) fun _ _ z => z, rfl, q⟩
def tXfH (K : PySem.W.Frag) (f : Str) (te : TE) : TE := fun σ H Q => te σ H fun x H1 => ∃ (a C dd : Addr) (fs : List (Str × V)) (v : V), x = .ref a ∧ H1 a = some (ExH (.ref C) (some dd) a) ∧ H1 dd = some (.xd fs) ∧ fs.lookup f = some v ∧ XIs K C ∧ PySem.W.findIn K (.ref C) f = some none ∧ Q v H1
theorem pe_xfH {e : Expr} {te : TE} {pos : Pos} {f : Str} (he : PE X e te) (hb : attributeBase e f X.env (eval e X.env) = eval e X.env := by rfl) : PE X (.Attribute e f pos) (tXfH X.K f te) := by
  refine ⟨fun pins s σ H Q I want => attr_of hb (thn (he.run pins s σ H _ I want) ?_)⟩
  rintro u s1 ⟨x, H1, J1, rx, a, C, dd, fs, v, rfl, ha, hd, hl, T, no, q⟩
  cases (show u = Value.ref a from rx)
  obtain ⟨oe, od, mA, J, rel, look⟩ := held_inst J1 ha hd
  obtain ⟨u2, hu, ru⟩ := RelO.some_of (v := v) (o := mA f) (by rw [← hl]; exact rel f)
  exact PySem.HandSPX.exc_get J1.kIn J T.ga T.gg T.ex (PySem.W.findObj_own T.hd no rfl (by rw [look, hu])) (handed_of ru) ⟨v, H1, J1.tok _, ru, q⟩
end
end HF
namespace HF
open PySem PySem.Spec PyProof.Rows L2
/-! ### rising lists of texts -/
theorem srt_eq (xs : List Str) : srt xs = xs.mergeSort fun a b => decide (a.cps.toList ≤ b.cps.toList) := by
  unfold srt
  have e := PySem.W.dataLe_str (β := Str) id
  have e2 : PySem.W.dataLe false PyData.str = fun a b : Str => decide (a.cps.toList ≤ b.cps.toList) := e
  rw [e2]
theorem srt_rise (xs : List Str) : (srt xs).Pairwise fun a b => a.cps.toList ≤ b.cps.toList := by
  rw [srt_eq]
  refine (List.pairwise_mergeSort (le := fun a b : Str => decide (a.cps.toList ≤ b.cps.toList)) (fun a b c h1 h2 => ?_) (fun a b => ?_) xs).imp fun h => of_decide_eq_true h
  · exact decide_eq_true (List.le_trans (of_decide_eq_true h1) (of_decide_eq_true h2))
  · rcases List.le_total a.cps.toList b.cps.toList with h | h
    · simp [h]
    · simp [h]
theorem str_anti {a b : Str} (h1 : a.cps.toList ≤ b.cps.toList) (h2 : b.cps.toList ≤ a.cps.toList) : a = b := by
  have e := List.le_antisymm h1 h2
  obtain ⟨⟨x⟩⟩ := a
  obtain ⟨⟨y⟩⟩ := b
  have e2 : x = y := e
  rw [e2]
theorem rise_one : ∀ {xs ys : List Str}, xs.Perm ys → (xs.Pairwise fun a b => a.cps.toList ≤ b.cps.toList) → (ys.Pairwise fun a b => a.cps.toList ≤ b.cps.toList) → xs = ys
  | [], ys, p, _, _ => p.nil_eq
  | x :: xs, [], p, _, _ => p.symm.nil_eq.symm
  | x :: xs, y :: ys, p, h1, h2 => by
    obtain ⟨a1, a2⟩ := List.pairwise_cons.mp h1
    obtain ⟨b1, b2⟩ := List.pairwise_cons.mp h2
    have e : x = y := by
      rcases List.mem_cons.mp (p.mem_iff.mp List.mem_cons_self) with q | q
      · exact q
      · rcases List.mem_cons.mp (p.mem_iff.mpr (List.mem_cons_self (a := y))) with q2 | q2
        · exact q2.symm
        · exact str_anti (a1 y q2) (b1 x q)
    subst e
    rw [rise_one (List.Perm.cons_inv p) a2 b2]
theorem srt_filter (p : Str → Bool) (xs : List Str) : srt (xs.filter p) = (srt xs).filter p :=
  rise_one ((srt_perm _).trans ((srt_perm xs).filter p).symm) (srt_rise _) ((srt_rise xs).filter p)
/-! ### x not in a tuple, whatever x -/
section
variable {X : Cx}
def rNotInT (K : PySem.W.Frag) : R2 := fun x y H Q => ∃ d ds, Dp K H x d ∧ Dp K H y (.tuple ds) ∧ SeqAt.shaped d = true ∧ SeqAt.shaped (.tuple ds) = true ∧ Q (.bl (!ds.any fun z => PyData.eqv z d)) H
theorem op_notInT (hu : X.A.units + 65 < cLine) : OpR X (compareOp .NotIn) (rNotInT X.K) := by
  intro pins s σ H x y v u Q I rx ry hyp
  obtain ⟨d, ds, hd, he, sd, se, q⟩ := hyp
  obtain ⟨as, r1⟩ := Dp.reads I d x v hd rx
  obtain ⟨bs, r2⟩ := Dp.reads I (.tuple ds) y u he ry
  have deep : d.depth ≤ 64 := of_decide_eq_true (Bool.and_eq_true_iff.mp sd).2
  exact SeqAt.notIn_tuple_reads r2 r1 (SeqAt.canLay_of_shaped se) (SeqAt.canLay_of_shaped sd) (by have := Nat.min_le_right (PyData.depthAll ds) d.depth; omega) ⟨.bl _, H, I, rfl, q⟩
end
theorem eqv_strs (b : Str) (zs : List Str) : ((zs.map PyData.str).any fun z => PyData.eqv z (.str b)) = decide (b ∈ zs) := by
  induction zs with
  | nil => simp
  | cons z r ih =>
    rw [List.map_cons, List.any_cons, ih]
    show ((z == b) || decide (b ∈ r)) = decide (b ∈ z :: r)
    by_cases e : z = b
    · simp [e]
    · have e2 : ¬ b = z := fun q => e q.symm
      simp [e, e2]
theorem eqv_other {d : PyData} (h : ∀ b, d ≠ .str b) (zs : List Str) : ((zs.map PyData.str).any fun z => PyData.eqv z d) = false := by
  induction zs with
  | nil => rfl
  | cons z r ih =>
    rw [List.map_cons, List.any_cons, ih, Bool.or_false]
    cases d with
    | str b => exact absurd rfl (h b)
    | _ => rfl
theorem shp_tup {zs : List Str} (h : ∀ z ∈ zs, Nm z) : SeqAt.shaped (.tuple (zs.map PyData.str)) = true := by
  unfold SeqAt.shaped
  rw [show (PyData.tuple (zs.map PyData.str)).canLay0 = true from canLay_strs h]
  show (true && decide (PyData.depthAll (zs.map PyData.str) + 1 ≤ 64)) = true
  rw [depth_strs]
  rfl
/-! ### promises -/
def clsB : Stmt → List Stmt
  | .ClassDef _ _ _ body _ _ _ _ _ _ _ => body
  | _ => []
abbrev initOf (st : Stmt) : Stmt := (clsB st).getD 0 (.Pass ⟨0, 0, 0, 0⟩)
def spXI (C : Addr) (f : Str) : Sp := fun vs H Q _ => ∃ (a : Addr) (v : V), vs = [.ref a, v] ∧ H a = some (exo a C none) ∧ ∀ dx, H dx = none → dx ≠ a → Q .non (upd (upd H dx (exd dx [(f, v)])) a (exo a C (some dx)))
variable (K : PySem.W.Frag)
/-- where the heap has such a book or not, and may it go -/
def spLaidX (CN CM : Addr) : Sp := fun vs H Q E => ∃ (h r : Addr) (v : V) (d : PyData) (zs : List Str) (qs : List (Str × Str)), vs = [.ref h, .ref r, v] ∧ Tp H h (zs.map V.str) ∧ PqA K H r qs ∧ Dp K H v d ∧ SeqAt.shaped d = true ∧ (∀ z ∈ zs, Nm z) ∧ zs.length ≤ 1000 ∧ qs.length ≤ 400 ∧
  ((∃ b, d = .str b ∧ b ∈ zs ∧ ((lets qs zs b = true ∧ ∀ (H' : Hp) (t : Addr), Same H H' → H t = none → Tp H' t ((onTop b zs).map V.str) → Q (.ref t) H') ∨ (lets qs zs b = false ∧ ∀ (H' : Hp) (dd : Addr), Same H H' → H' dd = some (.xd [(("book" : Str), v)]) → E (.ref CM) (some dd) H'))) ∨
    ((∀ b, d = .str b → b ∉ zs) ∧ ∀ (H' : Hp) (dd : Addr), Same H H' → H' dd = some (.xd [(("book" : Str), v)]) → E (.ref CN) (some dd) H'))
def spTold : Sp := fun vs H Q _ => ∃ (h r : Addr) (v : V) (d : PyData) (zs : List Str) (qs : List (Str × Str)), vs = [.ref h, .ref r, v] ∧ Tp H h (zs.map V.str) ∧ PqA K H r qs ∧ Dp K H v d ∧ SeqAt.shaped d = true ∧ (∀ z ∈ zs, Nm z) ∧ zs.length ≤ 1000 ∧ qs.length ≤ 400 ∧
  ((∃ b, d = .str b ∧ b ∈ zs ∧ ((lets qs zs b = true ∧ ∀ (H' : Hp) (t : Addr), Same H H' → Tp H' t ((onTop b zs).map V.str) → Q (.ref t) H') ∨ (lets qs zs b = false ∧ ∀ (H' : Hp) (l : Addr), Same H H' → H' l = some (.lst [.str "may not", v]) → Q (.ref l) H'))) ∨
    ((∀ b, d = .str b → b ∉ zs) ∧ ∀ (H' : Hp) (l : Addr), Same H H' → H' l = some (.lst [.str "none", v]) → Q (.ref l) H'))
def spMayGo : Sp := fun vs H Q _ => ∃ (h r : Addr) (zs : List Str) (qs : List (Str × Str)), vs = [.ref h, .ref r] ∧ Hq K H h zs ∧ PqA K H r qs ∧ zs.length ≤ 1000 ∧ qs.length ≤ 400 ∧
  ∀ (H' : Hp) (l : Addr), Same H H' → H l = none → H' l = some (.lst ((srt (zs.filter (lets qs zs))).map V.str)) → Q (.ref l) H'
def spStrange : Sp := fun vs H Q _ => ∃ (h : Addr) (zs : List Str), vs = [.ref h] ∧ Tp H h (zs.map V.str) ∧ zs.length ≤ 12 ∧
  ∀ (H' : Hp) (x : Str), Same H H' → x ∉ zs → Nm x → Q (.str x) H'
end HF
namespace HF
open PySem PySem.Spec PyProof.Rows L2
/-- three values by name, turned about -/
def g321 {α : Type} : List α → List α → List α
  | [], [r, h, u] => [u, h, r]
  | _, _ => []
theorem g321_rel {vs : List V} {us : List Value} {zs : List V} {ws : List Value} (h1 : Vals vs us) (h2 : Vals zs ws) : Vals (g321 vs zs) (g321 us ws) := by
  cases h1 with
  | nil =>
    cases h2 with
    | nil => exact .nil
    | cons a t =>
      cases t with
      | nil => exact .nil
      | cons b t2 =>
        cases t2 with
        | nil => exact .nil
        | cons c t3 =>
          cases t3 with
          | nil => exact .cons c (.cons b (.cons a .nil))
          | cons d t4 => exact .nil
  | cons a t =>
    exact .nil
/-- how the four refusals stand to one another -/
structure Kin (K : PySem.W.Frag) (CB CM CN CU : Addr) : Prop where
  xN : PySem.W.exmAny K (.ref CN) [.ref CB, .ref CM, .ref CN, .ref CU] = some true
  xM : PySem.W.exmAny K (.ref CM) [.ref CB, .ref CM, .ref CN, .ref CU] = some true
  nn : PySem.W.kitOne K (.ref CN) (.ref CN) = some true
  nl : PySem.W.kitOne K (.ref CN) (.type "LookupError") = some true
  nt : PySem.W.kitAny K (.ref CN) [.ref CM, .ref CU] = some false
  mn : PySem.W.kitOne K (.ref CM) (.ref CN) = some false
  mm : PySem.W.kitOne K (.ref CM) (.ref CM) = some true
  mr : PySem.W.kitOne K (.ref CM) (.type "RuntimeError") = some true
  mt : PySem.W.kitAny K (.ref CM) [.ref CB, .ref CN] = some false
end HF
namespace HF
open PySem PySem.Spec PyProof.Rows L2
theorem u65 {k : Nat} {A : Around} (r : Room k A) : A.units + 65 < cLine := by
  have := r.un
  omega
abbrev bmLE : List Value := [.type "LookupError", .type "Exception", .type "BaseException", .type "object"]
abbrev bmRE : List Value := [.type "RuntimeError", .type "Exception", .type "BaseException", .type "object"]
abbrev bmVE : List Value := [.type "ValueError", .type "Exception", .type "BaseException", .type "object"]
abbrev bmOE : List Value := [.type "OverflowError", .type "ArithmeticError", .type "Exception", .type "BaseException", .type "object"]
/-- what the top has written of a refusal with one field -/
structure XT (K : PySem.W.Frag) (mg : Str → Option Value) (x qn : Str) (st : Stmt) (f : Str) (B newId initId : String) (bmB : List Value) (C : Addr) where
  fI : Addr
  dI : FuncData
  T : XoC K C B newId initId bmB
  I : XIs K C
  gC : mg x = some (.ref C)
  no : PySem.W.findIn K (.ref C) f = some none
  iC : PySem.W.findIn K (.ref C) "__init__" = some (some (.ref fI))
  tI : PySem.W.typeIn K (.ref fI) = some (.type "function")
  F : Fun K "__init__" qn st fI dI
  b : Binds K dI ["self", f] []
  vV : PySem.W.findCls K (.type B) (.type "type") "__init__" = some (.val (.builtin initId))
/-- such a class, as it stands in the top's part of the heap -/
structure AtX (K : PySem.W.Frag) (x qn : Str) (st : Stmt) (f : Str) (B newId initId : String) (bmB : List Value) (C fI : Addr) : Prop where
  ns : PySem.W.nsIn K mainGlobals x = some (some (.ref C))
  iC : PySem.W.findIn K (.ref C) "__init__" = some (some (.ref fI))
  tI : PySem.W.typeIn K (.ref fI) = some (.type "function")
  fn : ∃ (oc : Value) (od an : Option Addr) (osl : Array (Option Value)) (kV doc pm cdv ct : Value), K.lookup fI = some ⟨oc, od, .func (PySem.W.fnOf "__init__" qn (defArgs st) (defBody st) (defScope st) .none kV doc pm an cdv ct), osl⟩ ∧ PySem.W.codeIn K cdv qn = true
  kp : PySem.W.keepIn K (.ref fI) = true
  ini : PySem.W.excInitIn K C bmB newId = true
  over : PySem.W.excOver K C bmB = true
  hdi : PySem.W.hasDictIn K C = true
  sa : PySem.W.findIn K (.ref C) "__setattr__" = some (some (.builtin "object.__setattr__"))
  exC : PySem.W.subIn K (.ref C) (.type "BaseException") = some true
  tyC : PySem.W.typeIn K (.ref C) = some (.type "type")
  kC : PySem.W.keepIn K (.ref C) = true
  cl : PySem.W.isClsIn K C = true
  ga : PySem.W.findIn K (.ref C) "__getattribute__" = some (some (.builtin "BaseException.__getattribute__"))
  gg : PySem.W.findIn K (.ref C) "__getattr__" = some none
  ca : PySem.W.findIn K (.ref C) "__class__" = some (some (.builtin "object.__class__"))
  sg : PySem.W.specialIn K (.builtin "object.__class__") "__get__" = some (some (.builtin "getset_descriptor.__get__"))
  tk : PySem.W.takesIn K (.builtin "object.__class__") = some true
  ob : PySem.W.mroIn K C (.type "object") = some true
  no : PySem.W.findIn K (.ref C) f = some none
  vV : PySem.W.findCls K (.type B) (.type "type") "__init__" = some (.val (.builtin initId))
theorem atx_mk {K : PySem.W.Frag} {x qn : Str} {st : Stmt} {f : Str} {B newId initId : String} {bmB : List Value} {C fI : Addr} {oc : Value} {od an : Option Addr} {osl : Array (Option Value)} {kV doc pm cdv ct : Value}
    (ns : PySem.W.nsIn K mainGlobals x = some (some (.ref C)))
    (iC : PySem.W.findIn K (.ref C) "__init__" = some (some (.ref fI)))
    (tI : PySem.W.typeIn K (.ref fI) = some (.type "function"))
    (l : K.lookup fI = some ⟨oc, od, .func (PySem.W.fnOf "__init__" qn (defArgs st) (defBody st) (defScope st) .none kV doc pm an cdv ct), osl⟩) (c : PySem.W.codeIn K cdv qn = true)
    (kp : PySem.W.keepIn K (.ref fI) = true)
    (ini : PySem.W.excInitIn K C bmB newId = true)
    (over : PySem.W.excOver K C bmB = true)
    (hdi : PySem.W.hasDictIn K C = true)
    (sa : PySem.W.findIn K (.ref C) "__setattr__" = some (some (.builtin "object.__setattr__")))
    (exC : PySem.W.subIn K (.ref C) (.type "BaseException") = some true)
    (tyC : PySem.W.typeIn K (.ref C) = some (.type "type"))
    (kC : PySem.W.keepIn K (.ref C) = true)
    (cl : PySem.W.isClsIn K C = true)
    (ga : PySem.W.findIn K (.ref C) "__getattribute__" = some (some (.builtin "BaseException.__getattribute__")))
    (gg : PySem.W.findIn K (.ref C) "__getattr__" = some none)
    (ca : PySem.W.findIn K (.ref C) "__class__" = some (some (.builtin "object.__class__")))
    (sg : PySem.W.specialIn K (.builtin "object.__class__") "__get__" = some (some (.builtin "getset_descriptor.__get__")))
    (tk : PySem.W.takesIn K (.builtin "object.__class__") = some true)
    (ob : PySem.W.mroIn K C (.type "object") = some true)
    (no : PySem.W.findIn K (.ref C) f = some none)
    (vV : PySem.W.findCls K (.type B) (.type "type") "__init__" = some (.val (.builtin initId))) : AtX K x qn st f B newId initId bmB C fI :=
  ⟨ns, iC, tI, ⟨oc, od, an, osl, kV, doc, pm, cdv, ct, l, c⟩, kp, ini, over, hdi, sa, exC, tyC, kC, cl, ga, gg, ca, sg, tk, ob, no, vV⟩
theorem AtX.xt {K : PySem.W.Frag} {x qn : Str} {st : Stmt} {f : Str} {B newId initId : String} {bmB : List Value} {C fI : Addr} {h : Heap} {mg : Str → Option Value} (a : AtX K x qn st f B newId initId bmB C fI) (X : K.In h) (G : h.Ns mainGlobals mg)
    (hB : ExcBaseFacts B newId initId bmB) (hS : StoreFacts B bmB "object.__setattr__" "object") (hb : ∀ fd, Fun K "__init__" qn st fI fd → Binds K fd ["self", f] []) : Nonempty (XT K mg x qn st f B newId initId bmB C) := by
  obtain ⟨oc, od, an, osl, kV, doc, pm, cdv, ct, l, c⟩ := a.fn
  have F := fun_mk (st := st) l c a.kp
  exact ⟨{ fI := fI, dI := _, T := ⟨hB, hS, a.ini, a.over, a.hdi, a.sa, a.exC, a.tyC, a.kC⟩, I := ⟨a.cl, a.ga, a.gg, a.exC, a.hdi, a.ca, a.sg, a.tk, a.ob⟩, gC := PySem.W.mg_of X G a.ns, no := a.no, iC := a.iC, tI := a.tI, F := F, b := hb _ F, vV := a.vV }⟩
end HF
/-! one of two readings; loops and comprehensions over lists or tuples -/
namespace HF
open PySem PySem.Spec PyProof.Rows L2
section
variable {X : Cx}
def oE (a b : TE) : TE := fun σ H Q => a σ H Q ∨ b σ H Q
def oI (a b : TI) : TI := fun σ H R => a σ H R ∨ b σ H R
def oG (a b : TG) : TG := fun v σ H Q => a v σ H Q ∨ b v σ H Q
theorem pe_or2 {e : Expr} {t1 t2 : TE} (h1 : PE X e t1) (h2 : PE X e t2) : PE X e (oE t1 t2) := ⟨fun pins s σ H Q I h => h.elim (h1.run pins s σ H Q I) (h2.run pins s σ H Q I)⟩
theorem pi_or2 {tg e : Expr} {t1 t2 : TI} (h1 : PI X tg e t1) (h2 : PI X tg e t2) : PI X tg e (oI t1 t2) := ⟨fun pins s σ H R I h => h.elim (h1.run pins s σ H R I) (h2.run pins s σ H R I)⟩
theorem pg_or2 {tg : Expr} {t1 t2 : TG} (h1 : PG X tg t1) (h2 : PG X tg t2) : PG X tg (oG t1 t2) := ⟨fun pins s σ H v u Q I r h => h.elim (h1.run pins s σ H v u Q I r) (h2.run pins s σ H v u Q I r)⟩
theorem pi_en {X : Cx} {e : Expr} {ta : TA} {p pos tpos : Pos} {elts : List Expr} {kk : Nat} (hg : Gl X "enumerate") (hm : X.mg "enumerate" = none) (ha : PA X [e] ta) (hs : starEach [e] X.env = [(false, eval e X.env)] := by rfl) : PI X (.Tuple elts kk tpos) (.Call (.Name "enumerate" p) [e] [] pos) (oI (iEnum X.K ta) (iEnT X.K ta)) := pi_or2 (pi_enum hg hm ha hs) (pi_enT hg hm ha hs)
theorem pi_sq {tg e : Expr} {t : TE} (h : PE X e t) : PI X tg e (oI (iList X.K t) (iTup X.K t)) := pi_or2 (pi_list h) (pi_tup h)
end
/-- what stands at a stays -/
def Kp (K : PySem.W.Frag) (a : Addr) (H H' : Hp) : Prop := (∀ xs, SqL K H a xs → SqL K H' a xs) ∧ (∀ xs, SqT K H a xs → SqT K H' a xs)
theorem Kp.of {K : PySem.W.Frag} {a : Addr} {H H' : Hp} (sm : Same H H') : Kp K a H H' := ⟨fun _ h => sm.seq h, fun _ h => sameT sm h⟩
theorem Kp.oth {K : PySem.W.Frag} {a p : Addr} {H H' : Hp} (o : Oth p H H') (n : a ≠ p) : Kp K a H H' := ⟨fun _ h => o.seq n h, fun _ h => o.sqT n h⟩
theorem for_seq {K : PySem.W.Frag} {k : Nat} {a : Addr} {xs : List V} {g : TG} {tb : TS} {D : Ends} {σ : L2.St} {H H0 : Hp} (hv : σ[k]? = some (some (.ref a))) (hq : Sq K H0 a xs) (Pv : Nat → L2.St → Hp → Prop) (h0 : Pv 0 σ H) (hl : ∀ i σ H', i ≤ xs.length → Pv i σ H' → Kp K a H0 H')
    (hs : ∀ i x σ H, xs[i]? = some x → Pv i σ H → g x σ H fun σ2 H2 => tb { D with nx := Pv (i + 1), ct := Pv (i + 1), bk := D.nx } σ2 H2) (hd : ∀ σ H, Pv xs.length σ H → D.nx σ H) :
    tFor (oI (iList K (tVar k)) (iTup K (tVar k))) g tb D σ H := by
  have kp := hl 0 σ H (Nat.zero_le _) h0
  rcases hq with hq | hq
  · exact .inl ⟨.ref a, hv, a, rfl, ⟨_, kp.1 _ hq⟩, for_list (xs := xs) Pv h0 (fun i σ H' hi p => (hl i σ H' hi p).1 _ hq) hs hd⟩
  · exact .inr ⟨.ref a, hv, a, rfl, ⟨_, kp.2 _ hq⟩, for_tup (xs := xs) Pv h0 (fun i σ H' hi p => (hl i σ H' hi p).2 _ hq) hs hd⟩
theorem for_enum {K : PySem.W.Frag} {k : Nat} {a : Addr} {xs : List V} {g : TG} {tb : TS} {D : Ends} {σ : L2.St} {H H0 : Hp} (hv : σ[k]? = some (some (.ref a))) (hq : Sq K H0 a xs) (Pv : Nat → L2.St → Hp → Prop) (h0 : Pv 0 σ H) (hl : ∀ i σ H', i ≤ xs.length → Pv i σ H' → Kp K a H0 H')
    (hs : ∀ (i : Nat) (x : V) (σ : L2.St) (H : Hp) (T : Addr), xs[i]? = some x → Pv i σ H → H T = none → g (.ref T) σ (upd H T (.tup [.int (i : Nat), x])) fun σ2 H2 => tb { D with nx := Pv (i + 1), ct := Pv (i + 1), bk := D.nx } σ2 H2) (hd : ∀ σ H, Pv xs.length σ H → D.nx σ H) :
    tFor (oI (iEnum K (tCons (tVar k) tNil)) (iEnT K (tCons (tVar k) tNil))) g tb D σ H := by
  have kp := hl 0 σ H (Nat.zero_le _) h0
  have st : ∀ i x σ H H', i < xs.length → Pv i σ H → YPair (fun i => some (.int (i : Nat))) (fun i => xs[i]?) i H x H' → g x σ H' fun σ2 H2 => tb { D with nx := Pv (i + 1), ct := Pv (i + 1), bk := D.nx } σ2 H2 := by
    rintro i x σ H H' hi p ⟨T, u, v, rfl, nT, rfl, hu, hv2⟩
    cases (show some (V.int (i : Nat)) = some u from hu)
    exact hs i v σ H T hv2 p nT
  rcases hq with hq | hq
  · exact .inl ⟨.ref a, hv, a, _, rfl, kp.1 _ hq, for_it (walk_enum (xs := xs)) Pv h0 (fun i σ H' hi p => (hl i σ H' hi p).1 _ hq) st hd⟩
  · exact .inr ⟨.ref a, hv, a, _, rfl, kp.2 _ hq, for_it (walk_enT (xs := xs)) Pv h0 (fun i σ H' hi p => (hl i σ H' hi p).2 _ hq) st hd⟩
theorem same_put {H H1 : Hp} {D : Addr} {o : HO} (s : Same H H1) (nD : H D = none) : Same H (upd H1 D o) := fun z u ez => by
  rw [upd_ne (ne_of_none ez nD)]
  exact s _ _ ez
theorem fm_snoc {out : Nat → Option V} (i : Nat) : (List.range (i + 1)).filterMap out = (List.range i).filterMap out ++ (out i).toList := by
  have e : [i].filterMap out = (out i).toList := by
    cases h : out i with
    | none => simp [h]
    | some y => simp [h]
  rw [List.range_succ, List.filterMap_append, e]
theorem fm_len {out : Nat → Option V} (i : Nat) : ((List.range i).filterMap out).length ≤ i := by
  have := List.length_filterMap_le out (List.range i)
  rwa [List.length_range] at this
/-- a comprehension whose parts change nothing, whatever is walked -/
theorem lc_w {J : It} {n : Nat} {G : Hp → Prop} {Y : Nat → Hp → V → Hp → Prop} (wk : Walk J n G Y) {g : TG} {tt : TT} {te : TE} {vs : List Nat} {σ : L2.St} {H : Hp} {D : Addr} {Qd : Hp → Prop} (nD : H D = none) (few : n ≤ 100000)
    (hG : ∀ H', Same H H' → G H') (hY : ∀ i x H1 H2, i < n → Same H H1 → Y i H1 x H2 → Same H1 H2) (out : Nat → Option V)
    (hs : ∀ i x H1 H2, i < n → Same H H1 → Y i H1 x H2 → ∀ (T : V → Hp → Prop) (F : Hp → Prop), (∀ y H4, Same H2 H4 → out i = some y → T y H4) → (∀ H3, Same H2 H3 → out i = none → F H3) →
      g x (wipe σ vs) H2 fun σ2 H5 => wipe σ2 vs = wipe σ vs ∧ tt σ2 H5 fun b H3 => if b = true then te σ2 H3 T else F H3)
    (hd : ∀ H', Same H H' → H' D = some (.lst ((List.range n).filterMap out)) → Qd H') :
    ∃ W : Nat → Nat → Hp → Prop, (∃ m, W 0 m (upd H D (.lst []))) ∧ ∀ i m H, W i m H →
      (J.stop i H ∧ Qd H) ∨ (J.go i H ∧ ∃ Nx : Hp → Prop, (∀ H', Nx H' → ∃ m', m' < m ∧ W (i + 1) m' H') ∧ ∀ x H', J.yld i H x H' → g x (wipe σ vs) H' fun σ2 H2 => wipe σ2 vs = wipe σ vs ∧ tt σ2 H2 fun b H3 =>
        if b = true then te σ2 H3 fun y H4 => ∃ acc, H4 D = some (.lst acc) ∧ acc.length < sizeLine ∧ Nx (upd H4 D (.lst (acc ++ [y]))) else Nx H3) := by
  refine lc_it wk (fun i H4 => H4 D = some (.lst ((List.range i).filterMap out)) ∧ Same H H4) ⟨upd_same, same_upd nD⟩ (fun i H4 _ h => hG _ h.2) ?_ (fun H4 h => hd _ h.2 h.1)
  rintro i x H4 H5 hi ⟨hD, s4⟩ hy
  have s5 := hY i x H4 H5 hi s4 hy
  refine hs i x H4 H5 hi s4 hy _ _ (fun y H6 s6 ho => ?_) (fun H6 s6 ho => ?_)
  · refine ⟨_, s6 _ _ (s5 _ _ hD), ?_, ?_, same_put ((s4.trans s5).trans s6) nD⟩
    · have := fm_len (out := out) i
      rw [sizeLine_eq]
      omega
    · rw [upd_same, fm_snoc, ho]
      rfl
  · refine ⟨?_, (s4.trans s5).trans s6⟩
    rw [s6 _ _ (s5 _ _ hD), fm_snoc, ho]
    simp
theorem fm_map {α : Type} {f : α → Option V} {out : Nat → Option V} : ∀ {zs : List α}, (∀ i z, zs[i]? = some z → out i = f z) → (List.range zs.length).filterMap out = zs.filterMap f := by
  intro zs h
  have e : (List.range zs.length).filterMap out = (List.range zs.length).filterMap fun i => (zs[i]?).bind f := by
    refine fm_congr fun i hi => ?_
    have hl := List.mem_range.mp hi
    rw [List.getElem?_eq_getElem hl, h i _ (List.getElem?_eq_getElem hl)]
    rfl
  rw [e]
  clear e h
  induction zs with
  | nil => rfl
  | cons z r ih =>
    rw [List.length_cons, List.range_succ_eq_map, List.filterMap_cons]
    have e2 : (List.map Nat.succ (List.range r.length)).filterMap (fun i => ((z :: r)[i]?).bind f) = (List.range r.length).filterMap fun i => (r[i]?).bind f := by
      rw [List.filterMap_map]
      rfl
    rw [e2, ih, List.filterMap_cons]
    rfl
/-- over a list or a tuple of what xs says, parts that change nothing -/
theorem lc_seq {K : PySem.W.Frag} {k : Nat} {a : Addr} {α : Type} {zs : List α} {emb : α → V} {g : TG} {tt : TT} {te : TE} {vs : List Nat} {σ : L2.St} {H : Hp} {Q : VK} (f : α → Option V) (hv : σ[k]? = some (some (.ref a))) (hq : Sq K H a (zs.map emb)) (few : zs.length ≤ 100000)
    (hs : ∀ (i : Nat) (z : α) (H2 : Hp), zs[i]? = some z → Same H H2 → ∀ (T : V → Hp → Prop) (F : Hp → Prop), (∀ y H4, Same H2 H4 → f z = some y → T y H4) → (∀ H3, Same H2 H3 → f z = none → F H3) →
      g (emb z) (wipe σ vs) H2 fun σ2 H5 => wipe σ2 vs = wipe σ vs ∧ tt σ2 H5 fun b H3 => if b = true then te σ2 H3 T else F H3)
    (hd : ∀ D H', H D = none → Same H H' → H' D = some (.lst (zs.filterMap f)) → Q (.ref D) H') :
    tLc (oI (iList K (tVar k)) (iTup K (tVar k))) g tt te vs σ H Q := by
  have fl : (zs.map emb).length ≤ 100000 := by rw [List.length_map]; exact few
  have ho : ∀ (i : Nat) (z : α), zs[i]? = some z → (fun i : Nat => (zs[i]?).bind f) i = f z := fun i z h => by
    show (zs[i]?).bind f = f z
    rw [h]
    rfl
  have tl : (List.range (zs.map emb).length).filterMap (fun i : Nat => (zs[i]?).bind f) = zs.filterMap f := by
    rw [List.length_map]
    exact fm_map ho
  have st : ∀ i x H1 H2, i < (zs.map emb).length → Same H H1 → (H2 = H1 ∧ (zs.map emb)[i]? = some x) → ∀ (T : V → Hp → Prop) (F : Hp → Prop), (∀ y H4, Same H2 H4 → (fun i : Nat => (zs[i]?).bind f) i = some y → T y H4) → (∀ H3, Same H2 H3 → (fun i : Nat => (zs[i]?).bind f) i = none → F H3) →
      g x (wipe σ vs) H2 fun σ2 H5 => wipe σ2 vs = wipe σ vs ∧ tt σ2 H5 fun b H3 => if b = true then te σ2 H3 T else F H3 := by
    rintro i x H1 H2 hi s1 ⟨rfl, hx⟩ T F hT hF
    rw [List.getElem?_map] at hx
    obtain ⟨z, hz, rfl⟩ := Option.map_eq_some_iff.mp hx
    exact hs i z _ hz s1 T F (fun y H4 s4 e => hT y H4 s4 ((ho i z hz).trans e)) (fun H3 s3 e => hF H3 s3 ((ho i z hz).trans e))
  rcases hq with hq | hq
  · refine .inl ⟨.ref a, hv, a, rfl, ⟨_, hq⟩, fun D nD => lc_w (walk_list (xs := zs.map emb)) nD fl (fun H' s => s.seq hq) (fun i x H1 H2 _ _ y => by rw [y.1]; exact Same.refl _) _ st (fun H' s hD => hd D H' nD s (by rw [← tl]; exact hD))⟩
  · refine .inr ⟨.ref a, hv, a, rfl, ⟨_, hq⟩, fun D nD => lc_w (walk_tup (xs := zs.map emb)) nD fl (fun H' s => sameT s hq) (fun i x H1 H2 _ _ y => by rw [y.1]; exact Same.refl _) _ st (fun H' s hD => hd D H' nD s (by rw [← tl]; exact hD))⟩
theorem asg_lc {wi : TI} {g : TG} {tt : TT} {te : TE} {vs : List Nat} {i : Nat} {b : TS} {D : Ends} {σ : L2.St} {H : Hp} (h : tLc wi g tt te vs σ H (fun v H1 => b D (σ.set i (some v)) H1)) : tSeq (tAsg (tLc wi g tt te vs) (gName i)) b D σ H := h
theorem fm_filter {α : Type} (p : α → Bool) (emb : α → V) (zs : List α) : zs.filterMap (fun z => if p z = true then some (emb z) else none) = (zs.filter p).map emb := by
  induction zs with
  | nil => rfl
  | cons z r ih =>
    by_cases e : p z = true
    · rw [List.filterMap_cons, if_pos e, List.filter_cons_of_pos e, List.map_cons, ih]
    · rw [List.filterMap_cons, if_neg e, List.filter_cons_of_neg e, ih]
theorem fm_all {α : Type} (f : α → V) (zs : List α) : zs.filterMap (fun z => some (f z)) = zs.map f := by
  induction zs with
  | nil => rfl
  | cons z r ih => rw [List.filterMap_cons, List.map_cons, ih]
section
variable {X : Cx}
/-- tuple(x), x a heap told as a list or as a tuple -/
def rTupQ (K : PySem.W.Frag) : List V → Hp → VK → Prop := fun us H Q => ∃ (h : Addr) (zs : List Str), us = [.ref h] ∧ Hq K H h zs ∧ ∀ (H' : Hp) (t : Addr), Same H H' → Tp H' t (zs.map V.str) → Q (.ref t) H'
theorem call_tupQ : CallR X (.type "tuple") (rTupQ X.K) := by
  intro pins s σ H xs us Q I rel hyp
  obtain ⟨h, zs, rfl, hq, q⟩ := hyp
  rcases hq with hq | hq
  · exact call_tupleF pins s σ H _ us Q I rel ⟨h, _, rfl, hq, fun l ob nl e1 e2 => q _ l (same_upd nl) ⟨ob, upd_same, e1, e2⟩⟩
  · exact call_tupleT pins s σ H _ us Q I rel ⟨h, _, rfl, hq.sq, q _ h (Same.refl _) hq⟩
end
theorem Hq.sq {K : PySem.W.Frag} {H : Hp} {a : Addr} {zs : List Str} (h : Hq K H a zs) : Sq K H a (zs.map V.str) := h.imp id fun z => z.sq
theorem drop_at {α : Type} {x : α} : ∀ {l : List α} {i : Nat}, l[i]? = some x → l.drop i = x :: l.drop (i + 1)
  | y :: r, 0, h => by
    cases (show some y = some x from h)
    rfl
  | y :: r, i + 1, h => drop_at (l := r) (i := i) h
/-! ### rows of anything -/
def outD (qs : List (Str × Str)) : List Str → List PyData → PyData
  | zs, [] => .tuple (zs.map PyData.str)
  | zs, d :: r => match d with
    | .str b => if b ∈ zs then (if lets qs zs b = true then outD qs (onTop b zs) r else .list [.str "may not", .str b]) else .list [.str "none", .str b]
    | _ => .list [.str "none", d]
theorem outD_go {qs : List (Str × Str)} {zs : List Str} {b : Str} {r : List PyData} (h : b ∈ zs) (hl : lets qs zs b = true) : outD qs zs (.str b :: r) = outD qs (onTop b zs) r := by
  show (if b ∈ zs then (if lets qs zs b = true then outD qs (onTop b zs) r else .list [.str "may not", .str b]) else .list [.str "none", .str b]) = _
  rw [if_pos h, if_pos hl]
theorem outD_not {qs : List (Str × Str)} {zs : List Str} {b : Str} {r : List PyData} (h : b ∈ zs) (hl : ¬ lets qs zs b = true) : outD qs zs (.str b :: r) = .list [.str "may not", .str b] := by
  show (if b ∈ zs then (if lets qs zs b = true then outD qs (onTop b zs) r else .list [.str "may not", .str b]) else .list [.str "none", .str b]) = _
  rw [if_pos h, if_neg hl]
theorem outD_none {qs : List (Str × Str)} {zs : List Str} {d : PyData} {r : List PyData} (h : ∀ b, d = .str b → b ∉ zs) : outD qs zs (d :: r) = .list [.str "none", d] := by
  cases d with
  | str b =>
    show (if b ∈ zs then (if lets qs zs b = true then outD qs (onTop b zs) r else .list [.str "may not", .str b]) else .list [.str "none", .str b]) = _
    rw [if_neg (h b rfl)]
  | _ => rfl
theorem outD_lay {qs : List (Str × Str)} : ∀ {ds : List PyData} {zs : List Str}, (∀ z ∈ zs, Nm z) → zs.Nodup → (∀ d ∈ ds, d.canLay0 = true ∧ d.depth ≤ 1 ∧ wide d ≤ 100) → zs.length ≤ 100 → (outD qs zs ds).canLay0 = true ∧ (outD qs zs ds).depth ≤ 2 ∧ wide (outD qs zs ds) ≤ 100
  | [], zs, hn, _, _, hl => by
    refine ⟨canLay_strs hn, ?_, ?_⟩
    · show PyData.depthAll (zs.map PyData.str) + 1 ≤ 2
      rw [depth_strs]
      decide
    · show max (zs.map PyData.str).length (wideAll (zs.map PyData.str)) ≤ 100
      rw [wide_strs, List.length_map]
      omega
  | d :: r, zs, hn, hnd, hd, hl => by
    have two : ∀ {s : Str} {e : PyData}, (PyData.str s).canLay0 = true → e.canLay0 = true → e.depth ≤ 1 → wide e ≤ 100 → (PyData.list [.str s, e]).canLay0 = true ∧ (PyData.list [.str s, e]).depth ≤ 2 ∧ wide (PyData.list [.str s, e]) ≤ 100 := fun {s e} h0 h1 h2 h3 => by
      refine ⟨?_, ?_, ?_⟩
      · show ((PyData.str s).canLay0 && (e.canLay0 && true)) = true
        rw [h0, h1]
        rfl
      · show max 0 (max e.depth 0) + 1 ≤ 2
        omega
      · show max 2 (max 0 (max (wide e) 0)) ≤ 100
        omega
    obtain ⟨g1, g2, g3⟩ := hd d List.mem_cons_self
    by_cases hs : ∃ b, d = .str b ∧ b ∈ zs
    · obtain ⟨b, rfl, hb⟩ := hs
      by_cases e : lets qs zs b = true
      · rw [outD_go hb e]
        have pm := onTop_perm hnd hb
        exact outD_lay (fun z hz => hn z (pm.mem_iff.mp hz)) (pm.nodup_iff.mpr hnd) (fun x hx => hd x (List.mem_cons_of_mem _ hx)) (by rw [pm.length_eq]; exact hl)
      · rw [outD_not hb e]
        exact two (by decide +kernel) g1 g2 g3
    · rw [outD_none fun b hb hm => hs ⟨b, hb, hm⟩]
      exact two (by decide +kernel) g1 g2 g3
theorem outD_strs {qs : List (Str × Str)} : ∀ {row zs : List Str}, zs.Nodup → (∀ b ∈ row, b ∈ zs) → refAt qs zs row = none → outD qs zs (row.map PyData.str) = .tuple ((lefts zs row).map PyData.str)
  | [], zs, _, _, _ => rfl
  | b :: r, zs, hnd, hin, href => by
    obtain ⟨h1, h2⟩ := refAt_none href
    have hb := hin b List.mem_cons_self
    have pm := onTop_perm hnd hb
    rw [List.map_cons, outD_go hb h1]
    exact outD_strs (pm.nodup_iff.mpr hnd) (fun x hx => pm.mem_iff.mpr (hin x (List.mem_cons_of_mem _ hx))) h2
structure RowAt (K : PySem.W.Frag) (H : Hp) (a : Addr) (us : List V) (ds : List PyData) : Prop where
  sq : Sq K H a us
  dp : DpAll K H us ds
  shp : ∀ d ∈ ds, SeqAt.shaped d = true
theorem RowAt.same {K : PySem.W.Frag} {H H' : Hp} {a : Addr} {us : List V} {ds : List PyData} (h : RowAt K H a us ds) (sm : Same H H') : RowAt K H' a us ds := ⟨sameQ sm h.sq, DpAll.up sm h.dp, h.shp⟩
theorem shp_str {b : Str} (h : Nm b) : SeqAt.shaped (.str b) = true := by
  unfold SeqAt.shaped
  rw [show (PyData.str b).canLay0 = true from h.ok]
  rfl
theorem dp_str {K : PySem.W.Frag} {H : Hp} {v : V} {b : Str} (h : Dp K H v (.str b)) : v = .str b := by
  cases h
  rfl
variable (K : PySem.W.Frag)
def spDoneX (CN CM : Addr) : Sp := fun vs H Q E => ∃ (h r a : Addr) (zs : List Str) (us : List V) (ds : List PyData) (qs : List (Str × Str)), vs = [.ref h, .ref r, .ref a] ∧ Hq K H h zs ∧ PqA K H r qs ∧ RowAt K H a us ds ∧ zs.Nodup ∧ (∀ z ∈ zs, Nm z) ∧ zs.length ≤ 1000 ∧ qs.length ≤ 400 ∧
  (∀ ys : List Str, outD qs zs ds = .tuple (ys.map PyData.str) → ∀ (H' : Hp) (t : Addr), Same H H' → Tp H' t (ys.map V.str) → Q (.ref t) H') ∧
  (∀ (v : V) (d : PyData), outD qs zs ds = .list [.str "none", d] → Dp K H v d → ∀ (H' : Hp) (dd : Addr), Same H H' → H' dd = some (.xd [(("book" : Str), v)]) → E (.ref CN) (some dd) H') ∧
  (∀ b : Str, outD qs zs ds = .list [.str "may not", .str b] → ∀ (H' : Hp) (dd : Addr), Same H H' → H' dd = some (.xd [(("book" : Str), .str b)]) → E (.ref CM) (some dd) H')
def spOut : Sp := fun vs H Q _ => ∃ (h r a : Addr) (zs : List Str) (us : List V) (ds : List PyData) (qs : List (Str × Str)), vs = [.ref h, .ref r, .ref a] ∧ Hq K H h zs ∧ PqA K H r qs ∧ RowAt K H a us ds ∧ zs.Nodup ∧ (∀ z ∈ zs, Nm z) ∧ zs.length ≤ 1000 ∧ qs.length ≤ 400 ∧
  ∀ (H' : Hp) (y : V), Same H H' → Dp K H' y (outD qs zs ds) → Q y H'
def spDue : Sp := fun vs H Q _ => ∃ (h r a : Addr) (zs : List Str) (us : List V) (ds : List PyData) (qs : List (Str × Str)), vs = [.ref h, .ref r, .ref a] ∧ Tp H h (zs.map V.str) ∧ PqT K H r qs ∧ (∀ q ∈ qs, q.2 ∈ zs) ∧ RowAt K H a us ds ∧ zs.Nodup ∧ (∀ z ∈ zs, Nm z) ∧ zs.length ≤ 1000 ∧ qs.length ≤ 400 ∧
  ∀ (H' : Hp) (y : V), Same H H' → Dp K H' y (outD qs zs ds) → Q y H'
def spFrQ : Sp := fun vs H Q _ => ∃ (h r a : Addr) (zs row : List Str) (qs : List (Str × Str)), vs = [.ref h, .ref r, .ref a] ∧ Hq K H h zs ∧ PqA K H r qs ∧ Sq K H a (row.map V.str) ∧ zs.Nodup ∧ (∀ b ∈ row, b ∈ zs) ∧ zs.length ≤ 1000 ∧ qs.length ≤ 400 ∧
  ∀ H' : Hp, Same H H' → Q (optV (refAt qs zs row)) H'
def spLeftT : Sp := fun vs H Q _ => ∃ (h a : Addr) (zs row : List Str), vs = [.ref h, .ref a] ∧ Tp H h (zs.map V.str) ∧ SqL K H a (row.map V.str) ∧ zs.Nodup ∧ (∀ b ∈ row, b ∈ zs) ∧ zs.length ≤ 1000 ∧
  ∀ (H' : Hp) (t : Addr), Same H H' → Tp H' t ((lefts zs row).map V.str) → Q (.ref t) H'
def spRefL : Sp := fun vs H Q _ => ∃ (h r a : Addr) (zs row : List Str) (qs : List (Str × Str)), vs = [.ref h, .ref r, .ref a] ∧ Tp H h (zs.map V.str) ∧ PqT K H r qs ∧ (∀ q ∈ qs, q.2 ∈ zs) ∧ SqL K H a (row.map V.str) ∧ zs.Nodup ∧ (∀ b ∈ row, b ∈ zs) ∧ zs.length ≤ 1000 ∧ qs.length ≤ 400 ∧
  ∀ H' : Hp, Same H H' → Q (optV (refAt qs zs row)) H'
end HF
namespace HF
open PySem PySem.Spec PyProof.Rows L2
section
variable {P : Program} {w : World} {K : PySem.W.Frag} {mg : Str → Option Value} {base : Heap}
abbrev sNb : Stmt := initOf (topS 2)
abbrev sMn : Stmt := initOf (topS 3)
theorem scNb : FnScope ["self", "book"] ["self", "book"] (defScope sNb) := ⟨rfl, rfl, rfl, by decide +kernel, rfl, by decide +kernel, by decide +kernel⟩
theorem scMn : FnScope ["self", "book"] ["self", "book"] (defScope sMn) := ⟨rfl, rfl, rfl, by decide +kernel, rfl, by decide +kernel, by decide +kernel⟩
abbrev XNb (K : PySem.W.Frag) (mg : Str → Option Value) (C : Addr) := XT K mg "NoBook" "NoBook.__init__" sNb "book" "LookupError" "LookupError.__new__" "LookupError.__init__" bmLE C
theorem ok_Nb {C : Addr} {k : Nat} (t : XNb K mg C) (mB : mg "LookupError" = none) : FnOk P w K mg base CX0 (k + 1) t.fI t.dI ["self", "book"] (spXI C "book") := by
  refine t.F.ok scNb (fun vs H Q E h => ?_) (fun cdv A outer s H vs Q E hr h => ?_)
  · obtain ⟨a, v, rfl, _⟩ := h
    rfl
  · obtain ⟨a, v, rfl, ha, q⟩ := h
    refine ⟨_, pss_cons (ps_expr (pe_binit (B := "LookupError") (newId := "LookupError.__new__") (initId := "LookupError.__init__") (bmB := bmLE) (by rfl) mB (by decide +kernel) (by decide) (by decide) (by kernel_rfl) (by decide +kernel) (by decide +kernel) t.vV (pa_cons (pv 0) (pa_cons pe_str pa_nil))))
      (pss_one (ps_xst (B := "LookupError") (newId := "LookupError.__new__") (initId := "LookupError.__init__") (bmB := bmLE) (pv 0) (pv 1))), ?_⟩
    refine ⟨.ref a, rfl, a, C, _, rfl, (by decide : (1 : Nat) ≤ 1000), t.T, ha, v, rfl, .ref a, rfl, a, C, rfl, t.T, t.no, ha, fun dx n1 n2 => ?_⟩
    exact q dx n1 n2
abbrev XMn (K : PySem.W.Frag) (mg : Str → Option Value) (C : Addr) := XT K mg "MayNot" "MayNot.__init__" sMn "book" "RuntimeError" "RuntimeError.__new__" "RuntimeError.__init__" bmRE C
theorem ok_Mn {C : Addr} {k : Nat} (t : XMn K mg C) (mB : mg "RuntimeError" = none) : FnOk P w K mg base CX0 (k + 1) t.fI t.dI ["self", "book"] (spXI C "book") := by
  refine t.F.ok scMn (fun vs H Q E h => ?_) (fun cdv A outer s H vs Q E hr h => ?_)
  · obtain ⟨a, v, rfl, _⟩ := h
    rfl
  · obtain ⟨a, v, rfl, ha, q⟩ := h
    refine ⟨_, pss_cons (ps_expr (pe_binit (B := "RuntimeError") (newId := "RuntimeError.__new__") (initId := "RuntimeError.__init__") (bmB := bmRE) (by rfl) mB (by decide +kernel) (by decide) (by decide) (by kernel_rfl) (by decide +kernel) (by decide +kernel) t.vV (pa_cons (pv 0) (pa_cons pe_str pa_nil))))
      (pss_one (ps_xst (B := "RuntimeError") (newId := "RuntimeError.__new__") (initId := "RuntimeError.__init__") (bmB := bmRE) (pv 0) (pv 1))), ?_⟩
    refine ⟨.ref a, rfl, a, C, _, rfl, (by decide : (1 : Nat) ≤ 1000), t.T, ha, v, rfl, .ref a, rfl, a, C, rfl, t.T, t.no, ha, fun dx n1 n2 => ?_⟩
    exact q dx n1 n2
abbrev sMayGo : Stmt := topS 10
abbrev nMayGo : List Str := ["heap", "ties", "book"]
theorem scMayGo : FnScope nMayGo ["heap", "ties"] (defScope sMayGo) := ⟨rfl, rfl, rfl, by decide +kernel, rfl, by decide +kernel, by decide +kernel⟩
theorem xd_same {H : Hp} {a dx C : Addr} {v : V} {f : Str} (na : H a = none) (nd : (upd H a (exo a C none)) dx = none) (ne : dx ≠ a) :
    Same H (upd (del (upd (upd (upd H a (exo a C none)) dx (exd dx [(f, v)])) a (exo a C (some dx))) a) dx (.xd [(f, v)])) := by
  rw [upd_ne ne] at nd
  intro z o ez
  have n1 : z ≠ dx := ne_of_none ez nd
  have n2 : z ≠ a := ne_of_none ez na
  rw [upd_ne n1, del_ne n2, upd_ne n2, upd_ne n1, upd_ne n2]
  exact ez
def spAbsX (K : PySem.W.Frag) (CN : Addr) : Sp := fun vs H Q E => ∃ (h a : Addr) (zs : List Str) (us : List V) (ds : List PyData), vs = [.ref h, .ref a] ∧ Tp H h (zs.map V.str) ∧ RowAt K H a us ds ∧ (∀ z ∈ zs, Nm z) ∧
  ((∀ d ∈ ds, ∃ b, d = .str b ∧ b ∈ zs) → ∀ H' : Hp, Same H H' → Q .non H') ∧
  (∀ (i : Nat) (v : V) (d : PyData), us[i]? = some v → ds[i]? = some d → (∀ e ∈ ds.take i, ∃ b, e = .str b ∧ b ∈ zs) → (∀ b, d = .str b → b ∉ zs) → ∀ (H' : Hp) (dd : Addr), Same H H' → H' dd = some (.xd [(("book" : Str), v)]) → E (.ref CN) (some dd) H')
theorem ok_AbsX {f CN : Addr} {fd : FuncData} {k : Nat} (F : Fun K "refuse_absent" "refuse_absent" sAbs f fd) (tN : XNb K mg CN) (mL : mg "LookupError" = none) : FnOk P w K mg base (L2.CX P w) (k + 3) f fd ["heap", "books"] (spAbsX K CN) := by
  have GN : FnOk P w K mg base CX0 (k + 1) tN.fI tN.dI ["self", "book"] (spXI CN "book") := ok_Nb tN mL
  refine F.okX scAbs (fun vs H Q E h => ?_) (fun cdv A outer s H vs Q E hr h => ?_)
  · obtain ⟨h, a, zs, us, ds, rfl, _⟩ := h
    rfl
  · obtain ⟨h, a, zs, us, ds, rfl, hq, hR, hnm, q, qE⟩ := h
    refine ⟨_, pss_one (ps_for (passes_of rfl) rfl (pi_sq (pv 1)) (pg_name (i := 2) scAbs.nd rfl (.inl rfl)) (pss_one (ps_if (pt_cmpR (op_notInT (u65 hr)) (pv 2) (pv 0) rfl) (pss_one (ps_raise rfl (takes_of rfl rfl rfl rfl) (pmk_x tN.T tN.iC tN.tI GN hr tN.b .nil pass0 (by rfl) tN.gC (by exact (pa_cons (pv 2) pa_nil))))) pss_nil))), ?_⟩
    refine for_seq (K := K) (xs := us) rfl hR.sq (fun i σ Hx => ∃ y : Option V, σ = [some (.ref h), some (.ref a), y] ∧ Hx = H ∧ ∀ e ∈ ds.take i, ∃ b, e = PyData.str b ∧ b ∈ zs) ⟨none, rfl, rfl, fun e he => by cases he⟩ ?_ ?_ ?_
    · rintro i σ Hx hi ⟨y, rfl, rfl, _⟩
      exact Kp.of (Same.refl _)
    · rintro i x σ Hx hx ⟨y, rfl, rfl, hall⟩
      obtain ⟨d, hd, hdp⟩ := dpAll_at hR.dp hx
      refine ⟨x, rfl, .ref h, rfl, d, _, hdp, .tup hq.sq (dp_strs zs), hR.shp d (List.mem_of_getElem? hd), shp_tup hnm, _, rfl, ?_⟩
      by_cases hb : ∃ b, d = .str b ∧ b ∈ zs
      · obtain ⟨b, rfl, hb⟩ := hb
        rw [eqv_strs, decide_eq_true hb]
        refine iteF ⟨_, rfl, rfl, fun e he => ?_⟩
        rw [List.take_add_one, hd] at he
        rcases List.mem_append.mp he with h1 | h1
        · exact hall e h1
        · rw [show e = .str b from by simpa using h1]
          exact ⟨b, rfl, hb⟩
      · have hn : ∀ b, d = .str b → b ∉ zs := fun b h1 h2 => hb ⟨b, h1, h2⟩
        have e : ((zs.map PyData.str).any fun z => PyData.eqv z d) = false := by
          by_cases hd : ∃ b, d = .str b
          · obtain ⟨b, rfl⟩ := hd
            rw [eqv_strs, decide_eq_false (hn b rfl)]
          · exact eqv_other (fun b hb => hd ⟨b, hb⟩) zs
        rw [e]
        refine iteT ⟨x, rfl, (by decide : (1 : Nat) ≤ 1000), fun a na => ⟨a, x, rfl, upd_same, fun dx n1 n2 => ⟨rfl, dx, [(("book" : Str), x)], upd_same, ?_, ?_, ?_⟩⟩⟩
        · rw [upd_ne n2, upd_same]
        · rw [upd_ne n2] at n1
          exact n1
        · exact qE i x d hx hd hall hn _ dx (xd_same na n1 n2) upd_same
    · rintro σ Hx ⟨y, rfl, rfl, hall⟩
      rw [dpAll_len hR.dp, List.take_length] at hall
      exact q hall _ (Same.refl _)
theorem ok_LaidX {f fA fT fF fR CN CM : Addr} {fd dA dT dF dR : FuncData} {k : Nat} (F : Fun K "laid" "laid" sLaid f fd) (tN : XNb K mg CN) (tM : XMn K mg CM) (mL : mg "LookupError" = none) (mR : mg "RuntimeError" = none) (FA : Fun K "all_above" "all_above" sAbv fA dA) (bA : Binds K dA ["heap", "friends", "book"] []) (gA : mg "all_above" = some (.ref fA)) (FT : Fun K "on_top" "on_top" sTop fT dT) (bT : Binds K dT ["heap", "book"] []) (gT : mg "on_top" = some (.ref fT)) (FR : Fun K "refuse_absent" "refuse_absent" sAbs fR dR) (bR : Binds K dR ["heap", "books"] []) (gR : mg "refuse_absent" = some (.ref fR)) (FF : Fun K "friends_of" "friends_of" sFriends fF dF) (bF : Binds K dF ["ties", "book"] []) (gF : mg "friends_of" = some (.ref fF)) (mA : mg "all" = none) (mT : mg "tuple" = none) (mS : mg "sorted" = none) : FnOk P w K mg base (L2.CX P w) (k + 4) f fd ["heap", "ties", "book"] (spLaidX K CN CM) := by
  have GA : FnOk P w K mg base CX0 (k + 1) fA dA ["heap", "friends", "book"] (spAbv K) := ok_Abv FA mA
  have GF : FnOk P w K mg base CX0 (k + 1) fF dF ["ties", "book"] (spPick K sndOf) := ok_Friends FF mS
  have GT : FnOk P w K mg base CX0 (k + 1) fT dT ["heap", "book"] (spTop K) := ok_Top FT mT
  have GR : FnOk P w K mg base (L2.CX P w) (k + 3) fR dR ["heap", "books"] (spAbsX K CN) := ok_AbsX FR tN mL
  have GM : FnOk P w K mg base CX0 (k + 1) tM.fI tM.dI ["self", "book"] (spXI CM "book") := ok_Mn tM mR
  refine F.okX scLaid (fun vs H Q E h => ?_) (fun cdv A outer s H vs Q E hr h => ?_)
  · obtain ⟨h, r, v, d, zs, qs, rfl, _⟩ := h
    rfl
  · obtain ⟨h, r, v, d, zs, qs, rfl, hq, hP, hv, hsh, hznm, hl, hql, cas⟩ := h
    have r1 := hr.mono (show k + 1 ≤ k + 3 by omega)
    have r2 := hr.mono (show k + 2 ≤ k + 3 by omega)
    refine ⟨_, pss_cons (ps_expr (by exact (pe_callS GR hr (by rfl) gR FR.kp bR (fun σ => passAt (takes_of rfl rfl rfl rfl) σ) (by exact (pa_cons (pv 0) (pa_cons (pe_lst (pa_cons (pv 2) pa_nil)) pa_nil))))))
      (pss_cons (ps_if (pt_not (pt_val (pe_call GA r1 (by rfl) gA FA.kp bA .nil pass0 (pa_cons (pv 0) (pa_cons (pe_call GF r1 (by rfl) gF FF.kp bF .nil pass0 (pa_cons (pv 1) (pa_cons (pv 2) pa_nil))) (pa_cons (pv 2) pa_nil)))))) (pss_one (ps_raise rfl (takes_of rfl rfl rfl rfl) (pmk_x tM.T tM.iC tM.tI GM r2 tM.b .nil pass0 (by rfl) tM.gC (by exact (pa_cons (pv 2) pa_nil))))) pss_nil)
      (pss_one (ps_ret (pe_call GT r1 (by rfl) gT FT.kp bT .nil pass0 (pa_cons (pv 0) (pa_cons (pv 2) pa_nil)))))), ?_⟩
    refine ⟨.ref h, rfl, v, rfl, (by decide : (1 : Nat) ≤ sizeLine), fun p np => ?_⟩
    have s0 : Same H (upd H p (.lst [v])) := same_upd np
    have hp : (upd H p (.lst [v])) p = some (.lst [v]) := upd_same
    generalize (upd H p (.lst [v])) = Hp0 at *
    refine ⟨h, p, zs, [v], [d], rfl, hq.same s0, ⟨.inl (.inl (.inl hp)), .cons (Dp.up s0 hv) .nil, fun d' hd' => by rw [List.mem_singleton.mp hd']; exact hsh⟩, hznm, fun hall H0 t0 => ?_, fun i v' d' hi hi2 hpre hn H' dd s' hdd => ?_⟩
    · have s00 := s0.trans t0
      obtain ⟨b, rfl, hb⟩ := hall d List.mem_cons_self
      rcases cas with ⟨b', eb, _, cas⟩ | ⟨nb, q⟩
      · cases eb
        have ev : v = .str b := by
          cases hv
          rfl
        subst ev
        refine ⟨.ref h, rfl, .ref r, rfl, .str b, rfl, r, b, qs, rfl, hP.same s00, hql, fun H1 l s1' nl hl1 => ?_⟩
        have s1 := s00.trans s1'
        refine ⟨.str b, rfl, h, l, b, zs, _, rfl, .inr (hq.same s1), .inl (.inl hl1), hb, by rw [srt_len]; exact Nat.le_trans (sndOf_len _ _) hql, fun H2 s2 => ⟨_, rfl, ?_⟩⟩
        rw [lets_srt]
        rcases cas with ⟨hlet, q⟩ | ⟨hlet, q⟩
        · rw [hlet]
          refine iteF ⟨.ref h, rfl, .str b, rfl, h, b, zs, rfl, .inr (hq.same (s1.trans s2)), hl, fun H3 t s3 nt ht => ?_⟩
          exact q _ t ((s1.trans s2).trans s3) ((s1.trans s2).free nt) ht
        · rw [hlet]
          refine iteT ⟨.str b, rfl, (by decide : (1 : Nat) ≤ 1000), fun a na => ⟨a, .str b, rfl, upd_same, fun dx n1 n2 => ⟨rfl, dx, [(("book" : Str), .str b)], upd_same, ?_, ?_, ?_⟩⟩⟩
          · rw [upd_ne n2, upd_same]
          · rw [upd_ne n2] at n1
            exact n1
          · exact q _ dx ((s1.trans s2).trans (xd_same na n1 n2)) upd_same
      · exact absurd hb (nb b rfl)
    · match i, hi, hi2 with
      | 0, hi, hi2 =>
        cases hi
        cases hi2
        rcases cas with ⟨b, eb, hb, _⟩ | ⟨nb, q⟩
        · exact absurd hb (hn b eb)
        · exact q H' dd (s0.trans s') hdd
      | i + 1, hi, hi2 => cases hi
theorem ok_MayGo {f fA fF : Addr} {fd dA dF : FuncData} {k : Nat} (F : Fun K "may_go" "may_go" sMayGo f fd) (FA : Fun K "all_above" "all_above" sAbv fA dA) (bA : Binds K dA ["heap", "friends", "book"] []) (gA : mg "all_above" = some (.ref fA)) (FF : Fun K "friends_of" "friends_of" sFriends fF dF) (bF : Binds K dF ["ties", "book"] []) (gF : mg "friends_of" = some (.ref fF)) (mA : mg "all" = none) (mS : mg "sorted" = none) : FnOk P w K mg base CX0 (k + 2) f fd ["heap", "ties"] (spMayGo K) := by
  have GA : FnOk P w K mg base CX0 (k + 1) fA dA ["heap", "friends", "book"] (spAbv K) := ok_Abv FA mA
  have GF : FnOk P w K mg base CX0 (k + 1) fF dF ["ties", "book"] (spPick K sndOf) := ok_Friends FF mS
  refine F.ok scMayGo (fun vs H Q E h => ?_) (fun cdv A outer s H vs Q E hr h => ?_)
  · obtain ⟨h, r, zs, qs, rfl, _⟩ := h
    rfl
  · obtain ⟨h, r, zs, qs, rfl, hq, hP, hl, hql, q⟩ := h
    rcases hq with hq | hq
    · refine ⟨_, pss_one (ps_ret (pe_callB (cr_srt hr.units) (by rfl) mS (by decide +kernel) (pa_cons (pe_lc (own := [("book", 2)]) (g := gName 2) rfl scMayGo.nd (pi_list (pv 0))
        (blkOk_by (N := nMayGo) (sc := defScope sMayGo) (by decide +kernel)) (fun _ _ _ _ _ => pg_name (i := 2) scMayGo.nd rfl (.inl rfl))
        (fun _ _ _ _ _ => pts_one (pt_val (pe_call GA hr (by rfl) gA FA.kp bA .nil pass0 (pa_cons (pv 0) (pa_cons (pe_call GF hr (by rfl) gF FF.kp bF .nil pass0 (pa_cons (pv 1) (pa_cons (pv 2) pa_nil))) (pa_cons (pv 2) pa_nil)))))) (fun _ _ _ _ _ => pv 2)) pa_nil))), ?_⟩
      refine ⟨.ref h, rfl, h, rfl, ⟨_, (Same.refl _).seq hq⟩, fun D nD => lc_it (walk_list (xs := zs.map V.str)) (fun i H4 => H4 D = some (.lst (((zs.take i).filter (lets qs zs)).map V.str)) ∧ Same H H4) ?_ ?_ ?_ ?_⟩
      · exact ⟨upd_same, same_upd nD⟩
      · rintro i H4 hi ⟨hD, s4⟩
        exact (s4).seq hq
      · rintro i v H4 H5 hi ⟨hD, s4⟩ ⟨rfl, hv⟩
        rw [List.getElem?_map] at hv
        obtain ⟨x, hx, rfl⟩ := Option.map_eq_some_iff.mp hv
        have hstep : (zs.take (i + 1)).filter (lets qs zs) = (zs.take i).filter (lets qs zs) ++ (if lets qs zs x = true then [x] else []) := by
          rw [List.take_add_one, hx, List.filter_append]
          congr 1
          by_cases e : lets qs zs x = true
          · simp [e]
          · simp [e]
        have hfew : ((zs.take i).filter (lets qs zs)).length ≤ 1000 := by
          have h1 := List.length_filter_le (lets qs zs) (zs.take i)
          rw [List.length_take] at h1
          omega
        refine ⟨rfl, .ref h, rfl, .ref r, rfl, .str x, rfl, r, x, qs, rfl, hP.same s4, hql, fun H6 l s6 nl hl6 => ?_⟩
        refine ⟨.str x, rfl, h, l, x, zs, _, rfl, .inl ((s4.trans s6).seq hq), .inl (.inl hl6), List.mem_of_getElem? hx, by rw [srt_len]; exact Nat.le_trans (sndOf_len _ _) hql, fun H7 s7 => ⟨_, rfl, ?_⟩⟩
        rw [lets_srt]
        refine ite2 (fun e => ?_) (fun e => ?_)
        · refine ⟨.str x, rfl, _, s7 _ _ (s6 _ _ hD), by rw [List.length_map, sizeLine_eq]; omega, ?_, ?_⟩
          · rw [upd_same, hstep, if_pos e, List.map_append]
            rfl
          · intro z o ez
            rw [upd_ne (ne_of_none ez nD)]
            exact s7 _ _ (s6 _ _ (s4 _ _ ez))
        · refine ⟨?_, (s4.trans s6).trans s7⟩
          rw [s7 _ _ (s6 _ _ hD), hstep, if_neg e, List.append_nil]
      · rintro H4 ⟨hD, s4⟩
        rw [List.length_map, List.take_length] at hD
        refine ⟨D, _, rfl, .inl (.inl (.inl hD)), Nat.le_trans (List.length_filter_le _ _) hl, fun l nl => ?_⟩
        exact q _ l (s4.trans (same_upd nl)) (s4.free nl) upd_same
    · refine ⟨_, pss_one (ps_ret (pe_callB (cr_srt hr.units) (by rfl) mS (by decide +kernel) (pa_cons (pe_lc (own := [("book", 2)]) (g := gName 2) rfl scMayGo.nd (pi_tup (pv 0))
        (blkOk_by (N := nMayGo) (sc := defScope sMayGo) (by decide +kernel)) (fun _ _ _ _ _ => pg_name (i := 2) scMayGo.nd rfl (.inl rfl))
        (fun _ _ _ _ _ => pts_one (pt_val (pe_call GA hr (by rfl) gA FA.kp bA .nil pass0 (pa_cons (pv 0) (pa_cons (pe_call GF hr (by rfl) gF FF.kp bF .nil pass0 (pa_cons (pv 1) (pa_cons (pv 2) pa_nil))) (pa_cons (pv 2) pa_nil)))))) (fun _ _ _ _ _ => pv 2)) pa_nil))), ?_⟩
      refine ⟨.ref h, rfl, h, rfl, ⟨_, (hq.same (Same.refl _)).sq⟩, fun D nD => lc_it (walk_tup (xs := zs.map V.str)) (fun i H4 => H4 D = some (.lst (((zs.take i).filter (lets qs zs)).map V.str)) ∧ Same H H4) ?_ ?_ ?_ ?_⟩
      · exact ⟨upd_same, same_upd nD⟩
      · rintro i H4 hi ⟨hD, s4⟩
        exact (hq.same (s4)).sq
      · rintro i v H4 H5 hi ⟨hD, s4⟩ ⟨rfl, hv⟩
        rw [List.getElem?_map] at hv
        obtain ⟨x, hx, rfl⟩ := Option.map_eq_some_iff.mp hv
        have hstep : (zs.take (i + 1)).filter (lets qs zs) = (zs.take i).filter (lets qs zs) ++ (if lets qs zs x = true then [x] else []) := by
          rw [List.take_add_one, hx, List.filter_append]
          congr 1
          by_cases e : lets qs zs x = true
          · simp [e]
          · simp [e]
        have hfew : ((zs.take i).filter (lets qs zs)).length ≤ 1000 := by
          have h1 := List.length_filter_le (lets qs zs) (zs.take i)
          rw [List.length_take] at h1
          omega
        refine ⟨rfl, .ref h, rfl, .ref r, rfl, .str x, rfl, r, x, qs, rfl, hP.same s4, hql, fun H6 l s6 nl hl6 => ?_⟩
        refine ⟨.str x, rfl, h, l, x, zs, _, rfl, .inr (hq.same (s4.trans s6)), .inl (.inl hl6), List.mem_of_getElem? hx, by rw [srt_len]; exact Nat.le_trans (sndOf_len _ _) hql, fun H7 s7 => ⟨_, rfl, ?_⟩⟩
        rw [lets_srt]
        refine ite2 (fun e => ?_) (fun e => ?_)
        · refine ⟨.str x, rfl, _, s7 _ _ (s6 _ _ hD), by rw [List.length_map, sizeLine_eq]; omega, ?_, ?_⟩
          · rw [upd_same, hstep, if_pos e, List.map_append]
            rfl
          · intro z o ez
            rw [upd_ne (ne_of_none ez nD)]
            exact s7 _ _ (s6 _ _ (s4 _ _ ez))
        · refine ⟨?_, (s4.trans s6).trans s7⟩
          rw [s7 _ _ (s6 _ _ hD), hstep, if_neg e, List.append_nil]
      · rintro H4 ⟨hD, s4⟩
        rw [List.length_map, List.take_length] at hD
        refine ⟨D, _, rfl, .inl (.inl (.inl hD)), Nat.le_trans (List.length_filter_le _ _) hl, fun l nl => ?_⟩
        exact q _ l (s4.trans (same_upd nl)) (s4.free nl) upd_same
end
end HF
namespace HF
open PySem PySem.Spec PyProof.Rows L2
section
variable {P : Program} {w : World} {K : PySem.W.Frag} {mg : Str → Option Value} {base : Heap}
abbrev sPk : Stmt := topS 16
abbrev sAbove : Stmt := topS 24
abbrev sLf : Stmt := topS 25
abbrev sLet : Stmt := topS 26
abbrev sMoved : Stmt := topS 27
abbrev sMay : Stmt := topS 28
theorem scAbove : FnScope ["_law_stack", "_law_mine", "_law_its"] ["_law_stack", "_law_mine", "_law_its"] (defScope sAbove) := ⟨rfl, rfl, rfl, by decide +kernel, rfl, by decide +kernel, by decide +kernel⟩
theorem ok_Above {f : Addr} {fd : FuncData} {k : Nat} (F : Fun K "_law_above" "_law_above" sAbove f fd) : FnOk P w K mg base CX0 (k + 1) f fd ["_law_stack", "_law_mine", "_law_its"] (spLies K) := by
  refine F.ok scAbove (fun vs H Q E h => ?_) (fun cdv A outer s H vs Q E hr h => ?_)
  · obtain ⟨a, zs, x, y, rfl, _⟩ := h
    rfl
  · obtain ⟨a, zs, x, y, rfl, hq, hx, hy, q⟩ := h
    rcases hq with hq | hq
    · refine ⟨_, pss_one (ps_ret (pe_cmpR op_lt (pe_bm PySem.F.plainAttrs_list PySem.F.slot_list_index PySem.F.type_list_index mt_index (pv 0) (pa_cons (pv 1) pa_nil)) (pe_bm PySem.F.plainAttrs_list PySem.F.slot_list_index PySem.F.type_list_index mt_index (pv 0) (pa_cons (pv 2) pa_nil)) (nomark _))), ?_⟩
      exact ⟨.ref a, rfl, .inl ⟨rfl, _, hq⟩, .str x, rfl, a, _, .str x, pos x zs, .str x, rfl, rfl, hq, rfl, strs_all, strs_at (pos_get hx), (by simp [eqV]), strs_first, .ref a, rfl, .inl ⟨rfl, _, hq⟩, .str y, rfl, a, _, .str y, pos y zs, .str y, rfl, rfl, hq, rfl, strs_all, strs_at (pos_get hy), (by simp [eqV]), strs_first, _, _, rfl, rfl, q⟩
    · refine ⟨_, pss_one (ps_ret (pe_cmpR op_lt (pe_bmT PySem.F.slot_tuple_index PySem.F.type_tuple_index mt_tup_index (pv 0) (pa_cons (pv 1) pa_nil)) (pe_bmT PySem.F.slot_tuple_index PySem.F.type_tuple_index mt_tup_index (pv 0) (pa_cons (pv 2) pa_nil)) (nomark _))), ?_⟩
      exact ⟨.ref a, rfl, ⟨a, _, rfl, hq⟩, .str x, rfl, a, zs, x, pos x zs, rfl, rfl, hq.sq, pos_get hx, fun m hm => pos_first hm, .ref a, rfl, ⟨a, _, rfl, hq⟩, .str y, rfl, a, zs, y, pos y zs, rfl, rfl, hq.sq, pos_get hy, fun m hm => pos_first hm, _, _, rfl, rfl, q⟩
abbrev nPk : List Str := ["_law_box_here", "_law_some"]
theorem scPk : FnScope nPk ["_law_box_here", "_law_some"] (defScope sPk) := ⟨rfl, rfl, rfl, by decide +kernel, rfl, by decide +kernel, by decide +kernel⟩
abbrev nLf : List Str := ["_law_pairs", "_law_mine", "_law_whose", "_law_its"]
theorem scLf : FnScope nLf ["_law_pairs", "_law_mine"] (defScope sLf) := ⟨rfl, rfl, rfl, by decide +kernel, rfl, by decide +kernel, by decide +kernel⟩
abbrev nLet : List Str := ["_law_stack", "_law_pairs", "_law_mine", "_law_its"]
theorem scLet : FnScope nLet ["_law_stack", "_law_pairs", "_law_mine"] (defScope sLet) := ⟨rfl, rfl, rfl, by decide +kernel, rfl, by decide +kernel, by decide +kernel⟩
abbrev nMoved : List Str := ["_law_stack", "_law_mine", "_law_its"]
theorem scMoved : FnScope nMoved ["_law_stack", "_law_mine"] (defScope sMoved) := ⟨rfl, rfl, rfl, by decide +kernel, rfl, by decide +kernel, by decide +kernel⟩
abbrev nMay : List Str := ["_law_stack", "_law_pairs", "_law_mine"]
theorem scMay : FnScope nMay ["_law_stack", "_law_pairs"] (defScope sMay) := ⟨rfl, rfl, rfl, by decide +kernel, rfl, by decide +kernel, by decide +kernel⟩
theorem ok_Pk {f fT : Addr} {fd dT : FuncData} {k : Nat} (F : Fun K "_law_pick" "_law_pick" sPk f fd) (FT : Fun K "_law_take" "_law_take" sTake fT dT) (bT : Binds K dT ["_law_box_here", "_law_bound"] []) (gT : mg "_law_take" = some (.ref fT)) (ml : mg "len" = none) : FnOk P w K mg base CX0 (k + 2) f fd ["_law_box_here", "_law_some"] (spPk K) := by
  have GT : FnOk P w K mg base CX0 (k + 1) fT dT ["_law_box_here", "_law_bound"] spTake := ok_take FT
  refine F.ok scPk (fun vs H Q E h => ?_) (fun cdv A outer s H vs Q E hr h => ?_)
  · obtain ⟨p, a, c, xs, rfl, _⟩ := h
    rfl
  · obtain ⟨p, a, c, xs, rfl, hB, hc, ha, nap, h0, h1, q⟩ := h
    refine ⟨_, pss_one (ps_ret (pe_ix (r := rIxL K) ix_list (pv 1) (pe_call GT hr (by rfl) gT FT.kp bT .nil pass0 (pa_cons (pv 0) (pa_cons (pe_callB call_len_seq (by rfl) ml PySem.boot_len (pa_cons (pv 1) pa_nil)) pa_nil))) (fun _ _ => rfl))), ?_⟩
    refine ⟨.ref a, rfl, .ref p, rfl, .ref a, rfl, a, _, rfl, .inl ha, p, _, c, rfl, hB, by omega, by omega, by omega, fun r c' o hr0 hr1 hc1 hc2 hb => ?_⟩
    obtain ⟨n, rfl⟩ := Int.eq_ofNat_of_zero_le hr0
    have hn : n < xs.length := by omega
    have ho : Oth p H (upd H p o) := Oth.put
    refine ⟨a, xs, n, xs[n], rfl, rfl, ?_, atI_nat (List.getElem?_eq_getElem hn), ?_⟩
    · exact ho.seq nap ha
    · exact q n _ c' o (List.getElem?_eq_getElem hn) hc1 hc2 hb
theorem ok_Lf {f : Addr} {fd : FuncData} {k : Nat} (F : Fun K "_law_friends" "_law_friends" sLf f fd) : FnOk P w K mg base CX0 (k + 1) f fd ["_law_pairs", "_law_mine"] (spPickU K sndOf) := by
  refine F.ok scLf (fun vs H Q E h => ?_) (fun cdv A outer s H vs Q E hr h => ?_)
  · obtain ⟨r, b, qs, rfl, _⟩ := h
    rfl
  · obtain ⟨r, b, qs, rfl, hq, hlen, q⟩ := h
    obtain ⟨as, hr0, hal, hat⟩ := hq
    refine ⟨_, pss_one (ps_ret (pe_lc (own := [("_law_whose", 2), ("_law_its", 3)]) (g := gTup K 2 (gCons (gName 2) (gCons (gName 3) gNil))) rfl scLf.nd (pi_tup (pv 0))
        (blkOk_by (N := nLf) (sc := defScope sLf) (by decide +kernel)) (fun _ _ _ _ _ => pg_tup rfl (pgs_cons (pg_name (i := 2) scLf.nd rfl (.inl rfl)) (pgs_cons (pg_name (i := 3) scLf.nd rfl (.inl rfl)) pgs_nil)))
        (fun _ _ _ _ _ => pts_one (pt_cmpR op_eq (pv 2) (pv 1) (nomark _))) (fun _ _ _ _ _ => pv 3))), ?_⟩
    refine ⟨.ref r, rfl, r, rfl, ⟨_, hr0⟩, fun D nD => lc_it (walk_tup (xs := as.map V.ref)) (fun i H4 => H4 D = some (.lst ((sndOf b (qs.take i)).map V.str)) ∧ Same H H4) ?_ ?_ ?_ ?_⟩
    · exact ⟨upd_same, same_upd nD⟩
    · rintro i H4 hi ⟨hD, s4⟩
      exact sameT (s4) hr0
    · rintro i v H4 H5 hi ⟨hD, s4⟩ ⟨rfl, hv⟩
      rw [List.getElem?_map] at hv
      obtain ⟨a, ha, rfl⟩ := Option.map_eq_some_iff.mp hv
      have hil : i < qs.length := by
        rw [← hal]
        exact (List.getElem?_eq_some_iff.mp ha).1
      have hqi : qs[i]? = some qs[i] := List.getElem?_eq_getElem hil
      have hpa := hat i a _ ha hqi
      generalize qs[i] = q0 at *
      have hstep : sndOf b (qs.take (i + 1)) = sndOf b (qs.take i) ++ (if q0.1 = b then [q0.2] else []) := by
        rw [List.take_add_one, hqi]
        exact sndOf_snoc b (qs.take i) q0
      have hfew : (sndOf b (qs.take i)).length ≤ 400 := by
        have h1 := sndOf_len b (qs.take i)
        rw [List.length_take] at h1
        omega
      refine ⟨a, _, rfl, sameT (s4) hpa, rfl, _, _, rfl, _, _, rfl, rfl, rfl, ?_⟩
      refine ⟨.str q0.1, rfl, .str b, rfl, rfl, _, rfl, ite2 (fun e => ?_) (fun e => ?_)⟩
      · have e2 : q0.1 = b := V.str.inj (of_decide_eq_true e)
        refine ⟨.str q0.2, rfl, _, hD, by rw [List.length_map, sizeLine_eq]; omega, ?_, ?_⟩
        · rw [upd_same, hstep, if_pos e2, List.map_append]
          rfl
        · intro z o ez
          rw [upd_ne (ne_of_none ez nD)]
          exact s4 _ _ ez
      · have e2 : ¬ q0.1 = b := fun z => e (decide_eq_true (by rw [z]))
        refine ⟨?_, s4⟩
        rw [hD, hstep, if_neg e2, List.append_nil]
    · rintro H4 ⟨hD, s4⟩
      rw [List.length_map, hal, List.take_length] at hD
      exact q _ D s4 nD hD
theorem ok_Let {f fA fF : Addr} {fd dA dF : FuncData} {k : Nat} (F : Fun K "_law_let" "_law_let" sLet f fd) (FA : Fun K "_law_above" "_law_above" sAbove fA dA) (bA : Binds K dA ["_law_stack", "_law_mine", "_law_its"] []) (gA : mg "_law_above" = some (.ref fA)) (FF : Fun K "_law_friends" "_law_friends" sLf fF dF) (bF : Binds K dF ["_law_pairs", "_law_mine"] []) (gF : mg "_law_friends" = some (.ref fF)) (mA : mg "all" = none) : FnOk P w K mg base CX0 (k + 2) f fd ["_law_stack", "_law_pairs", "_law_mine"] (spLet K) := by
  have GA : FnOk P w K mg base CX0 (k + 1) fA dA ["_law_stack", "_law_mine", "_law_its"] (spLies K) := ok_Above FA
  have GF : FnOk P w K mg base CX0 (k + 1) fF dF ["_law_pairs", "_law_mine"] (spPickU K sndOf) := ok_Lf FF
  refine F.ok scLet (fun vs H Q E h => ?_) (fun cdv A outer s H vs Q E hr h => ?_)
  · obtain ⟨h, r, b, zs, qs, rfl, _⟩ := h
    rfl
  · obtain ⟨h, r, b, zs, qs, rfl, hq, hP, hb, hin, hlen, q⟩ := h
    refine ⟨_, pss_one (ps_ret (pe_callB (cr_all rfl) (by rfl) mA (by decide +kernel) (pa_cons (pe_lc (own := [("_law_its", 3)]) (g := gName 3) (tt := tYes) rfl scLet.nd (pi_list (pe_call GF hr (by rfl) gF FF.kp bF .nil pass0 (pa_cons (pv 1) (pa_cons (pv 2) pa_nil))))
      (blkOk_by (N := nLet) (sc := defScope sLet) (by decide +kernel)) (fun _ _ _ _ _ => pg_name (i := 3) scLet.nd rfl (.inl rfl)) (fun _ _ _ _ _ => pts_nil)
      (fun _ _ _ _ _ => (pe_call GA hr (by rfl) gA FA.kp bA .nil pass0 (pa_cons (pv 0) (pa_cons (pv 3) (pa_cons (pv 2) pa_nil)))))) pa_nil))), ?_⟩
    refine ⟨.ref r, rfl, .str b, rfl, r, b, qs, rfl, hP, hlen, fun H1 l s1 nl hl1 => ⟨l, rfl, ⟨_, .inl (.inl hl1)⟩, fun D nD => lc_it (walk_list (xs := (sndOf b qs).map V.str)) (fun i H4 => H4 D = some (.lst ((((sndOf b qs).take i).map fun f => decide ((pos f zs : Int) < (pos b zs : Int))).map V.bl)) ∧ Same H1 H4) ?_ ?_ ?_ ?_⟩⟩
    · exact ⟨upd_same, same_upd nD⟩
    · rintro i H4 hi ⟨hD, s4⟩
      exact .inl (.inl (s4 _ _ hl1))
    · rintro i v H4 H5 hi ⟨hD, s4⟩ ⟨rfl, hv⟩
      rw [List.getElem?_map] at hv
      obtain ⟨x, hx, rfl⟩ := Option.map_eq_some_iff.mp hv
      have hxz : x ∈ zs := by
        have h1 := List.mem_of_getElem? hx
        unfold sndOf at h1
        obtain ⟨q0, hq0, rfl⟩ := List.mem_map.mp h1
        exact hin q0 (List.mem_filter.mp hq0).1
      refine ⟨rfl, .ref h, rfl, .str x, rfl, .str b, rfl, h, zs, x, b, rfl, hq.same (s1.trans s4), hxz, hb, _, hD, ?_, ?_, ?_⟩
      · have h1 := sndOf_len b qs
        rw [List.length_map, List.length_map, List.length_take, sizeLine_eq]
        omega
      · rw [upd_same, List.take_add_one, hx, List.map_append, List.map_append]
        rfl
      · intro z o ez
        rw [upd_ne (ne_of_none ez nD)]
        exact s4 _ _ ez
    · rintro H4 ⟨hD, s4⟩
      rw [List.length_map, List.take_length] at hD
      refine ⟨D, _, rfl, .inl (.inl hD), ?_⟩
      have e : ((sndOf b qs).map fun f => decide ((pos f zs : Int) < (pos b zs : Int))).all id = lets qs zs b := by
        rw [List.all_map]
        rfl
      rw [e]
      exact q _ (s1.trans s4)
theorem ok_Moved {f : Addr} {fd : FuncData} {k : Nat} (F : Fun K "_law_moved" "_law_moved" sMoved f fd) (mT : mg "tuple" = none) : FnOk P w K mg base CX0 (k + 1) f fd ["_law_stack", "_law_mine"] (spTop K) := by
  refine F.ok scMoved (fun vs H Q E h => ?_) (fun cdv A outer s H vs Q E hr h => ?_)
  · obtain ⟨h, b, zs, rfl, _⟩ := h
    rfl
  · obtain ⟨h, b, zs, rfl, hq, hl, q⟩ := h
    rcases hq with hq | hq
    · refine ⟨_, pss_one (ps_ret (pe_op op_catF (pe_tupF (pa_cons (pv 1) pa_nil)) (pe_callTy call_tupleF (by rfl) mT (by decide +kernel) (pa_cons (pe_lc (own := [("_law_its", 2)]) (g := gName 2) rfl scMoved.nd (pi_list (pv 0))
          (blkOk_by (N := nMoved) (sc := defScope sMoved) (by decide +kernel)) (fun _ _ _ _ _ => pg_name (i := 2) scMoved.nd rfl (.inl rfl)) (fun _ _ _ _ _ => pts_one (pt_cmpR op_ne (pv 2) (pv 1) (nomark _)))
          (fun _ _ _ _ _ => pv 2)) pa_nil)))), ?_⟩
      refine ⟨.str b, rfl, (by decide : (1 : Nat) ≤ sizeLine), fun t0 ob0 nt0 e1 e2 => ?_⟩
      have ht0 : Tp (upd H t0 (.frz ob0 (.tup [V.str b]))) t0 [.str b] := ⟨ob0, upd_same, e1, e2⟩
      have s1 : Same H (upd H t0 (.frz ob0 (.tup [V.str b]))) := same_upd nt0
      generalize (upd H t0 (.frz ob0 (.tup [V.str b]))) = H1 at *
      refine ⟨.ref h, rfl, h, rfl, ⟨_, (s1).seq hq⟩, fun D nD => lc_it (walk_list (xs := zs.map V.str)) (fun i H4 => H4 D = some (.lst (((zs.take i).filter fun z => decide (z ≠ b)).map V.str)) ∧ Same H1 H4) ?_ ?_ ?_ ?_⟩
      · exact ⟨upd_same, same_upd nD⟩
      · rintro i H4 hi ⟨hD, s4⟩
        exact (s1.trans s4).seq hq
      · rintro i v H4 H5 hi ⟨hD, s4⟩ ⟨rfl, hv⟩
        rw [List.getElem?_map] at hv
        obtain ⟨x, hx, rfl⟩ := Option.map_eq_some_iff.mp hv
        have hstep : (zs.take (i + 1)).filter (fun z => decide (z ≠ b)) = (zs.take i).filter (fun z => decide (z ≠ b)) ++ (if x = b then [] else [x]) := by
          rw [List.take_add_one, hx, List.filter_append]
          congr 1
          by_cases e : x = b
          · simp [e]
          · simp [e]
        have hfew : ((zs.take i).filter (fun z => decide (z ≠ b))).length ≤ 1000 := by
          have h1 := List.length_filter_le (fun z => decide (z ≠ b)) (zs.take i)
          rw [List.length_take] at h1
          omega
        refine ⟨rfl, .str x, rfl, .str b, rfl, rfl, _, rfl, ite2 (fun e => ?_) (fun e => ?_)⟩
        · have e2 : ¬ x = b := fun z => by
            subst z
            simp at e
          refine ⟨.str x, rfl, _, hD, by rw [List.length_map, sizeLine_eq]; omega, ?_, ?_⟩
          · rw [upd_same, hstep, if_neg e2, List.map_append]
            rfl
          · intro z o ez
            rw [upd_ne (ne_of_none ez nD)]
            exact s4 _ _ ez
        · have e2 : x = b := Classical.byContradiction fun z => e (by simp [z])
          refine ⟨?_, s4⟩
          rw [hD, hstep, if_pos e2, List.append_nil]
      · rintro H4 ⟨hD, s4⟩
        rw [List.length_map, List.take_length] at hD
        have hfew : (zs.filter (fun z => decide (z ≠ b))).length ≤ 1000 := Nat.le_trans (List.length_filter_le _ _) hl
        refine ⟨D, _, rfl, .inl (.inl hD), fun t1 ob1 nt1 e3 e4 => ?_⟩
        have ht1 : Tp (upd H4 t1 (.frz ob1 (.tup ((zs.filter fun z => decide (z ≠ b)).map V.str)))) t1 ((zs.filter fun z => decide (z ≠ b)).map V.str) := ⟨ob1, upd_same, e3, e4⟩
        have s5 : Same H1 (upd H4 t1 (.frz ob1 (.tup ((zs.filter fun z => decide (z ≠ b)).map V.str)))) := s4.trans (same_upd nt1)
        generalize (upd H4 t1 (.frz ob1 (.tup ((zs.filter fun z => decide (z ≠ b)).map V.str)))) = H5 at *
        refine ⟨t0, t1, _, _, rfl, rfl, (ht0.same s5).sq, ht1.sq, (by simp), ?_, fun e => ?_, fun e l ob nl e5 e6 => ?_⟩
        · rw [List.length_map, sizeLine_eq]
          show 1 + _ ≤ _
          omega
        · refine q _ t0 (s1.trans s5) nt0 ?_
          have e' : zs.filter (fun z => decide (z ≠ b)) = [] := List.map_eq_nil_iff.mp e
          unfold onTop
          rw [e']
          exact ht0.same s5
        · exact q _ l ((s1.trans s5).trans (same_upd nl)) ((s1.trans s5).free nl) ⟨ob, by rw [upd_same]; rfl, e5, e6⟩
    · refine ⟨_, pss_one (ps_ret (pe_op op_catF (pe_tupF (pa_cons (pv 1) pa_nil)) (pe_callTy call_tupleF (by rfl) mT (by decide +kernel) (pa_cons (pe_lc (own := [("_law_its", 2)]) (g := gName 2) rfl scMoved.nd (pi_tup (pv 0))
          (blkOk_by (N := nMoved) (sc := defScope sMoved) (by decide +kernel)) (fun _ _ _ _ _ => pg_name (i := 2) scMoved.nd rfl (.inl rfl)) (fun _ _ _ _ _ => pts_one (pt_cmpR op_ne (pv 2) (pv 1) (nomark _)))
          (fun _ _ _ _ _ => pv 2)) pa_nil)))), ?_⟩
      refine ⟨.str b, rfl, (by decide : (1 : Nat) ≤ sizeLine), fun t0 ob0 nt0 e1 e2 => ?_⟩
      have ht0 : Tp (upd H t0 (.frz ob0 (.tup [V.str b]))) t0 [.str b] := ⟨ob0, upd_same, e1, e2⟩
      have s1 : Same H (upd H t0 (.frz ob0 (.tup [V.str b]))) := same_upd nt0
      generalize (upd H t0 (.frz ob0 (.tup [V.str b]))) = H1 at *
      refine ⟨.ref h, rfl, h, rfl, ⟨_, (hq.same (s1)).sq⟩, fun D nD => lc_it (walk_tup (xs := zs.map V.str)) (fun i H4 => H4 D = some (.lst (((zs.take i).filter fun z => decide (z ≠ b)).map V.str)) ∧ Same H1 H4) ?_ ?_ ?_ ?_⟩
      · exact ⟨upd_same, same_upd nD⟩
      · rintro i H4 hi ⟨hD, s4⟩
        exact (hq.same (s1.trans s4)).sq
      · rintro i v H4 H5 hi ⟨hD, s4⟩ ⟨rfl, hv⟩
        rw [List.getElem?_map] at hv
        obtain ⟨x, hx, rfl⟩ := Option.map_eq_some_iff.mp hv
        have hstep : (zs.take (i + 1)).filter (fun z => decide (z ≠ b)) = (zs.take i).filter (fun z => decide (z ≠ b)) ++ (if x = b then [] else [x]) := by
          rw [List.take_add_one, hx, List.filter_append]
          congr 1
          by_cases e : x = b
          · simp [e]
          · simp [e]
        have hfew : ((zs.take i).filter (fun z => decide (z ≠ b))).length ≤ 1000 := by
          have h1 := List.length_filter_le (fun z => decide (z ≠ b)) (zs.take i)
          rw [List.length_take] at h1
          omega
        refine ⟨rfl, .str x, rfl, .str b, rfl, rfl, _, rfl, ite2 (fun e => ?_) (fun e => ?_)⟩
        · have e2 : ¬ x = b := fun z => by
            subst z
            simp at e
          refine ⟨.str x, rfl, _, hD, by rw [List.length_map, sizeLine_eq]; omega, ?_, ?_⟩
          · rw [upd_same, hstep, if_neg e2, List.map_append]
            rfl
          · intro z o ez
            rw [upd_ne (ne_of_none ez nD)]
            exact s4 _ _ ez
        · have e2 : x = b := Classical.byContradiction fun z => e (by simp [z])
          refine ⟨?_, s4⟩
          rw [hD, hstep, if_pos e2, List.append_nil]
      · rintro H4 ⟨hD, s4⟩
        rw [List.length_map, List.take_length] at hD
        have hfew : (zs.filter (fun z => decide (z ≠ b))).length ≤ 1000 := Nat.le_trans (List.length_filter_le _ _) hl
        refine ⟨D, _, rfl, .inl (.inl hD), fun t1 ob1 nt1 e3 e4 => ?_⟩
        have ht1 : Tp (upd H4 t1 (.frz ob1 (.tup ((zs.filter fun z => decide (z ≠ b)).map V.str)))) t1 ((zs.filter fun z => decide (z ≠ b)).map V.str) := ⟨ob1, upd_same, e3, e4⟩
        have s5 : Same H1 (upd H4 t1 (.frz ob1 (.tup ((zs.filter fun z => decide (z ≠ b)).map V.str)))) := s4.trans (same_upd nt1)
        generalize (upd H4 t1 (.frz ob1 (.tup ((zs.filter fun z => decide (z ≠ b)).map V.str)))) = H5 at *
        refine ⟨t0, t1, _, _, rfl, rfl, (ht0.same s5).sq, ht1.sq, (by simp), ?_, fun e => ?_, fun e l ob nl e5 e6 => ?_⟩
        · rw [List.length_map, sizeLine_eq]
          show 1 + _ ≤ _
          omega
        · refine q _ t0 (s1.trans s5) nt0 ?_
          have e' : zs.filter (fun z => decide (z ≠ b)) = [] := List.map_eq_nil_iff.mp e
          unfold onTop
          rw [e']
          exact ht0.same s5
        · exact q _ l ((s1.trans s5).trans (same_upd nl)) ((s1.trans s5).free nl) ⟨ob, by rw [upd_same]; rfl, e5, e6⟩
theorem ok_May {f fE fA fF : Addr} {fd dE dA dF : FuncData} {k : Nat} (F : Fun K "_law_may" "_law_may" sMay f fd) (FE : Fun K "_law_let" "_law_let" sLet fE dE) (bE : Binds K dE ["_law_stack", "_law_pairs", "_law_mine"] []) (gE : mg "_law_let" = some (.ref fE)) (FA : Fun K "_law_above" "_law_above" sAbove fA dA) (bA : Binds K dA ["_law_stack", "_law_mine", "_law_its"] []) (gA : mg "_law_above" = some (.ref fA)) (FF : Fun K "_law_friends" "_law_friends" sLf fF dF) (bF : Binds K dF ["_law_pairs", "_law_mine"] []) (gF : mg "_law_friends" = some (.ref fF)) (mA : mg "all" = none) (mS : mg "sorted" = none) : FnOk P w K mg base CX0 (k + 3) f fd ["_law_stack", "_law_pairs"] (spMay K) := by
  have GE : FnOk P w K mg base CX0 (k + 2) fE dE ["_law_stack", "_law_pairs", "_law_mine"] (spLet K) := ok_Let FE FA bA gA FF bF gF mA
  refine F.ok scMay (fun vs H Q E h => ?_) (fun cdv A outer s H vs Q E hr h => ?_)
  · obtain ⟨h, r, zs, qs, rfl, _⟩ := h
    rfl
  · obtain ⟨h, r, zs, qs, rfl, hq, hP, hin, hlen, hql, q⟩ := h
    refine ⟨_, pss_one (ps_ret (pe_lc (own := [("_law_mine", 2)]) (g := gName 2) rfl scMay.nd (pi_list (pe_callB (cr_srt hr.units) (by rfl) mS (by decide +kernel) (pa_cons (pv 0) pa_nil)))
      (blkOk_by (N := nMay) (sc := defScope sMay) (by decide +kernel)) (fun _ _ _ _ _ => pg_name (i := 2) scMay.nd rfl (.inl rfl)) (fun _ _ _ _ _ => pts_one (pt_val (pe_call GE hr (by rfl) gE FE.kp bE .nil pass0 (pa_cons (pv 0) (pa_cons (pv 1) (pa_cons (pv 2) pa_nil))))))
      (fun _ _ _ _ _ => pv 2))), ?_⟩
    refine ⟨.ref h, rfl, h, zs, rfl, hq.imp id (fun z => z.sq), hlen, fun l nl => ?_⟩
    have hl1 : (upd H l (.lst ((srt zs).map V.str))) l = some (.lst ((srt zs).map V.str)) := upd_same
    have s1 : Same H (upd H l (.lst ((srt zs).map V.str))) := same_upd nl
    generalize (upd H l (.lst ((srt zs).map V.str))) = H1 at *
    refine ⟨l, rfl, ⟨_, .inl (.inl hl1)⟩, fun D nD => lc_it (walk_list (xs := (srt zs).map V.str)) (fun i H4 => H4 D = some (.lst ((((srt zs).take i).filter (lets qs zs)).map V.str)) ∧ Same H1 H4) ?_ ?_ ?_ ?_⟩
    · exact ⟨upd_same, same_upd nD⟩
    · rintro i H4 hi ⟨hD, s4⟩
      exact .inl (.inl (s4 _ _ hl1))
    · rintro i v H4 H5 hi ⟨hD, s4⟩ ⟨rfl, hv⟩
      rw [List.getElem?_map] at hv
      obtain ⟨x, hx, rfl⟩ := Option.map_eq_some_iff.mp hv
      have hxz : x ∈ zs := (srt_perm zs).mem_iff.mp (List.mem_of_getElem? hx)
      have hstep : ((srt zs).take (i + 1)).filter (lets qs zs) = ((srt zs).take i).filter (lets qs zs) ++ (if lets qs zs x = true then [x] else []) := by
        rw [List.take_add_one, hx, List.filter_append]
        congr 1
        by_cases e : lets qs zs x = true
        · simp [e]
        · simp [e]
      have hfew : (((srt zs).take i).filter (lets qs zs)).length ≤ 1000 := by
        have h1 := List.length_filter_le (lets qs zs) ((srt zs).take i)
        rw [List.length_take, srt_len] at h1
        omega
      refine ⟨rfl, .ref h, rfl, .ref r, rfl, .str x, rfl, h, r, x, zs, qs, rfl, hq.same (s1.trans s4), hP.same (s1.trans s4), hxz, hin, hql, fun H6 s6 => ⟨_, rfl, ite2 (fun e => ?_) (fun e => ?_)⟩⟩
      · refine ⟨.str x, rfl, _, s6 _ _ hD, by rw [List.length_map, sizeLine_eq]; omega, ?_, ?_⟩
        · rw [upd_same, hstep, if_pos e, List.map_append]
          rfl
        · intro z o ez
          rw [upd_ne (ne_of_none ez nD)]
          exact s6 _ _ (s4 _ _ ez)
      · refine ⟨?_, s4.trans s6⟩
        rw [s6 _ _ hD, hstep, if_neg e, List.append_nil]
    · rintro H4 ⟨hD, s4⟩
      rw [List.length_map, List.take_length] at hD
      exact q _ D (s1.trans s4) (s1.free nD) hD
end
end HF
namespace HF
open PySem PySem.Spec PyProof.Rows L2
section
variable {P : Program} {w : World} {K : PySem.W.Frag} {mg : Str → Option Value} {base : Heap}
abbrev sTold : Stmt := topS 29
abbrev nTold : List Str := ["_law_stack", "_law_pairs", "_law_mine", "_law_found", "_law_caught", "error", "_law_fine"]
theorem scTold : FnScope nTold ["_law_stack", "_law_pairs", "_law_mine"] (defScope sTold) := ⟨rfl, rfl, rfl, by decide +kernel, rfl, by decide +kernel, by decide +kernel⟩
theorem ok_Told {f fL fA fT fF fR CN CM CB CU : Addr} {fd dL dA dT dF dR : FuncData} {k : Nat} (F : Fun K "_law_told" "_law_told" sTold f fd) (FL : Fun K "laid" "laid" sLaid fL dL) (bL : Binds K dL ["heap", "ties", "book"] []) (gL : mg "laid" = some (.ref fL))
    (tN : XNb K mg CN) (tM : XMn K mg CM) (gB : mg "Barred" = some (.ref CB)) (gU : mg "Unlike" = some (.ref CU)) (kin : Kin K CB CM CN CU) (mL : mg "LookupError" = none) (mR : mg "RuntimeError" = none) (mI : mg "isinstance" = none)
    (FA : Fun K "all_above" "all_above" sAbv fA dA) (bA : Binds K dA ["heap", "friends", "book"] []) (gA : mg "all_above" = some (.ref fA)) (FT : Fun K "on_top" "on_top" sTop fT dT) (bT : Binds K dT ["heap", "book"] []) (gT : mg "on_top" = some (.ref fT)) (FR : Fun K "refuse_absent" "refuse_absent" sAbs fR dR) (bR : Binds K dR ["heap", "books"] []) (gR : mg "refuse_absent" = some (.ref fR))
    (FF : Fun K "friends_of" "friends_of" sFriends fF dF) (bF : Binds K dF ["ties", "book"] []) (gF : mg "friends_of" = some (.ref fF)) (mA : mg "all" = none) (mT : mg "tuple" = none) (mS : mg "sorted" = none) : FnOk P w K mg base CX0 (k + 5) f fd ["_law_stack", "_law_pairs", "_law_mine"] (spTold K) := by
  have GL : FnOk P w K mg base (L2.CX P w) (k + 4) fL dL ["heap", "ties", "book"] (spLaidX K CN CM) := ok_LaidX FL tN tM mL mR FA bA gA FT bT gT FR bR gR FF bF gF mA mT mS
  refine F.ok scTold (fun vs H Q E h => ?_) (fun cdv A outer s H vs Q E hr h => ?_)
  · obtain ⟨h, r, v, d, zs, qs, rfl, _⟩ := h
    rfl
  · obtain ⟨h, r, v, d, zs, qs, rfl, hq, hP, hv, hsh, hznm, hl, hql, cas⟩ := h
    refine ⟨_, pss_cons (ps_asg (pe_tup (pa_cons pe_non (pa_cons pe_non pa_nil))) (pg_tup rfl (pgs_cons (pg_name (i := 3) scTold.nd rfl (.inl rfl)) (pgs_cons (pg_name (i := 4) scTold.nd rfl (.inl rfl)) pgs_nil))))
      (pss_cons (ps_try_hold (i := 5) (Wout := fun _ _ _ _ => False) rfl rfl scTold.nd rfl rfl rfl (by rfl) gB (by rfl) tM.gC (by rfl) tN.gC (by rfl) gU takes0
          (fun W pn xe tk _ => pss_one (ps_set (i := 3) scTold.nd rfl (.inl rfl) (by exact (pe_callS GL hr (by rfl) gL FL.kp bL (fun σ => passAt tk σ) (by exact (pa_cons (pv 0) (pa_cons (pv 1) (pa_cons (pv 2) pa_nil))))))))
          (fun a oe cls d pn hz hf => pss_one (ps_set (i := 4) scTold.nd rfl (.inl rfl) (pv 5))))
      (pss_cons (ps_if (pt_cmp (pc_isN (pv 4))) (pss_one (ps_ret (pv 3))) pss_nil)
      (pss_cons (ps_if (PW.pt (pw_and (pt_val (pe_callB (id := "isinstance") (r := rIsX K) call_isX (by rfl) mI (by decide +kernel) (pa_cons (pv 4) (pa_cons (pe_glob (v := .ref CN) (by rfl) tN.gC rfl) pa_nil)))) (pw_and (pt_val (pe_callB (id := "isinstance") (r := rIsX K) call_isX (by rfl) mI (by decide +kernel) (pa_cons (pv 4) (pa_cons (pe_bltn (v := .ty "LookupError") (by rfl) mL (by decide +kernel) rfl) pa_nil)))) (pw_and1 (pt_not (pt_val (pe_callB (id := "isinstance") (r := rIsXT K) call_isXT (by rfl) mI (by decide +kernel) (pa_cons (pv 4) (pa_cons (pe_tup (pa_cons (pe_glob (v := .ref CM) (by rfl) tM.gC rfl) (pa_cons (pe_glob (v := .ref CU) (by rfl) gU rfl) pa_nil))) pa_nil))))))))) (pss_one (ps_ret (pe_lst (pa_cons pe_str (pa_cons (pe_xfH (pv 4)) pa_nil))))) pss_nil)
      (pss_cons (ps_set (i := 6) scTold.nd rfl (.inl rfl) (pe_and (pe_callB (id := "isinstance") (r := rIsX K) call_isX (by rfl) mI (by decide +kernel) (pa_cons (pv 4) (pa_cons (pe_glob (v := .ref CM) (by rfl) tM.gC rfl) pa_nil))) (pe_and (pe_callB (id := "isinstance") (r := rIsX K) call_isX (by rfl) mI (by decide +kernel) (pa_cons (pv 4) (pa_cons (pe_bltn (v := .ty "RuntimeError") (by rfl) mR (by decide +kernel) rfl) pa_nil))) (pe_one (pe_not (pe_callB (id := "isinstance") (r := rIsXT K) call_isXT (by rfl) mI (by decide +kernel) (pa_cons (pv 4) (pa_cons (pe_tup (pa_cons (pe_glob (v := .ref CB) (by rfl) gB rfl) (pa_cons (pe_glob (v := .ref CN) (by rfl) tN.gC rfl) pa_nil))) pa_nil))))))))
      (pss_one (ps_ret (pe_ifExp (pt_val (pv 6)) (pe_lst (pa_cons pe_str (pa_cons (pe_xfH (pv 4)) pa_nil))) pe_non))))))), ?_⟩
    refine ⟨(by decide : (2 : Nat) ≤ sizeLine), fun T0 nT0 => ?_⟩
    have s0 : Same H (upd H T0 (.tup [.non, .non])) := same_upd nT0
    refine ⟨T0, _, rfl, .inl (.inl upd_same), rfl, _, _, rfl, _, _, rfl, rfl, ?_⟩
    generalize (upd H T0 (.tup [.non, .non])) = H0 at *
    refine ⟨.ref h, rfl, .ref r, rfl, v, rfl, h, r, v, d, zs, qs, rfl, hq.same s0, hP.same s0, Dp.up s0 hv, hsh, hznm, hl, hql, ?_⟩
    rcases cas with ⟨b, hd, hb, cas⟩ | ⟨nb, q⟩
    · refine .inl ⟨b, hd, hb, ?_⟩
      rcases cas with ⟨hlet, q⟩ | ⟨hlet, q⟩
      · refine .inl ⟨hlet, fun H1 t s1 nt ht => ?_⟩
        refine ⟨.non, rfl, _, rfl, ?_⟩
        exact ⟨.ref t, rfl, q _ t (s0.trans s1) ht⟩
      · refine .inr ⟨hlet, fun H1 dd s1 hdd => ⟨true, kin.xM, fun _ a na => ?_, fun z => nomatch z⟩⟩
        refine ⟨.ref a, rfl, ?_⟩
        have hA : (upd H1 a (ExH (.ref CM) (some dd) a)) a = some (ExH (.ref CM) (some dd) a) := upd_same
        have s2 : Same H1 (upd H1 a (ExH (.ref CM) (some dd) a)) := same_upd na
        have hD := s2 _ _ hdd
        refine ⟨.ref a, rfl, _, rfl, ?_⟩
        refine ⟨.ref a, rfl, a, CM, dd, _, .ref CN, .ref CN, false, rfl, hA, hD, tM.I, (fun u r => r), kin.mn, _, rfl, ?_⟩
        refine ⟨.ref a, rfl, a, CM, dd, _, .ref CM, .ref CM, true, rfl, hA, hD, tM.I, (fun u r => r), kin.mm, true, rfl, ?_⟩
        refine ⟨.ref a, rfl, a, CM, dd, _, .ty "RuntimeError", .type "RuntimeError", true, rfl, hA, hD, tM.I, (fun u r => r), kin.mr, true, rfl, ?_⟩
        refine ⟨.ref a, rfl, (by decide : (2 : Nat) ≤ sizeLine), fun tp ntp => ?_⟩
        have s3 : Same (upd H1 a (ExH (.ref CM) (some dd) a)) (upd (upd H1 a (ExH (.ref CM) (some dd) a)) tp (.tup [.ref CB, .ref CN])) := same_upd ntp
        have htp : (upd (upd H1 a (ExH (.ref CM) (some dd) a)) tp (.tup [.ref CB, .ref CN])) tp = some (.tup ([CB, CN].map V.ref)) := upd_same
        generalize (upd (upd H1 a (ExH (.ref CM) (some dd) a)) tp (.tup [.ref CB, .ref CN])) = H3 at *
        refine ⟨a, tp, CM, dd, _, [CB, CN], false, rfl, s3 _ _ hA, s3 _ _ hD, tM.I, htp, kin.mt, false, rfl, ?_⟩
        refine ⟨.bl true, rfl, true, rfl, ?_⟩
        refine ⟨.ref a, rfl, a, CM, dd, _, v, rfl, s3 _ _ hA, s3 _ _ hD, rfl, tM.I, tM.no, (by decide : (2 : Nat) ≤ sizeLine), fun l nl => ?_⟩
        exact q _ l ((((s0.trans s1).trans s2).trans s3).trans (same_upd nl)) upd_same
    · refine .inr ⟨nb, fun H1 dd s1 hdd => ⟨true, kin.xN, fun _ a na => ?_, fun z => nomatch z⟩⟩
      refine ⟨.ref a, rfl, ?_⟩
      have hA : (upd H1 a (ExH (.ref CN) (some dd) a)) a = some (ExH (.ref CN) (some dd) a) := upd_same
      have s2 : Same H1 (upd H1 a (ExH (.ref CN) (some dd) a)) := same_upd na
      have hD := s2 _ _ hdd
      refine ⟨.ref a, rfl, _, rfl, ?_⟩
      refine ⟨.ref a, rfl, a, CN, dd, _, .ref CN, .ref CN, true, rfl, hA, hD, tN.I, (fun u r => r), kin.nn, _, rfl, ?_⟩
      refine ⟨.ref a, rfl, a, CN, dd, _, .ty "LookupError", .type "LookupError", true, rfl, hA, hD, tN.I, (fun u r => r), kin.nl, _, rfl, ?_⟩
      refine ⟨.ref a, rfl, (by decide : (2 : Nat) ≤ sizeLine), fun tp ntp => ?_⟩
      have s3 : Same (upd H1 a (ExH (.ref CN) (some dd) a)) (upd (upd H1 a (ExH (.ref CN) (some dd) a)) tp (.tup [.ref CM, .ref CU])) := same_upd ntp
      have htp : (upd (upd H1 a (ExH (.ref CN) (some dd) a)) tp (.tup [.ref CM, .ref CU])) tp = some (.tup ([CM, CU].map V.ref)) := upd_same
      generalize (upd (upd H1 a (ExH (.ref CN) (some dd) a)) tp (.tup [.ref CM, .ref CU])) = H3 at *
      refine ⟨a, tp, CN, dd, _, [CM, CU], false, rfl, s3 _ _ hA, s3 _ _ hD, tN.I, htp, kin.nt, _, rfl, ?_⟩
      refine ⟨.ref a, rfl, a, CN, dd, _, v, rfl, s3 _ _ hA, s3 _ _ hD, rfl, tN.I, tN.no, (by decide : (2 : Nat) ≤ sizeLine), fun l nl => ?_⟩
      exact q _ l ((((s0.trans s1).trans s2).trans s3).trans (same_upd nl)) upd_same
end
end HF
namespace HF
open PySem PySem.Spec PyProof.Rows L2
abbrev sListed : Stmt := topS 18
theorem scListed : FnScope ["_law_matter", "_law_part"] ["_law_matter"] (defScope sListed) := ⟨rfl, rfl, rfl, by decide +kernel, rfl, by decide +kernel, by decide +kernel⟩
section
variable {P : Program} {w : World} {K : PySem.W.Frag} {mg : Str → Option Value} {base : Heap}
theorem listed_scal {f : Addr} {fd : FuncData} {k : Nat} (F : Fun K "_law_listed" "_law_listed" sListed f fd) (bS : Binds K fd ["_law_matter"] []) (gS : mg "_law_listed" = some (.ref f)) (mI : mg "isinstance" = none) (mL : mg "list" = none) (mT : mg "tuple" = none)
    {cdv : Value} {A : Around} {outer : List Env} {s : Shared} {H : Hp} {Q : VK} {E : XK} (hr : Room k (A.deeper (envOfC "_law_listed" (defScope sListed) s.heap.objs.size f cdv))) {x : V} {d : PyData} (hx : Dp K H x d) (h0 : d.depth = 0) (q : ∀ (H' : Hp) (y : V), Same H H' → Nw H H' y (lsD d) → Q y H') :
    ∃ t, PSs (cxOf CX0 P w K mg base ["_law_matter", "_law_part"] "_law_listed" (defScope sListed) f cdv A outer s H E).nox (defBody sListed) t ∧ t { nx := fun _ H' => Q .non H', rt := Q } (start ["_law_matter", "_law_part"] [x]) H := by
  cases hx with
  | non =>
    refine ⟨_, pss_one (ps_ret (pe_ifExp (pt_val (pe_callB call_isiT (by rfl) mI (by decide +kernel) (pa_cons (pv 0) (pa_cons (pe_tup (pa_cons (pe_bltn (v := .ty "list") (by rfl) mL (by decide +kernel) rfl) (pa_cons (pe_bltn (v := .ty "tuple") (by rfl) mT (by decide +kernel) rfl) pa_nil))) pa_nil)))) (pe_lc (own := [("_law_part", 1)]) (g := gName 1) (tt := tYes) rfl scListed.nd (pi_list (pv 0))
        (blkOk_by (N := ["_law_matter", "_law_part"]) (sc := defScope sListed) (by decide +kernel)) (fun _ _ _ _ _ => pg_name (i := 1) scListed.nd rfl (Or.inl rfl)) (fun _ _ _ _ _ => pts_nil)
        (fun _ _ _ _ _ => pe_call (fn_false (k := k)) hr (by rfl) gS F.kp bS .nil pass0 (pa_cons (pv 1) pa_nil))) (pv 0))), ?_⟩
    exact ⟨_, rfl, (by decide : (2 : Nat) ≤ sizeLine), fun T nT => ⟨_, T, _, _, _, _, rfl, upd_same, two_cls, .base .non, any2 (r1 := false) (r2 := false) (by decide +kernel) (by decide +kernel), _, rfl, iteF ⟨_, rfl, q _ _ (same_upd nT) .non⟩⟩⟩
  | bl b =>
    refine ⟨_, pss_one (ps_ret (pe_ifExp (pt_val (pe_callB call_isiT (by rfl) mI (by decide +kernel) (pa_cons (pv 0) (pa_cons (pe_tup (pa_cons (pe_bltn (v := .ty "list") (by rfl) mL (by decide +kernel) rfl) (pa_cons (pe_bltn (v := .ty "tuple") (by rfl) mT (by decide +kernel) rfl) pa_nil))) pa_nil)))) (pe_lc (own := [("_law_part", 1)]) (g := gName 1) (tt := tYes) rfl scListed.nd (pi_list (pv 0))
        (blkOk_by (N := ["_law_matter", "_law_part"]) (sc := defScope sListed) (by decide +kernel)) (fun _ _ _ _ _ => pg_name (i := 1) scListed.nd rfl (Or.inl rfl)) (fun _ _ _ _ _ => pts_nil)
        (fun _ _ _ _ _ => pe_call (fn_false (k := k)) hr (by rfl) gS F.kp bS .nil pass0 (pa_cons (pv 1) pa_nil))) (pv 0))), ?_⟩
    exact ⟨_, rfl, (by decide : (2 : Nat) ≤ sizeLine), fun T nT => ⟨_, T, _, _, _, _, rfl, upd_same, two_cls, .base (.bl _), any2 (r1 := false) (r2 := false) (by decide +kernel) (by decide +kernel), _, rfl, iteF ⟨_, rfl, q _ _ (same_upd nT) (.bl _)⟩⟩⟩
  | int i =>
    refine ⟨_, pss_one (ps_ret (pe_ifExp (pt_val (pe_callB call_isiT (by rfl) mI (by decide +kernel) (pa_cons (pv 0) (pa_cons (pe_tup (pa_cons (pe_bltn (v := .ty "list") (by rfl) mL (by decide +kernel) rfl) (pa_cons (pe_bltn (v := .ty "tuple") (by rfl) mT (by decide +kernel) rfl) pa_nil))) pa_nil)))) (pe_lc (own := [("_law_part", 1)]) (g := gName 1) (tt := tYes) rfl scListed.nd (pi_list (pv 0))
        (blkOk_by (N := ["_law_matter", "_law_part"]) (sc := defScope sListed) (by decide +kernel)) (fun _ _ _ _ _ => pg_name (i := 1) scListed.nd rfl (Or.inl rfl)) (fun _ _ _ _ _ => pts_nil)
        (fun _ _ _ _ _ => pe_call (fn_false (k := k)) hr (by rfl) gS F.kp bS .nil pass0 (pa_cons (pv 1) pa_nil))) (pv 0))), ?_⟩
    exact ⟨_, rfl, (by decide : (2 : Nat) ≤ sizeLine), fun T nT => ⟨_, T, _, _, _, _, rfl, upd_same, two_cls, .base (.int _), any2 (r1 := false) (r2 := false) (by decide +kernel) (by decide +kernel), _, rfl, iteF ⟨_, rfl, q _ _ (same_upd nT) (.int _)⟩⟩⟩
  | str z =>
    refine ⟨_, pss_one (ps_ret (pe_ifExp (pt_val (pe_callB call_isiT (by rfl) mI (by decide +kernel) (pa_cons (pv 0) (pa_cons (pe_tup (pa_cons (pe_bltn (v := .ty "list") (by rfl) mL (by decide +kernel) rfl) (pa_cons (pe_bltn (v := .ty "tuple") (by rfl) mT (by decide +kernel) rfl) pa_nil))) pa_nil)))) (pe_lc (own := [("_law_part", 1)]) (g := gName 1) (tt := tYes) rfl scListed.nd (pi_list (pv 0))
        (blkOk_by (N := ["_law_matter", "_law_part"]) (sc := defScope sListed) (by decide +kernel)) (fun _ _ _ _ _ => pg_name (i := 1) scListed.nd rfl (Or.inl rfl)) (fun _ _ _ _ _ => pts_nil)
        (fun _ _ _ _ _ => pe_call (fn_false (k := k)) hr (by rfl) gS F.kp bS .nil pass0 (pa_cons (pv 1) pa_nil))) (pv 0))), ?_⟩
    exact ⟨_, rfl, (by decide : (2 : Nat) ≤ sizeLine), fun T nT => ⟨_, T, _, _, _, _, rfl, upd_same, two_cls, .base (.str _), any2 (r1 := false) (r2 := false) (by decide +kernel) (by decide +kernel), _, rfl, iteF ⟨_, rfl, q _ _ (same_upd nT) (.str _)⟩⟩⟩
  | lst _ _ => cases h0
  | tup _ _ => cases h0
theorem depth_at {ds : List PyData} : ∀ {i : Nat} {d : PyData}, ds[i]? = some d → PyData.depth d ≤ PyData.depthAll ds := by
  induction ds with
  | nil => intro i d h; simp at h
  | cons x r ih =>
    intro i d h
    have e : PyData.depthAll (x :: r) = max (PyData.depth x) (PyData.depthAll r) := rfl
    cases i with
    | zero =>
      cases (show some x = some d from h)
      omega
    | succ i =>
      have := ih (show r[i]? = some d from h)
      omega
theorem listed_seq {f : Addr} {fd : FuncData} {k n : Nat} (F : Fun K "_law_listed" "_law_listed" sListed f fd) (bS : Binds K fd ["_law_matter"] []) (gS : mg "_law_listed" = some (.ref f)) (mI : mg "isinstance" = none) (mL : mg "list" = none) (mT : mg "tuple" = none) (IH : FnOk P w K mg base CX0 k f fd ["_law_matter"] (spListed K n))
    {cdv : Value} {A : Around} {outer : List Env} {s : Shared} {H : Hp} {Q : VK} {E : XK} (hr : Room k (A.deeper (envOfC "_law_listed" (defScope sListed) s.heap.objs.size f cdv))) {x : V} {d : PyData} (hx : Dp K H x d) (h0 : d.depth ≠ 0) (hn : d.depth ≤ n + 1) (hw : wide d ≤ 100000) (q : ∀ (H' : Hp) (y : V), Same H H' → Nw H H' y (lsD d) → Q y H') :
    ∃ t, PSs (cxOf CX0 P w K mg base ["_law_matter", "_law_part"] "_law_listed" (defScope sListed) f cdv A outer s H E).nox (defBody sListed) t ∧ t { nx := fun _ H' => Q .non H', rt := Q } (start ["_law_matter", "_law_part"] [x]) H := by
  cases hx with
  | non => exact absurd rfl h0
  | bl b => exact absurd rfl h0
  | int i => exact absurd rfl h0
  | str z => exact absurd rfl h0
  | @lst a xs ds hq hds =>
    have hn2 : PyData.depthAll ds + 1 ≤ n + 1 := hn
    have hw2 : max ds.length (wideAll ds) ≤ 100000 := hw
    have hxl : xs.length = ds.length := dpAll_len hds
    refine ⟨_, pss_one (ps_ret (pe_ifExp (pt_val (pe_callB call_isiT (by rfl) mI (by decide +kernel) (pa_cons (pv 0) (pa_cons (pe_tup (pa_cons (pe_bltn (v := .ty "list") (by rfl) mL (by decide +kernel) rfl) (pa_cons (pe_bltn (v := .ty "tuple") (by rfl) mT (by decide +kernel) rfl) pa_nil))) pa_nil)))) (pe_lc (own := [("_law_part", 1)]) (g := gName 1) (tt := tYes) rfl scListed.nd (pi_list (pv 0))
        (blkOk_by (N := ["_law_matter", "_law_part"]) (sc := defScope sListed) (by decide +kernel)) (fun _ _ _ _ _ => pg_name (i := 1) scListed.nd rfl (Or.inl rfl)) (fun _ _ _ _ _ => pts_nil)
        (fun _ _ _ _ _ => pe_call IH hr (by rfl) gS F.kp bS .nil pass0 (pa_cons (pv 1) pa_nil))) (pv 0))), ?_⟩
    refine ⟨_, rfl, (by decide : (2 : Nat) ≤ sizeLine), fun T nT => ⟨_, T, _, _, _, _, rfl, upd_same, two_cls, ty_list ((same_upd nT).seq hq), any2 (r1 := true) (r2 := false) (by decide +kernel) (by decide +kernel), _, rfl, iteT ?_⟩⟩
    have s1 : Same H (upd H T (.tup [V.ty "list", V.ty "tuple"])) := same_upd nT
    generalize (upd H T (.tup [V.ty "list", V.ty "tuple"])) = H1 at *
    refine ⟨.ref a, rfl, a, rfl, ⟨_, (s1).seq hq⟩, fun D nD => lc_list (xs := xs) (fun i H4 => ∃ acc : List V, acc.length = i ∧ H4 D = some (.lst acc) ∧ Same H1 H4 ∧ NwAll (upd H1 D (.lst [])) H4 acc (lsAll (ds.take i))) ?_ ?_ ?_ ?_⟩
    · exact ⟨[], rfl, upd_same, same_upd nD, .nil⟩
    · rintro i H4 hi ⟨acc, hl, hD, s4, hnw⟩
      exact (s1.trans s4).seq hq
    · rintro i v H4 hv ⟨acc, hl, hD, s4, hnw⟩
      have hil : i < xs.length := (List.getElem?_eq_some_iff.mp hv).1
      obtain ⟨d1, hd1, hdp⟩ := dpAll_at hds hv
      have hdep : PyData.depth d1 ≤ PyData.depthAll ds := depth_at hd1
      have hwid := wide_at hd1
      refine ⟨rfl, v, rfl, v, d1, rfl, Dp.up (s1.trans s4) hdp, by omega, by omega, fun H6 y s6 hy => ?_⟩
      have hD6 := s6 _ _ hD
      refine ⟨acc, hD6, ?_, acc ++ [y], by rw [List.length_append, hl]; rfl, upd_same, ?_, ?_⟩
      · rw [hl, sizeLine_eq]
        omega
      · intro b o eb
        rw [upd_ne (ne_of_none eb nD)]
        exact s6 _ _ (s4 _ _ eb)
      · rw [List.take_add_one, hd1, show ds.take i ++ (some d1).toList = ds.take i ++ [d1] from rfl, lsAll_snoc]
        have notD : ∀ b, (upd H1 D (.lst [])) b = none → b ≠ D := fun b hb z => by
          rw [z, upd_same] at hb
          cases hb
        refine NwAll.snoc (hnw.go (fun _ z => z) fun b o hb eb => ?_) (hy.go (fun b hb => ?_) fun b o hb eb => ?_)
        · rw [upd_ne (notD b hb)]
          exact s6 _ _ eb
        · by_cases z : b = D
          · rw [z, hD] at hb
            cases hb
          · rw [upd_ne z]
            exact s4.free hb
        · rw [upd_ne (fun z => by rw [z, hD] at hb; cases hb)]
          exact eb
    · rintro H4 ⟨acc, hl, hD, s4, hnw⟩
      rw [hxl, List.take_length] at hnw
      refine q H4 (.ref D) (s1.trans s4) (.lst (s1.free nD) hD (hnw.go (fun b hb => ?_) fun _ _ _ e => e))
      have nb : b ≠ D := fun z => by
        rw [z, upd_same] at hb
        cases hb
      rw [upd_ne nb] at hb
      exact s1.free hb
  | @tup a xs ds hq hds =>
    have hn2 : PyData.depthAll ds + 1 ≤ n + 1 := hn
    have hw2 : max ds.length (wideAll ds) ≤ 100000 := hw
    have hxl : xs.length = ds.length := dpAll_len hds
    refine ⟨_, pss_one (ps_ret (pe_ifExp (pt_val (pe_callB call_isiT (by rfl) mI (by decide +kernel) (pa_cons (pv 0) (pa_cons (pe_tup (pa_cons (pe_bltn (v := .ty "list") (by rfl) mL (by decide +kernel) rfl) (pa_cons (pe_bltn (v := .ty "tuple") (by rfl) mT (by decide +kernel) rfl) pa_nil))) pa_nil)))) (pe_lc (own := [("_law_part", 1)]) (g := gName 1) (tt := tYes) rfl scListed.nd (pi_tup (pv 0))
        (blkOk_by (N := ["_law_matter", "_law_part"]) (sc := defScope sListed) (by decide +kernel)) (fun _ _ _ _ _ => pg_name (i := 1) scListed.nd rfl (Or.inl rfl)) (fun _ _ _ _ _ => pts_nil)
        (fun _ _ _ _ _ => pe_call IH hr (by rfl) gS F.kp bS .nil pass0 (pa_cons (pv 1) pa_nil))) (pv 0))), ?_⟩
    refine ⟨_, rfl, (by decide : (2 : Nat) ≤ sizeLine), fun T nT => ⟨_, T, _, _, _, _, rfl, upd_same, two_cls, ty_tup (sameT (same_upd nT) hq), any2 (r1 := false) (r2 := true) (by decide +kernel) (by decide +kernel), _, rfl, iteT ?_⟩⟩
    have s1 : Same H (upd H T (.tup [V.ty "list", V.ty "tuple"])) := same_upd nT
    generalize (upd H T (.tup [V.ty "list", V.ty "tuple"])) = H1 at *
    refine ⟨.ref a, rfl, a, rfl, ⟨_, sameT (s1) hq⟩, fun D nD => lc_tup (xs := xs) (fun i H4 => ∃ acc : List V, acc.length = i ∧ H4 D = some (.lst acc) ∧ Same H1 H4 ∧ NwAll (upd H1 D (.lst [])) H4 acc (lsAll (ds.take i))) ?_ ?_ ?_ ?_⟩
    · exact ⟨[], rfl, upd_same, same_upd nD, .nil⟩
    · rintro i H4 hi ⟨acc, hl, hD, s4, hnw⟩
      exact sameT (s1.trans s4) hq
    · rintro i v H4 hv ⟨acc, hl, hD, s4, hnw⟩
      have hil : i < xs.length := (List.getElem?_eq_some_iff.mp hv).1
      obtain ⟨d1, hd1, hdp⟩ := dpAll_at hds hv
      have hdep : PyData.depth d1 ≤ PyData.depthAll ds := depth_at hd1
      have hwid := wide_at hd1
      refine ⟨rfl, v, rfl, v, d1, rfl, Dp.up (s1.trans s4) hdp, by omega, by omega, fun H6 y s6 hy => ?_⟩
      have hD6 := s6 _ _ hD
      refine ⟨acc, hD6, ?_, acc ++ [y], by rw [List.length_append, hl]; rfl, upd_same, ?_, ?_⟩
      · rw [hl, sizeLine_eq]
        omega
      · intro b o eb
        rw [upd_ne (ne_of_none eb nD)]
        exact s6 _ _ (s4 _ _ eb)
      · rw [List.take_add_one, hd1, show ds.take i ++ (some d1).toList = ds.take i ++ [d1] from rfl, lsAll_snoc]
        have notD : ∀ b, (upd H1 D (.lst [])) b = none → b ≠ D := fun b hb z => by
          rw [z, upd_same] at hb
          cases hb
        refine NwAll.snoc (hnw.go (fun _ z => z) fun b o hb eb => ?_) (hy.go (fun b hb => ?_) fun b o hb eb => ?_)
        · rw [upd_ne (notD b hb)]
          exact s6 _ _ eb
        · by_cases z : b = D
          · rw [z, hD] at hb
            cases hb
          · rw [upd_ne z]
            exact s4.free hb
        · rw [upd_ne (fun z => by rw [z, hD] at hb; cases hb)]
          exact eb
    · rintro H4 ⟨acc, hl, hD, s4, hnw⟩
      rw [hxl, List.take_length] at hnw
      refine q H4 (.ref D) (s1.trans s4) (.lst (s1.free nD) hD (hnw.go (fun b hb => ?_) fun _ _ _ e => e))
      have nb : b ≠ D := fun z => by
        rw [z, upd_same] at hb
        cases hb
      rw [upd_ne nb] at hb
      exact s1.free hb
theorem ok_listed {f : Addr} {fd : FuncData} (F : Fun K "_law_listed" "_law_listed" sListed f fd) (bS : Binds K fd ["_law_matter"] []) (gS : mg "_law_listed" = some (.ref f)) (mI : mg "isinstance" = none) (mL : mg "list" = none) (mT : mg "tuple" = none) : ∀ n : Nat, FnOk P w K mg base CX0 (n + 1) f fd ["_law_matter"] (spListed K n)
  | 0 => by
    refine F.ok scListed (fun vs H Q E h => ?_) (fun cdv A outer s H vs Q E hr h => ?_)
    · obtain ⟨x, d, rfl, _⟩ := h
      rfl
    · obtain ⟨x, d, rfl, hx, h0, _, q⟩ := h
      exact listed_scal F bS gS mI mL mT hr hx (by omega) q
  | n + 1 => by
    have IH := ok_listed F bS gS mI mL mT n
    refine F.ok scListed (fun vs H Q E h => ?_) (fun cdv A outer s H vs Q E hr h => ?_)
    · obtain ⟨x, d, rfl, _⟩ := h
      rfl
    · obtain ⟨x, d, rfl, hx, h0, hw, q⟩ := h
      by_cases hz : d.depth = 0
      · exact listed_scal F bS gS mI mL mT hr hx hz q
      · exact listed_seq F bS gS mI mL mT IH hr hx hz h0 hw q
end
end HF
namespace HF
open PySem PySem.Spec PyProof.Rows L2
abbrev sStrange : Stmt := topS 23
abbrev nStrange : List Str := ["_law_stack", "_law_sign"]
theorem scStrange : FnScope nStrange ["_law_stack"] (defScope sStrange) := ⟨rfl, rfl, rfl, by decide +kernel, rfl, by decide +kernel, by decide +kernel⟩
section
variable {P : Program} {w : World} {K : PySem.W.Frag} {mg : Str → Option Value} {base : Heap}
theorem abc_get {i c : Nat} (h : abc.cps[i]? = some c) : i < 26 ∧ c = 97 + i := by
  have e : abc.cps.toList[i]? = some c := by
    rw [Array.getElem?_toList]
    exact h
  rw [abc_tl, List.getElem?_map] at e
  obtain ⟨j, hj, rfl⟩ := Option.map_eq_some_iff.mp e
  have hi : i < (List.range 26).length := (List.getElem?_eq_some_iff.mp hj).1
  rw [List.getElem?_range (by simpa using hi)] at hj
  cases hj
  exact ⟨by simpa using hi, rfl⟩
def one (c : Nat) : Str := ⟨#[c]⟩
def lett : List Str := (List.range 26).map fun i => one (97 + i)
theorem one_inj {a b : Nat} (h : one a = one b) : a = b := by
  unfold one at h
  simpa using h
theorem one_nm {i : Nat} (h : i < 26) : Nm (one (97 + i)) := by
  refine ⟨by show 1 ≤ 1; decide, by show 1 ≤ 6; decide, fun c hc => ?_⟩
  have e : c = 97 + i := by
    have : c ∈ [97 + i] := hc
    simpa using this
  omega
theorem lett_free {zs : List Str} (h : zs.length ≤ 12) : ∃ ys x, lett.filter (fun y => decide (y ∉ zs)) = ys ++ [x] ∧ x ∉ zs ∧ Nm x := by
  have hne : lett.filter (fun y => decide (y ∉ zs)) ≠ [] := fun e => by
    have hall : ∀ y ∈ lett, y ∈ zs := fun y hy => Classical.byContradiction fun n => by
      have : y ∈ lett.filter (fun y => decide (y ∉ zs)) := List.mem_filter.mpr ⟨hy, decide_eq_true n⟩
      rw [e] at this
      exact nomatch this
    have nd : lett.Nodup := by
      unfold lett
      refine List.pairwise_map.mpr (List.nodup_range.imp fun hne e2 => hne ?_)
      have := one_inj e2
      omega
    have := nodup_le lett zs nd hall
    have e26 : lett.length = 26 := by
      unfold lett
      rw [List.length_map, List.length_range]
    omega
  obtain ⟨hm, hn⟩ := List.mem_filter.mp (List.getLast_mem hne)
  refine ⟨(lett.filter (fun y => decide (y ∉ zs))).dropLast, (lett.filter (fun y => decide (y ∉ zs))).getLast hne, (List.dropLast_concat_getLast hne).symm, of_decide_eq_true hn, ?_⟩
  unfold lett at hm
  obtain ⟨i, hi, e⟩ := List.mem_map.mp hm
  unfold lett
  rw [← e]
  exact one_nm (List.mem_range.mp hi)
theorem ok_Strange {f : Addr} {fd : FuncData} {k : Nat} (F : Fun K "_law_strange" "_law_strange" sStrange f fd) : FnOk P w K mg base CX0 (k + 1) f fd ["_law_stack"] spStrange := by
  refine F.ok scStrange (fun vs H Q E h => ?_) (fun cdv A outer s H vs Q E hr h => ?_)
  · obtain ⟨h, zs, rfl, _⟩ := h
    rfl
  · obtain ⟨h, zs, rfl, hq, hl, q⟩ := h
    refine ⟨_, pss_one (ps_ret (pe_ix (r := rIxL K) ix_list (pe_lc (own := [("_law_sign", 1)]) (g := gName 1) rfl scStrange.nd (pi_str pe_str)
        (blkOk_by (N := nStrange) (sc := defScope sStrange) (by decide +kernel)) (fun _ _ _ _ _ => pg_name (i := 1) scStrange.nd rfl (.inl rfl)) (fun _ _ _ _ _ => pts_one (pt_cmpR (r := rIn K true) op_notIn_seq (pv 1) (pv 0) rfl)) (fun _ _ _ _ _ => pv 1)) (pe_un un_neg pe_int) (fun _ _ => rfl))), ?_⟩
    refine ⟨abc, rfl, fun D nD => lc_it (walk_str (z := abc)) (fun i H4 => H4 D = some (.lst (((lett.take i).filter fun y => decide (y ∉ zs)).map V.str)) ∧ Same H H4) ⟨upd_same, same_upd nD⟩ (fun _ _ _ _ => trivial) ?_ ?_⟩
    · rintro i v H4 H5 hi ⟨hD, s4⟩ ⟨rfl, c, hc, rfl⟩
      obtain ⟨hi26, rfl⟩ := abc_get hc
      have hli : lett[i]? = some (one (97 + i)) := by
        unfold lett
        rw [List.getElem?_map, List.getElem?_range hi26]
        rfl
      have hstep : (lett.take (i + 1)).filter (fun y => decide (y ∉ zs)) = (lett.take i).filter (fun y => decide (y ∉ zs)) ++ (if one (97 + i) ∈ zs then [] else [one (97 + i)]) := by
        rw [List.take_add_one, hli, List.filter_append]
        congr 1
        by_cases e : one (97 + i) ∈ zs
        · simp [e]
        · simp [e]
      have hfew : ((lett.take i).filter (fun y => decide (y ∉ zs))).length ≤ 26 := by
        have h1 := List.length_filter_le (fun y => decide (y ∉ zs)) (lett.take i)
        rw [List.length_take] at h1
        omega
      refine ⟨rfl, .str (one (97 + i)), rfl, .ref h, rfl, h, _, rfl, .inr (hq.same s4).sq, rfl, strs_flat _, _, rfl, ?_⟩
      have e : (if true = true then !inV (.str (one (97 + i))) (zs.map V.str) else inV (.str (one (97 + i))) (zs.map V.str)) = decide (one (97 + i) ∉ zs) := by
        rw [if_pos rfl, inV_strs]
        simp
      rw [e]
      refine ite2 (fun e2 => ?_) (fun e2 => ?_)
      · have hn := of_decide_eq_true e2
        refine ⟨.str (one (97 + i)), rfl, _, hD, by rw [List.length_map, sizeLine_eq]; omega, ?_, ?_⟩
        · rw [upd_same, hstep, if_neg hn, List.map_append]
          rfl
        · intro z o ez
          rw [upd_ne (ne_of_none ez nD)]
          exact s4 _ _ ez
      · have hy : one (97 + i) ∈ zs := Classical.byContradiction fun z => e2 (decide_eq_true z)
        refine ⟨?_, s4⟩
        rw [hD, hstep, if_pos hy, List.append_nil]
    · rintro H4 ⟨hD, s4⟩
      have hall : lett.take abc.cps.size = lett := by
        rw [show abc.cps.size = 26 from by decide +kernel]
        exact List.take_of_length_le (by unfold lett; rw [List.length_map, List.length_range]; exact Nat.le_refl _)
      rw [hall] at hD
      obtain ⟨ys, x, e, hx, hnm⟩ := lett_free hl
      rw [e, List.map_append] at hD
      exact ⟨_, rfl, D, _, (-1), .str x, rfl, rfl, .inl (.inl hD), atI_last _ _, q _ x s4 hx hnm⟩
end
end HF
/-! {(a, b): v for ..}: dicts by tuples of texts -/
namespace HF
open PySem PySem.Spec PyProof.Rows L2
section
variable {X : Cx}
/-- a comprehension's own storing, the key a tuple -/
theorem d_dictSetT {pins : List (Addr × Obj)} {σ : L2.St} {H : Hp} {st : Shared} {E : Value → Shared → Prop} {D b : Addr} {es : List (List Key × V)} {k : List Key} {v : V} {r : Value} {Q : Unit → Shared → Prop} (hu : X.A.units + 1 < cLine) (I : Inv X pins σ H st)
    (hD : H D = some (.dT es)) (few : es.length < sizeLine) (hb : H b = some (.tup (k.map kV))) (rv : RelV v r) (q : ∀ s', Inv X pins σ (upd H D (.dT (putK es k v))) s' → Q () s') : wpAny (model X.prog X.w) X.A (dictSet D (.ref b) r) Q E st := by
  obtain ⟨z, low, xs, rel, dd⟩ := dt_of I.hok hD
  have hz : xs.length ≤ sizeLine := by
    rw [← Paired.length rel]
    exact z
  have hl : (putK es k v).length ≤ sizeLine := Nat.le_trans (length_putK es k v) few
  refine wpAny_dictSet_heap (hsz := hz) (show X.A.units < cLine by omega) (key_of I.hok hb) dd fun h' dd' same => q _ ?_
  obtain ⟨o, e1, e2, g1, g2, g3, g4, g5, g6⟩ := dd'
  have old : ∀ c ys, H c = some (.tup ys) → upd H D (.dT (putK es k v)) c = some (.tup ys) := fun c ys ec => by
    rw [upd_ne (ne_of ec hD (fun z => nomatch z))]
    exact ec
  exact d_write I (by rw [hD]; exact True.intro) same ⟨o, g1⟩ ⟨hl, low, _, (rel.put k hb rv).keeps old, o, e1, e2, g1, g2, g3, g4, g6⟩
/-- the reading: D the new dict, keys tuples of texts and ints -/
def tDcT (wi : TI) (g : TG) (tt : TT) (tk tv : TE) (is : List Nat) : TE := fun σ H Q => wi σ H fun J G => ∀ D, G D = none → ∃ W : Nat → Nat → Hp → Prop, (∃ m, W 0 m (upd G D (.dT []))) ∧ ∀ i m H, W i m H →
  (J.stop i H ∧ Q (.ref D) H) ∨ (J.go i H ∧ ∃ Nx : Hp → Prop, (∀ H', Nx H' → ∃ m', m' < m ∧ W (i + 1) m' H') ∧ ∀ x H', J.yld i H x H' → g x (wipe σ is) H' fun τ H2 => wipe τ is = wipe σ is ∧ tt τ H2 fun yes H3 =>
    if yes = true then tk τ H3 fun y H4 => tv τ H4 fun z H5 => ∃ es k b, y = .ref b ∧ H5 b = some (.tup (k.map kV)) ∧ H5 D = some (.dT es) ∧ es.length < sizeLine ∧ Nx (upd H5 D (.dT (putK es k z))) else Nx H3)
theorem dcT_core {pins : List (Addr × Obj)} {st : Shared} {σ : L2.St} {H : Hp} {Q : VK} {kx vx tg over : Expr} {cs : List Expr} {sc2 : Scope} {own : List (Str × Nat)} {pos pos2 : Pos} {wi : TI} {g : TG} {tt : TT} {tk tv : TE} {use : Option (Value → Sem Unit)} {Qf : Value → Shared → Prop}
    (hu : X.A.units + 1 < cLine) (calm : X.calm = true) (nd : X.N.Nodup) (I : Inv X pins σ H st) (hi : PI X tg over wi) (ok : BlkOk X.N X.env.scope sc2 own)
    (pg : ∀ (s : Shared) (H : Hp) (C : Addr) (cl : List (Str × Addr)) (fp : List Addr), PG (X.blk s H sc2 (compEnvC sc2 cl C X.env) fp) tg g) (pt : ∀ (s : Shared) (H : Hp) (C : Addr) (cl : List (Str × Addr)) (fp : List Addr), PTs (X.blk s H sc2 (compEnvC sc2 cl C X.env) fp) cs tt)
    (pk : ∀ (s : Shared) (H : Hp) (C : Addr) (cl : List (Str × Addr)) (fp : List Addr), PE (X.blk s H sc2 (compEnvC sc2 cl C X.env) fp) kx tk)
    (pw : ∀ (s : Shared) (H : Hp) (C : Addr) (cl : List (Str × Addr)) (fp : List Addr), PE (X.blk s H sc2 (compEnvC sc2 cl C X.env) fp) vx tv) (fold : ∀ x, foldedSetIterable over X.env x = pure x)
    (hyp : tDcT wi g tt tk tv (own.map (·.2)) σ H Q)
    (back : ∀ D C s' m H', Inv X pins σ H' s' → Q (.ref D) H' → s'.heap.Ns C m → FpOk X pins H' C → compPost (model X.prog X.w) X.A X.xe use Qf (.ref D) C (.ok .next) s') :
    wpAny (model X.prog X.w) X.A (comprehension (.DictComp kx vx [⟨tg, over, cs, 0⟩] sc2 pos) sc2 X.env pos2 newDict false (eval over X.env) use) Qf X.xe st := by
  have cells : ∀ y ∈ sc2.names, y.2 = .free → ∃ c, X.env.cells.lookup y.1 = some c := fun y hy e => (ok.free y hy e).elim (fun z => I.ok.has _ (.inl z)) fun z => I.ok.has _ (.inr z)
  refine wpAny_comprehension_free (use := use) rfl fold (closure_ok cells) ok.kind (fun y hy e => by rw [ok.uniq y hy, e]) (thn (hi.run pins st σ H _ I hyp) ?_)
  intro xv sA hA
  refine thn hA ?_
  rintro itv sB ⟨it, fp, tn, J, HB, rfl, IB, TW, stB, fpB, qB⟩
  refine wpAny_newObj_type (newEnv_comp ?_)
  obtain ⟨D, eD⟩ : ∃ D, D = sB.heap.objs.size := ⟨_, rfl⟩
  have freeD : HB D = none := IB.hok.fresh (Nat.le_of_eq eD.symm)
  obtain ⟨W, ⟨m0, wStart⟩, turns⟩ := qB D freeD
  obtain ⟨sC, eC⟩ : ∃ sC : Shared, sC = { sB with heap := sB.heap.push { cls := .type "dict", data := .dict #[] } } := ⟨_, rfl⟩
  have hC : sC.heap = sB.heap.push { cls := .type "dict", data := .dict #[] } := by rw [eC]
  have IC : Inv X pins σ (upd HB D (.dT [])) sC := by
    rw [eC, eD]
    exact IB.laid (t' := sB.toks) (fun b o e => Heap.get?_push_of_some _ e) (Nat.le_refl _) (dt_empty sB.heap IB.big)
  have below : ∀ b ∈ fp, b < sB.heap.objs.size := fun b hb => (TW.obj _ _ stB b hb).elim fun o z => Heap.lt_size z.1
  have fpC : ∀ b ∈ fp, FpOk X pins (upd HB D (.dT [])) b ∧ b < sC.heap.objs.size := fun b hb => by
    refine ⟨⟨?_, (fpB b hb).2⟩, ?_⟩
    · rw [upd_ne (by rw [eD]; exact Nat.ne_of_lt (below b hb))]
      exact (fpB b hb).1
    · rw [hC, Heap.size_push]
      exact Nat.lt_succ_of_lt (below b hb)
  have stC : tn 0 sC.heap := TW.keep _ _ _ stB fun b _ o e => by
    rw [hC]
    exact Heap.get?_push_of_some _ e
  have IS := block_start IC ok nd fpC
  have pg1 := pg sC (upd HB D (.dT [])) sC.heap.objs.size (cellsFrom (sC.heap.objs.size + 1) sc2.names (cloFrom X.env.cells sc2.names [])) fp
  have pt1 := pt sC (upd HB D (.dT [])) sC.heap.objs.size (cellsFrom (sC.heap.objs.size + 1) sc2.names (cloFrom X.env.cells sc2.names [])) fp
  have pk1 := pk sC (upd HB D (.dT [])) sC.heap.objs.size (cellsFrom (sC.heap.objs.size + 1) sc2.names (cloFrom X.env.cells sc2.names [])) fp
  have pw1 := pw sC (upd HB D (.dT [])) sC.heap.objs.size (cellsFrom (sC.heap.objs.size + 1) sc2.names (cloFrom X.env.cells sc2.names [])) fp
  rw [← eC, ← eD]
  show codeAny _ _ (.compStart (.DictComp kx vx [⟨tg, over, cs, 0⟩] sc2 pos) 0 (.ref it) (.ref D) (compEnvC sc2 (cellsFrom (sC.heap.objs.size + 1) sc2.names (cloFrom X.env.cells sc2.names [])) sC.heap.objs.size X.env)) (compPost (model X.prog X.w) X.A X.xe use Qf (.ref D) sC.heap.objs.size) { sC with heap := pushCells (sC.heap.push { cls := .type "dict", data := .dict #[] }) sc2.names }
  have bare : ∀ b ∈ fp, (upd HB D (.dT [])) b = none := fun b hb => (fpC b hb).1.1
  generalize hce : compEnvC sc2 (cellsFrom (sC.heap.objs.size + 1) sc2.names (cloFrom X.env.cells sc2.names [])) sC.heap.objs.size X.env = ce at IS pg1 pt1 pk1 pw1 ⊢
  have locC : ce.locals = sC.heap.objs.size := by
    rw [← hce]
    rfl
  generalize upd HB D (.dT []) = HC at IC IS pg1 pt1 pk1 pw1 wStart bare fpC
  generalize hsS : ({ sC with heap := pushCells (sC.heap.push { cls := .type "dict", data := .dict #[] }) sc2.names } : Shared) = sS at IS ⊢
  have stS : tn 0 sS.heap := TW.keep _ _ _ stC fun b _ o e => by
    rw [← hsS]
    exact pushCells_keeps _ _ _ _ (Heap.get?_push_of_some _ e)
  have fine : ∀ {τ : L2.St} {G : Hp} {u : Shared}, Inv (X.blk sC HC sc2 ce fp) [] τ G u → (∀ b ∈ fp, G b = none) → ∀ b ∈ fp, FpOk (X.blk sC HC sc2 ce fp) [] G b := by
    intro τ G u J' hn b hb
    refine ⟨hn b hb, (J'.ok.exf b hb).1, J'.ok.exfs b hb, .inl hb, fun x c e => (J'.ok.exf b hb).2 x c e, fun p hp => ?_⟩
    exact absurd (show p ∈ ([] : List (Addr × Obj)) ++ [] from hp) (by simp)
  have loop : codeAny (model X.prog X.w) X.A (.compLoop (.DictComp kx vx [⟨tg, over, cs, 0⟩] sc2 pos) 0 (.ref it) (.ref D) ce) (compPost (model X.prog X.w) X.A X.xe use Qf (.ref D) sC.heap.objs.size) sS := by
    refine compLoop_anyD (fun n u => ∃ i G, Inv (X.blk sC HC sc2 ce fp) [] (wipe σ (own.map (·.2))) G u ∧ tn i u.heap ∧ (∀ b ∈ fp, G b = none) ∧ W i n G) ?_ m0 ⟨0, HC, IS, stS, bare, wStart⟩
    rintro n u5 ⟨i, G5, J5, tn5, bare5, w5⟩
    rcases turns i n G5 w5 with ⟨stop, fin⟩ | ⟨go, Nx, less, step⟩
    · refine thnF (TW.done (X.blk sC HC sc2 ce fp) rfl rfl rfl calm i [] u5 _ G5 (fun _ _ => False) J5 (fine J5 bare5) tn5 stop) ?_
      rintro r u6 ⟨rfl, J6⟩
      have J7 : Inv X pins σ G5 u6 := IC.call' (ch := fp) J6.os J6.base J6.hok J6.bare fun b hb => ⟨(fpC b hb).1.2.2.2.1, (fpC b hb).1.2.1, (fpC b hb).1.2.2.2.2.1, (fpC b hb).1.2.2.2.2.2⟩
      have bareC : G5 sC.heap.objs.size = none := by
        have z : G5 ce.locals = none := J6.free
        rwa [locC] at z
      obtain ⟨m, ns, _⟩ := J6.loc
      have ns2 : u6.heap.Ns ce.locals m := ns
      rw [locC] at ns2
      exact back D sC.heap.objs.size u6 m G5 J7 fin ns2 (IC.fpOk (Nat.le_refl _) bareC)
    · refine thnF (TW.item (X.blk sC HC sc2 ce fp) rfl rfl rfl calm i [] u5 _ G5 (fun _ _ => False) J5 (fine J5 bare5) tn5 go) ?_
      rintro r u6 ⟨v, rfl, h6⟩
      refine thnF h6 ?_
      rintro _ u7 ⟨x, G7, J7, rel7, yl7, tn7, bare7⟩
      refine thnF (pg1.run _ u7 _ G7 x v _ (J7.pinned (fine J7 bare7) (TW.obj _ _ tn7)) rel7 (step x G7 yl7)) ?_
      rintro _ u8 ⟨σ8, G8, J8, wp8, q8⟩
      refine thnF (pt1.run _ u8 σ8 G8 _ J8 q8) ?_
      rintro yes u9 ⟨G9, J9, q9⟩
      have ends : ∀ {u : Shared} {G : Hp}, Inv (X.blk sC HC sc2 ce fp) ([] ++ pinsAt fp u7.heap) σ8 G u → Nx G → ∃ m, m < n ∧ ∃ i G, Inv (X.blk sC HC sc2 ce fp) [] (wipe σ (own.map (·.2))) G u ∧ tn i u.heap ∧ (∀ b ∈ fp, G b = none) ∧ W i m G := by
        intro u G J' nx
        obtain ⟨m2, lt2, w2⟩ := less G nx
        have still : ∀ b ∈ fp, ∀ o, u7.heap.get? b = some o → u.heap.get? b = some o ∧ G b = none := fun b hb o e => by
          have z := J'.pin (b, o) (List.mem_append_right _ (List.mem_append_right _ (mem_pinsAt hb e)))
          exact ⟨z.1, z.2.1⟩
        have len8 : (wipe σ (own.map (·.2))).length = σ8.length := by rw [← wp8, wipe_length]
        refine ⟨m2, lt2, i + 1, G, (J'.unpinned (pins := [])).weak len8 (fun j v e => ?_), TW.keep _ _ _ tn7 fun b hb o e => (still b hb o e).1, fun b hb => ?_, w2⟩
        · rw [← wp8] at e
          exact (wipe_some e).1
        · obtain ⟨o, e, _⟩ := TW.obj _ _ tn7 b hb
          exact (still b hb o e).2
      cases yes with
      | false =>
        simp only [Bool.false_eq_true, if_false] at q9 ⊢
        exact ends J9 q9
      | true =>
        simp only [if_true] at q9 ⊢
        refine thnF (pk1.run _ u9 σ8 G9 _ J9 q9) ?_
        rintro kv u10 ⟨yk, G10, J10, rel10, q10⟩
        refine thnF (pw1.run _ u10 σ8 G10 _ J10 q10) ?_
        rintro vv u11 ⟨yv, G11, J11, rel11, es, k, b, rfl, hb, hD, few, nx⟩
        cases (show kv = Value.ref b from rel10)
        exact d_dictSetT (X := X.blk sC HC sc2 ce fp) hu J11 hD few hb rel11 fun u12 J12 => ends J12 nx
  exact codeAny_compStart_dict loop (TW.self X.A 0 _ _ _ stS loop)
theorem ps_setDcT {i : Nat} {y : Str} {py : Pos} {kx vx tg over : Expr} {cs : List Expr} {sc2 : Scope} {own : List (Str × Nat)} {pos sp2 : Pos} {wi : TI} {g : TG} {tt : TT} {tk tv : TE} (hu : X.A.units + 1 < cLine) (calm : X.calm = true) (nd : X.N.Nodup) (hy : X.N[i]? = some y) (loc : X.env.scope.names.lookup y = some .local)
    (sw : swapsWith (.DictComp kx vx [⟨tg, over, cs, 0⟩] sc2 pos) (some (.Name y py)) sp2.line X.env = pure true) (hi : PI X tg over wi) (ok : BlkOk X.N X.env.scope sc2 own)
    (pg : ∀ (s : Shared) (H : Hp) (C : Addr) (cl : List (Str × Addr)) (fp : List Addr), PG (X.blk s H sc2 (compEnvC sc2 cl C X.env) fp) tg g) (pt : ∀ (s : Shared) (H : Hp) (C : Addr) (cl : List (Str × Addr)) (fp : List Addr), PTs (X.blk s H sc2 (compEnvC sc2 cl C X.env) fp) cs tt)
    (pk : ∀ (s : Shared) (H : Hp) (C : Addr) (cl : List (Str × Addr)) (fp : List Addr), PE (X.blk s H sc2 (compEnvC sc2 cl C X.env) fp) kx tk)
    (pw : ∀ (s : Shared) (H : Hp) (C : Addr) (cl : List (Str × Addr)) (fp : List Addr), PE (X.blk s H sc2 (compEnvC sc2 cl C X.env) fp) vx tv) (fold : ∀ x, foldedSetIterable over X.env x = pure x := by intro _; rfl) :
    PS X (.Assign [.Name y py] (.DictComp kx vx [⟨tg, over, cs, 0⟩] sc2 pos) sp2) (tAsg (tDcT wi g tt tk tv (own.map (·.2))) (gName i)) := by
  refine ⟨fun pins st σ H D I hyp => ?_⟩
  rw [exec_Assign_Name_used _ _ _ _ sw]
  refine wpAny_bind (wpAny_standAt (wpAny_bind ?_))
  show wpAny _ X.A (do let _ ← comprehension (.DictComp kx vx [⟨tg, over, cs, 0⟩] sc2 pos) sc2 X.env (firstIterPos [⟨tg, over, cs, 0⟩] pos) newDict false (eval over X.env) (some (assign (.Name y py) X.env))) _ _ st
  have hyp2 : tDcT wi g tt tk tv (own.map (·.2)) σ H (fun x H1 => gName i x σ H1 D.nx) := hyp
  refine wpAny_bind (thn (dcT_core (Qf := fun _ s' => SP X pins D .next s') hu calm nd I hi ok pg pt pk pw fold hyp2 ?_) fun _ s' hq => wpAny_pure (wpAny_pure hq))
  intro L C s' m H' I' q ns fr
  show wpAny _ _ (assign (.Name y py) X.env (.ref L)) _ _ _
  refine wpAny_assign_Name (store_ok2 (v := V.ref L) I' nd hy (.inl loc) rfl (fun s2 J ⟨a, sb, ha⟩ => ?_) (.inr loc))
  obtain ⟨g0, g1, g2, g3, g4, g5⟩ := fr
  have hCa : C ≠ a := ha.elim (fun z => z ▸ g1) fun z e => g4 y a z e.symm
  exact ⟨m, ns.sameBut sb hCa, fun h3 sb3 => ⟨_, H', J.turned (t' := s2.toks) (fun b o hb e => (sb3.2 b hb).trans e) g0 g1 g3 g4 g5, q⟩⟩
end
theorem dcT_it {J : It} {n : Nat} {G : Hp → Prop} {Y : Nat → Hp → V → Hp → Prop} (wk : Walk J n G Y) {g : TG} {tt : TT} {tk tv : TE} {is : List Nat} {σ : L2.St} {G1 : Hp} {D : Addr} {Qd : Hp → Prop} (Pv : Nat → Hp → Prop) (h0 : Pv 0 (upd G1 D (.dT []))) (hG : ∀ i H, i ≤ n → Pv i H → G H)
    (hs : ∀ i x H H', i < n → Pv i H → Y i H x H' → g x (wipe σ is) H' fun τ H2 => wipe τ is = wipe σ is ∧ tt τ H2 fun yes H3 =>
      if yes = true then tk τ H3 fun y H4 => tv τ H4 fun z H5 => ∃ es k b, y = .ref b ∧ H5 b = some (.tup (k.map kV)) ∧ H5 D = some (.dT es) ∧ es.length < sizeLine ∧ Pv (i + 1) (upd H5 D (.dT (putK es k z))) else Pv (i + 1) H3) (hd : ∀ H, Pv n H → Qd H) :
    ∃ W : Nat → Nat → Hp → Prop, (∃ m, W 0 m (upd G1 D (.dT []))) ∧ ∀ i m H, W i m H →
      (J.stop i H ∧ Qd H) ∨ (J.go i H ∧ ∃ Nx : Hp → Prop, (∀ H', Nx H' → ∃ m', m' < m ∧ W (i + 1) m' H') ∧ ∀ x H', J.yld i H x H' → g x (wipe σ is) H' fun τ H2 => wipe τ is = wipe σ is ∧ tt τ H2 fun yes H3 =>
        if yes = true then tk τ H3 fun y H4 => tv τ H4 fun z H5 => ∃ es k b, y = .ref b ∧ H5 b = some (.tup (k.map kV)) ∧ H5 D = some (.dT es) ∧ es.length < sizeLine ∧ Nx (upd H5 D (.dT (putK es k z))) else Nx H3) := by
  refine ⟨fun i m H => m = n - i ∧ i ≤ n ∧ Pv i H, ⟨n, (Nat.sub_zero n).symm, Nat.zero_le _, h0⟩, ?_⟩
  intro i m H hW
  obtain ⟨rfl, hi, p⟩ := hW
  have gd := hG i H hi p
  rcases Nat.lt_or_ge i n with hlt | hge
  · refine .inr ⟨wk.goes i H hlt gd, Pv (i + 1), ?_, ?_⟩
    · intro H' p'
      exact ⟨n - (i + 1), by omega, rfl, hlt, p'⟩
    · intro x H' y
      exact hs i x H H' hlt p (wk.yields i H x H' hlt gd y)
  · obtain rfl : i = n := Nat.le_antisymm hi hge
    exact .inl ⟨wk.stops H gd, hd H p⟩
end HF
/-! len(set(texts)) -/
namespace HF
open PySem PySem.Spec PyProof.Rows L2
theorem dedG_mem {x : Str} {ys : List Str} : x ∈ dedG [] ys ↔ x ∈ ys := by
  rw [dedG_nil]
  exact ded_mem
theorem dedG_next {x : Str} {xs : List Str} {i : Nat} (h : xs[i]? = some x) : (dedG [] (xs.take (i + 1))).length = if x ∈ xs.take i then (dedG [] (xs.take i)).length else (dedG [] (xs.take i)).length + 1 := by
  rw [List.take_add_one, h]
  unfold dedG
  rw [List.foldl_append]
  show (if x ∈ dedG [] (xs.take i) then dedG [] (xs.take i) else dedG [] (xs.take i) ++ [x]).length = _
  by_cases e : x ∈ xs.take i
  · rw [if_pos e, if_pos (dedG_mem.mpr e)]
    rfl
  · rw [if_neg e, if_neg fun z => e (dedG_mem.mp z), List.length_append]
    rfl
theorem dedG_few (ys : List Str) : (dedG [] ys).length ≤ ys.length := by
  rw [dedG_nil]
  induction ys with
  | nil => exact Nat.le_refl _
  | cons y r ih =>
    show ((ded r).filter _).length + 1 ≤ r.length + 1
    have := List.length_filter_le (fun x => decide (x ≠ y)) (ded r)
    omega
theorem ded_nodup : ∀ {ys : List Str}, ys.Nodup → ded ys = ys
  | [], _ => rfl
  | y :: r, h => by
    obtain ⟨n1, n2⟩ := List.nodup_cons.mp h
    show y :: (ded r).filter _ = y :: r
    have e : r.filter (fun x => decide (x ≠ y)) = r := List.filter_eq_self.mpr fun x hx => decide_eq_true fun (e : x = y) => n1 (e ▸ hx)
    rw [ded_nodup n2, e]
section
variable {P : Program} {w : World} {A : Around} {E : Value → Shared → Prop} {s : Shared}
abbrev StT (P : Program) (w : World) (h : Heap) (a : Addr) (xs : List Str) (i : Nat) : Prop := h.SetOf (strKind P w) a (fun k => decide (k ∈ xs.take i)) (dedG [] (xs.take i)).length
theorem StT.keep {h h' : Heap} {a : Addr} {xs : List Str} {i : Nat} (R : StT P w h a xs i) (k : ∀ o, h.get? a = some o → h'.get? a = some o) : StT P w h' a xs i := by
  obtain ⟨o, es, ep, t, ho, r⟩ := R
  exact ⟨o, es, ep, t, k o ho, r⟩
theorem update_t {I : Addr} {fp wr : List Addr} {G : Array GenState → Array GenState → Prop} {n : Nat} {Pv : Nat → Value → Prop} {St : Nat → Shared → Prop} {R : Result → Shared → Prop}
    (W : WalksS P w A.in1 I fp wr G n Pv St) (S : Addr) (out : S ∉ fp) (xs : List Str) (hn : n = xs.length) (few : xs.length ≤ 1000) (vals : ∀ i v, Pv i v → ∃ x t, xs[i]? = some x ∧ v = .str x t) :
    ∀ (k i : Nat) (st : Shared), n - i = k → i ≤ n → St i st → StT P w st.heap S xs i → (∀ s', Moved (S :: wr) G st s' → StT P w s'.heap S xs n → R (.ok (.ret .none)) s') →
      codeAny (model P w) A (.builtin "set.update.loop" ⟨[.ref S, .ref I], []⟩) R st := by
  have outw : S ∉ wr := fun h => out (W.sub _ h)
  have wider : ∀ b ∈ wr, b ∈ S :: wr := fun b hb => List.mem_cons_of_mem _ hb
  intro k
  induction k with
  | zero =>
    rintro i st e0 hi hst hS hR
    obtain rfl : i = n := by omega
    refine codeAny_builtin F.entry_set_update_loop ?_
    rw [Around.under_plainId F.plain_set_update_loop _]
    show wpAny _ A.in1 (pyNext (.ref I) >>= _) _ _ st
    refine wpAny_bind (W.done st _ _ hst fun s1 mv => ?_)
    show wpAny _ A.in1 (ret Value.none) _ _ s1
    exact wpAny_pure (hR s1 (mv.mono wider) (hS.keep fun o e => mv.heap S o outw e))
  | succ k ih =>
    rintro i st e0 hi hst hS hR
    have lt : i < n := by omega
    refine codeAny_builtin F.entry_set_update_loop ?_
    rw [Around.under_plainId F.plain_set_update_loop _]
    show wpAny _ A.in1 (pyNext (.ref I) >>= _) _ _ st
    refine wpAny_bind (W.item i st _ _ lt hst fun v s1 hP hst1 mv => ?_)
    obtain ⟨x, t, hx, rfl⟩ := vals i v hP
    have hS1 : StT P w s1.heap S xs i := hS.keep fun o e => mv.heap S o outw e
    have small := dedG_few (xs.take i)
    rw [List.length_take] at small
    show wpAny _ A.in1 (holding [Value.str x t] (setAdd S (.str x t)) >>= _) _ _ s1
    refine wpAny_bind (wpAny_holding ?_)
    unfold setAdd
    refine wpAny_holding (wpAny_bind ((strKind P w).pyHash (k := x) (strKind_is _ _ _ _) ?_))
    refine wpAny_setAddHashed_of (knd := strKind P w) (s := { s1 with toks := s1.toks + 1 }) (strKind_is _ _ _ _) rfl hS1 (by unfold scanBound; omega) fun h2 sb hS2 => ?_
    have next : StT P w h2 S xs (i + 1) := by
      refine SetOf_congr hS2 (fun y => ?_) ?_
      · rw [Bool.eq_iff_iff, Bool.or_eq_true, decide_eq_true_iff, decide_eq_true_iff, decide_eq_true_iff, List.take_add_one, hx, List.mem_append]
        simp
      · rw [dedG_next hx]
        by_cases e : x ∈ xs.take i
        · rw [if_pos e, if_pos (decide_eq_true e)]
        · rw [if_neg e, if_neg (by rw [decide_eq_true_iff]; exact e)]
    refine wpAny_pure ⟨plainId_quiet F.plain_set_update_loop _, ih (i + 1) _ (by omega) lt (W.frame _ s1 _ _ hst1 (Nat.le_succ _) fun b hb o e => ?_) next fun s3 mv3 hS3 => ?_⟩
    · rw [sb.2 b fun z => out (z ▸ hb)]
      exact e
    · refine hR s3 (Moved.trans W.gtrans ((mv.mono wider).then_heap (Nat.le_succ _) fun b o hb e => ?_) mv3) hS3
      rw [sb.2 b fun z => hb (z ▸ List.mem_cons_self)]
      exact e
theorem call_set_t {l : Addr} {items : Array Value} (xs : List Str) {Q : Value → Shared → Prop} (hh : A.handled = none) (hl : s.heap.IsList l items) (hit : Vals (xs.map V.str) items.toList) (few : xs.length ≤ 1000)
    (hQ : ∀ (h' : Heap) (tk : Nat), StT P w h' s.heap.objs.size xs xs.length → (∀ b o, s.heap.get? b = some o → h'.get? b = some o) → Q (.ref s.heap.objs.size) { s with heap := h', toks := tk }) :
    wpAny (model P w) A (call (.type "set") [.ref l]) Q E s := by
  have many : items.size = xs.length := by
    have q : (xs.map V.str).length = items.toList.length := Paired.length hit
    rw [List.length_map] at q
    simpa using q.symm
  obtain ⟨c, tl, hmro⟩ := F.called_set.mro
  have hmade := F.called_set.made
  have hsub := F.called_set.sub
  refine wpAny_call (codeAny_of_tree ?_)
  show wpAny _ _ (callAny (.type "set") _) _ _ _
  refine wpAny_pure ⟨Code.quiet_builtin _ (by decide +kernel), codeAny_builtin F.entry_type_call ?_⟩
  rw [Around.under_plain (weight_type_call_type "set" [.ref l] []) rfl]
  have h1 := F.called_set.notType
  have h2 := F.called_set.canCreate
  have hct := F.typeCall_set_1 (.ref l)
  repeat (any_goals (first | assumption | wp_step))
  refine codeAny_mono (code_set_led1 (.ref l) (E := E) (Q₁ := fun obj s₁ => obj = .ref s.heap.objs.size ∧ s₁ = { s with heap := s.heap.push (bareSet w) }) ⟨rfl, rfl⟩) fun r s₁ hr => ?_
  cases r with
  | error e => exact hr
  | ok fl =>
    cases fl with
    | ret obj =>
      obtain ⟨rfl, rfl⟩ := hr
      have atS : (s.heap.push (bareSet w)).get? s.heap.objs.size = some (bareSet w) := Heap.get?_push_size _ rfl
      have hT : Shared.TypeIs { s with heap := s.heap.push (bareSet w) } (.ref s.heap.objs.size) "set" := ⟨_, atS, rfl⟩
      have hli := F.called_set.init.lookup
      have hbi := F.called_set.init.bind (.ref s.heap.objs.size)
      repeat (any_goals (first | assumption | wp_step))
      refine codeAny_mono (codeAny_call_builtin (R := wants (fun r s₂ => r = .none ∧ ∃ h' tk, s₂ = { s with heap := h', toks := tk } ∧ StT P w h' s.heap.objs.size xs xs.length ∧ (∀ b o, s.heap.get? b = some o → h'.get? b = some o)) E) F.called_set.init.plain F.entry_set_init (check_set_init_1 hT ?_)) fun r₂ s₂ hr₂ => ?_
      · obtain ⟨⟨ocls, odict, odata, oslots⟩, hol, hcl, nl, hdl⟩ := hl
        simp only at hcl hdl
        subst hcl hdl
        have hol1 : (s.heap.push (bareSet w)).get? l = some { cls := .type "list", dict := odict, data := .seq items nl, slots := oslots } := Heap.get?_push_of_some _ hol
        have hsls := F.sub_list_set
        have hslf := F.sub_list_frozenset
        have hne : (Value.type "list" == Value.type "dict") = false := by decide
        have hl1 : (s.heap.push (bareSet w)).IsList l items := ⟨_, hol1, rfl, nl, rfl⟩
        unfold Builtin.«set.__init__» noKeywords Builtin.Frozenset.updateFrom
        generalize hPI : pyIter = PI
        wp_walk
        subst hPI
        refine wpAny_pyIter_list hl1 (wpAny_bind (wpAny_runValue ?_))
        have ltl : l < s.heap.objs.size := Heap.lt_size hol
        have sz1 : (s.heap.push (bareSet w)).objs.size = s.heap.objs.size + 1 := Heap.size_push ..
        have hval : ∀ (i : Nat) (v : Value), items[i]? = some v → ∃ x t, xs[i]? = some x ∧ v = .str x t := fun i v hv => by
          have q : items.toList[i]? = some v := by
            rw [Array.getElem?_toList]
            exact hv
          have lt : i < items.size := (Array.getElem?_eq_some_iff.mp hv).1
          have hx : xs[i]? = some (xs[i]'(by omega)) := List.getElem?_eq_getElem _
          obtain ⟨u, e1, e2⟩ := Vals.get hit (show (xs.map V.str)[i]? = some (.str (xs[i]'(by omega))) by rw [List.getElem?_map, hx]; rfl)
          rw [q] at e1
          cases e1
          obtain ⟨t, rfl⟩ := e2
          exact ⟨_, t, hx, rfl⟩
        refine update_t ((Walks.list (by simp [hh]) _ l (by rw [sz1]; exact Nat.ne_of_lt (Nat.lt_succ_of_lt ltl)) items).toS) s.heap.objs.size
          (by rw [sz1]; simp only [List.mem_cons, List.not_mem_nil, or_false, not_or]; exact ⟨Nat.ne_of_lt (Nat.lt_succ_self _), Nat.ne_of_gt ltl⟩) xs many few hval (items.size - 0) 0 _ (by omega) (Nat.zero_le _)
          ⟨⟨_, Heap.get?_push_size _ rfl, rfl, rfl⟩, (hl1.push _)⟩ ?hS0 ?hR
        case hS0 =>
          exact ⟨_, #[], 0, _, Heap.get?_push_of_some _ atS, ⟨rfl, rfl, rfl⟩, rfl, (fun e he => by simp at he), (fun k => by simp), (by decide), (by rfl), rfl⟩
        case hR =>
          rintro ⟨h', g2, d', tk', os'⟩ mv hS'
          have eg : g2 = s.gens := mv.gens
          have ed : d' = s.drawn := mv.drawn
          have eo : os' = s.os := mv.os
          subst eg ed eo
          show wpAny _ _ _ _ _ _
          refine wpAny_pure ?_
          show wpAny _ _ (ret Value.none) _ _ _
          rw [many] at hS'
          refine wpAny_pure ⟨rfl, h', tk', rfl, hS', fun b o e => mv.heap b o (fun hb => ?_) (Heap.get?_push_of_some _ (Heap.get?_push_of_some _ e))⟩
          have hlt := Heap.lt_size e
          rcases List.mem_cons.mp hb with z | z
          · rw [z] at hlt
            exact Nat.lt_irrefl _ hlt
          · rw [List.mem_singleton.mp z, sz1] at hlt
            exact absurd hlt (Nat.not_lt_of_le (Nat.le_succ _))
      · cases r₂ with
        | error e => exact hr₂
        | ok fl₂ =>
          cases fl₂ with
          | ret r =>
            obtain ⟨rfl, h', tk, rfl, hS', kp⟩ := hr₂
            repeat (any_goals (first | assumption | wp_step))
            exact hQ _ _ hS' kp
          | _ => exact hr₂.elim
    | _ => exact hr.elim
end
section
variable {X : Cx}
/-- len(set(texts)) -/
def tLenT (K : PySem.W.Frag) (ta : TE) : TE := fun σ H Q => ta σ H fun x H1 => ∃ (l : Addr) (xs : List Str), x = .ref l ∧ SqL K H1 l (xs.map V.str) ∧ xs.length ≤ 1000 ∧ Q (.int ((dedG [] xs).length : Nat)) H1
theorem pe_lenT {e : Expr} {te : TE} {p1 p2 p3 pos : Pos} (calm : X.calm = true) (gl : Gl X "len") (ml : X.mg "len" = none) (gs : Gl X "set") (ms : X.mg "set" = none) (he : PE X e te)
    (st1 : starEach [e] X.env = (false, eval e X.env) :: starEach [] X.env := by rfl) : PE X (.Call (.Name "len" p1) [.Call (.Name "set" p2) [e] [] p3] [] pos) (tLenT X.K te) := by
  refine ⟨fun pins st σ H Q I want => Call_ (ld_blt I gl ml PySem.boot_len (PyProof.Rows.callWith_builtin1 (PyProof.Rows.args_cons ?_ rfl) rfl rfl))⟩
  refine Call_ (ld_blt I gs ms PyProof.Rows.boot_set (PyProof.Rows.callWith_type1 (PyProof.Rows.args_cons (thn (he.run pins st σ H _ I want) ?_) st1) st1 rfl))
  rintro v s1 ⟨x, H1, J, r1, l, xs, rfl, hq, few, q⟩
  refine PyProof.Rows.args_nil ?_
  cases r1
  obtain ⟨its, rel, pl, _⟩ := J.list hq
  refine call_set_t (P := X.prog) (w := X.w) xs (J.ok.hd calm) pl.isList (by simpa using rel) few fun h' tk hS kp => PyProof.Rows.args_nil ?_
  obtain ⟨o, es, ep, t, ho, hex, hd, _, _, _, hf, hn⟩ := hS
  have J2 : Inv X pins σ H1 { s1 with heap := h', toks := tk } := J.kept kp
  have small := dedG_few (xs.take xs.length)
  rw [List.take_length] at small hn
  exact call_len_set ho hex hd hf (by rw [hn]; omega) ⟨.int ((dedG [] xs).length : Nat), H1, J2.tok _, ⟨_, by rw [hn]⟩, q⟩
end
end HF
namespace HF
open PySem PySem.Spec PyProof.Rows L2
def uu (zs : List Str) (a b : Str) : Nat := if up zs (a, b) = true then 1 else 0
/-- how many of the next ones lie above the one before -/
def C (zs : List Str) : List Str → Nat
  | a :: b :: r => uu zs a b + C zs (b :: r)
  | _ => 0
def T (zs ls : List Str) : Nat := C zs (ls ++ ls.take 1)
theorem num_cons (zs : List Str) (q : Str × Str) (ps : List (Str × Str)) : num zs (q :: ps) = uu zs q.1 q.2 + num zs ps := by
  unfold num uu
  by_cases e : up zs q = true
  · rw [List.filter_cons_of_pos e, if_pos (show up zs (q.1, q.2) = true from e), List.length_cons]
    omega
  · rw [List.filter_cons_of_neg e, if_neg (show ¬ up zs (q.1, q.2) = true from e)]
    omega
theorem num_zip (zs : List Str) : ∀ (a : Str) (l : List Str), num zs ((a :: l).zip l) = C zs (a :: l)
  | a, [] => rfl
  | a, b :: r => by
    rw [List.zip_cons_cons, num_cons, num_zip zs b r]
    rfl
theorem num_law (zs : List Str) (x : Str) : ∀ (a : Str) (r : List Str), num zs ((a :: r).zip (r ++ [x])) = C zs (a :: r ++ [x])
  | a, [] => by
    show num zs [(a, x)] = C zs [a, x]
    rw [num_cons]
    rfl
  | a, b :: r => by
    show num zs ((a, b) :: (b :: r).zip (r ++ [x])) = C zs (a :: b :: (r ++ [x]))
    rw [num_cons, num_law zs x b r]
    rfl
theorem law_T {zs ls : List Str} (h : 1 ≤ ls.length) : num zs (ls.zip (ls.drop 1 ++ ls.take 1)) = T zs ls := by
  cases ls with
  | nil => simp at h
  | cons a r =>
    show num zs ((a :: r).zip (r ++ [a])) = C zs (a :: r ++ [a])
    exact num_law zs a a r
theorem C_split (zs : List Str) (x : Str) (v : List Str) : ∀ u : List Str, C zs (u ++ x :: v) = C zs (u ++ [x]) + C zs (x :: v)
  | [] => by
    show C zs (x :: v) = 0 + C zs (x :: v)
    omega
  | [a] => by
    show uu zs a x + C zs (x :: v) = (uu zs a x + 0) + C zs (x :: v)
    omega
  | a :: b :: r => by
    have ih := C_split zs x v (b :: r)
    show uu zs a b + C zs (b :: r ++ x :: v) = (uu zs a b + C zs (b :: r ++ [x])) + C zs (x :: v)
    omega
theorem prog_T (zs ms : List Str) (y : Str) : num zs ((y :: (ms ++ [y])).zip (ms ++ [y])) = T zs (ms ++ [y]) := by
  rw [num_zip]
  cases ms with
  | nil => rfl
  | cons x t =>
    show uu zs y x + C zs (x :: (t ++ [y])) = C zs ((x :: t ++ [y]) ++ [x])
    rw [List.append_assoc, show x :: t ++ ([y] ++ [x]) = (x :: t) ++ y :: [x] from rfl, C_split]
    show uu zs y x + C zs (x :: (t ++ [y])) = C zs (x :: t ++ [y]) + (uu zs y x + 0)
    rw [Nat.add_zero, Nat.add_comm]
    rfl
theorem T_rot (zs : List Str) : ∀ u v : List Str, T zs (u ++ v) = T zs (v ++ u)
  | [], v => by rw [List.nil_append, List.append_nil]
  | a :: u, [] => by rw [List.nil_append, List.append_nil]
  | a :: u, b :: v => by
    unfold T
    show C zs ((a :: u ++ b :: v) ++ [a]) = C zs ((b :: v ++ a :: u) ++ [b])
    rw [List.append_assoc, List.append_assoc]
    show C zs (a :: u ++ b :: (v ++ [a])) = C zs (b :: v ++ a :: (u ++ [b]))
    rw [C_split zs b, C_split zs a]
    show C zs (a :: (u ++ [b])) + C zs (b :: (v ++ [a])) = C zs (b :: (v ++ [a])) + C zs (a :: (u ++ [b]))
    omega
def Ad (zs : List Str) : List Str → Prop
  | a :: b :: r => pos a zs ≠ pos b zs ∧ Ad zs (b :: r)
  | _ => True
theorem uu_two {zs : List Str} {a b : Str} (h : pos a zs ≠ pos b zs) : uu zs a b + uu zs b a = 1 := by
  unfold uu up
  by_cases e : (pos b zs : Int) < (pos a zs : Int)
  · rw [if_pos (decide_eq_true e), if_neg (by rw [decide_eq_true_eq]; show ¬ (pos a zs : Int) < (pos b zs : Int); omega)]
  · rw [if_neg (by rw [decide_eq_true_eq]; exact e), if_pos (by rw [decide_eq_true_eq]; show (pos a zs : Int) < (pos b zs : Int); omega)]
theorem C_rev {zs : List Str} : ∀ {m : List Str}, m ≠ [] → Ad zs m → C zs m + C zs m.reverse + 1 = m.length
  | [], h, _ => absurd rfl h
  | [a], _, _ => rfl
  | a :: b :: r, _, h => by
    have ih := C_rev (m := b :: r) (by simp) h.2
    have e : (a :: b :: r).reverse = r.reverse ++ b :: [a] := by
      rw [List.reverse_cons, List.reverse_cons, List.append_assoc]
      rfl
    rw [e, C_split, ← List.reverse_cons]
    show (uu zs a b + C zs (b :: r)) + (C zs (b :: r).reverse + (uu zs b a + 0)) + 1 = (b :: r).length + 1
    have := uu_two h.1
    omega
theorem Ad_of {zs : List Str} : ∀ {l : List Str}, l.Nodup → (∀ x ∈ l, x ∈ zs) → Ad zs l
  | [], _, _ => trivial
  | [a], _, _ => trivial
  | a :: b :: r, hn, hi => by
    have h2 := List.nodup_cons.mp hn
    refine ⟨fun e => h2.1 ?_, Ad_of h2.2 fun x hx => hi x (List.mem_cons_of_mem _ hx)⟩
    rw [pos_inj (hi a List.mem_cons_self) (hi b (List.mem_cons_of_mem _ List.mem_cons_self)) e]
    exact List.mem_cons_self
theorem Ad_snoc {zs : List Str} {x : Str} : ∀ {l : List Str}, Ad zs l → (∀ y, l.getLast? = some y → pos y zs ≠ pos x zs) → Ad zs (l ++ [x])
  | [], _, _ => trivial
  | [a], _, h => ⟨h a rfl, trivial⟩
  | a :: b :: r, hA, h => ⟨hA.1, Ad_snoc (l := b :: r) hA.2 fun y hy => h y (by rw [List.getLast?_cons_cons]; exact hy)⟩
theorem Ad_round {zs : List Str} {x b : Str} {r : List Str} (hn : (x :: b :: r).Nodup) (hi : ∀ y ∈ x :: b :: r, y ∈ zs) : Ad zs ((x :: b :: r) ++ [x]) := by
  refine Ad_snoc (Ad_of hn hi) fun y hy e => ?_
  rw [List.getLast?_cons_cons] at hy
  have hm := List.mem_of_getLast? hy
  have := pos_inj (hi y (List.mem_cons_of_mem _ hm)) (hi x List.mem_cons_self) e
  exact (List.nodup_cons.mp hn).1 (this ▸ hm)
theorem C_rise {zs : List Str} : ∀ {a b : Str} {t : List Str} {z : Str}, Ad zs (a :: b :: t) → C zs (a :: b :: t) = 0 → (b :: t).getLast? = some z → pos a zs < pos z zs
  | a, b, [], z, hA, h0, hz => by
    have ez : b = z := Option.some.inj hz
    subst ez
    have h1 : uu zs a b + 0 = 0 := h0
    have h2 : ¬ up zs (a, b) = true := fun e => by
      unfold uu at h1
      rw [if_pos e] at h1
      cases h1
    have h3 : ¬ (pos b zs : Int) < (pos a zs : Int) := fun e => h2 (decide_eq_true e)
    have := hA.1
    omega
  | a, b, c :: t, z, hA, h0, hz => by
    have h1 : uu zs a b + C zs (b :: c :: t) = 0 := h0
    have h2 : ¬ up zs (a, b) = true := fun e => by
      unfold uu at h1
      rw [if_pos e] at h1
      omega
    have h3 : ¬ (pos b zs : Int) < (pos a zs : Int) := fun e => h2 (decide_eq_true e)
    have h4 := C_rise (a := b) (b := c) (t := t) (z := z) hA.2 (by omega) (by rw [List.getLast?_cons_cons] at hz; exact hz)
    have := hA.1
    omega
theorem T_pos {zs ls : List Str} (hn : ls.Nodup) (hi : ∀ y ∈ ls, y ∈ zs) (h2 : 2 ≤ ls.length) : 1 ≤ T zs ls := by
  cases ls with
  | nil => simp at h2
  | cons x r =>
    cases r with
    | nil => simp at h2
    | cons b r =>
      rcases Nat.eq_zero_or_pos (T zs (x :: b :: r)) with e | e
      · have e2 : C zs (x :: b :: (r ++ [x])) = 0 := e
        have := C_rise (z := x) (Ad_round hn hi) e2 (show ((b :: r) ++ [x]).getLast? = some x by rw [List.getLast?_append]; rfl)
        omega
      · exact e
theorem T_rev {zs ls : List Str} (hn : ls.Nodup) (hi : ∀ y ∈ ls, y ∈ zs) (h2 : 2 ≤ ls.length) : T zs ls + T zs ls.reverse = ls.length := by
  cases ls with
  | nil => simp at h2
  | cons x r =>
    cases r with
    | nil => simp at h2
    | cons b r =>
      have h := C_rev (zs := zs) (m := (x :: b :: r) ++ [x]) (by simp) (Ad_round hn hi)
      have e1 : T zs (x :: b :: r).reverse = C zs (x :: (x :: b :: r).reverse) := by
        rw [List.reverse_cons, ← prog_T, num_zip]
      have e2 : ((x :: b :: r) ++ [x]).reverse = x :: (x :: b :: r).reverse := by
        rw [List.reverse_append]
        rfl
      rw [e2, ← e1, List.length_append] at h
      have e3 : T zs (x :: b :: r) = C zs ((x :: b :: r) ++ [x]) := rfl
      rw [← e3] at h
      simp only [List.length_singleton] at h
      omega
theorem T_lt {zs ls : List Str} (hn : ls.Nodup) (hi : ∀ y ∈ ls, y ∈ zs) (h2 : 2 ≤ ls.length) : T zs ls < ls.length := by
  have h := T_rev hn hi h2
  have := T_pos (zs := zs) (ls := ls.reverse) ((List.reverse_perm ls).nodup_iff.mpr hn) (fun y hy => hi y (List.mem_reverse.mp hy)) (by rw [List.length_reverse]; exact h2)
  omega
theorem snoc_of {ls : List Str} (h : 1 ≤ ls.length) : ∃ ms y, ls = ms ++ [y] := by
  have hne : ls ≠ [] := fun e => by
    rw [e] at h
    simp at h
  exact ⟨ls.dropLast, ls.getLast hne, (List.dropLast_concat_getLast hne).symm⟩
end HF
/-! rings, and how they fall -/
namespace HF
open PySem PySem.Spec PyProof.Rows L2
theorem pos_filter {p : Str → Bool} {x y : Str} (hx : p x = true) (hy : p y = true) : ∀ zs : List Str, (pos x (zs.filter p) < pos y (zs.filter p) ↔ pos x zs < pos y zs)
  | [] => Iff.rfl
  | z :: r => by
    have ih := pos_filter hx hy r
    by_cases e : p z = true
    · rw [List.filter_cons_of_pos e]
      unfold pos
      by_cases ex : z = x
      · by_cases ey : z = y
        · rw [if_pos ex, if_pos ey, if_pos ex, if_pos ey]
        · rw [if_pos ex, if_neg ey, if_pos ex, if_neg ey]
          omega
      · by_cases ey : z = y
        · rw [if_neg ex, if_pos ey, if_neg ex, if_pos ey]
          omega
        · rw [if_neg ex, if_neg ey, if_neg ex, if_neg ey]
          omega
    · have ex : ¬ z = x := fun q => e (q ▸ hx)
      have ey : ¬ z = y := fun q => e (q ▸ hy)
      rw [List.filter_cons_of_neg e]
      show _ ↔ (if z = x then 0 else pos x r + 1) < (if z = y then 0 else pos y r + 1)
      rw [if_neg ex, if_neg ey]
      omega
theorem pos_top (b : Str) (zs : List Str) : pos b (onTop b zs) = 0 := by
  show (if b = b then 0 else _) = 0
  rw [if_pos rfl]
theorem pos_rest {b x : Str} (h : x ≠ b) (zs : List Str) : pos x (onTop b zs) = pos x (zs.filter fun z => decide (z ≠ b)) + 1 := by
  show (if b = x then 0 else _) = _
  rw [if_neg fun e => h e.symm]
theorem uu_rest {b x y : Str} {zs : List Str} (hx : x ≠ b) (hy : y ≠ b) : uu (onTop b zs) x y = uu zs x y := by
  have h := pos_filter (p := fun z => decide (z ≠ b)) (x := y) (y := x) (decide_eq_true hy) (decide_eq_true hx) zs
  have e : (((pos y (onTop b zs) : Nat) : Int) < ((pos x (onTop b zs) : Nat) : Int)) ↔ (((pos y zs : Nat) : Int) < ((pos x zs : Nat) : Int)) := by
    rw [pos_rest hx, pos_rest hy]
    omega
  have e2 : up (onTop b zs) (x, y) = up zs (x, y) := by
    unfold up
    rw [Bool.eq_iff_iff, decide_eq_true_iff, decide_eq_true_iff]
    exact e
  unfold uu
  rw [e2]
theorem C_rest {b : Str} {zs : List Str} : ∀ {l : List Str}, b ∉ l → C (onTop b zs) l = C zs l
  | [], _ => rfl
  | [a], _ => rfl
  | a :: c :: r, h => by
    have h1 : a ≠ b := fun e => h (e ▸ List.mem_cons_self)
    have h2 : c ≠ b := fun e => h (e ▸ List.mem_cons_of_mem _ List.mem_cons_self)
    show uu (onTop b zs) a c + C (onTop b zs) (c :: r) = uu zs a c + C zs (c :: r)
    rw [uu_rest h1 h2, C_rest fun z => h (List.mem_cons_of_mem _ z)]
/-- each next one a friend of the one before -/
def Ch (qs : List (Str × Str)) : List Str → Prop
  | a :: b :: r => (a, b) ∈ qs ∧ Ch qs (b :: r)
  | _ => True
theorem Ch.app {qs : List (Str × Str)} {x : Str} {v : List Str} : ∀ {u : List Str}, Ch qs (u ++ [x]) → Ch qs (x :: v) → Ch qs (u ++ x :: v)
  | [], _, h => h
  | [a], h, h2 => ⟨h.1, h2⟩
  | a :: b :: r, h, h2 => ⟨h.1, Ch.app (u := b :: r) h.2 h2⟩
theorem Ch.split {qs : List (Str × Str)} {x : Str} {v : List Str} : ∀ {u : List Str}, Ch qs (u ++ x :: v) → Ch qs (u ++ [x]) ∧ Ch qs (x :: v)
  | [], h => ⟨trivial, h⟩
  | [a], h => ⟨⟨h.1, trivial⟩, h.2⟩
  | a :: b :: r, h => by
    obtain ⟨h1, h2⟩ := Ch.split (u := b :: r) h.2
    exact ⟨⟨h.1, h1⟩, h2⟩
structure Rng (qs : List (Str × Str)) (zs ls : List Str) : Prop where
  nd : ls.Nodup
  two : 2 ≤ ls.length
  sub : ∀ x ∈ ls, x ∈ zs
  ch : Ch qs (ls ++ ls.take 1)
theorem Rng.rot {qs : List (Str × Str)} {zs u v : List Str} (h : Rng qs zs (u ++ v)) : Rng qs zs (v ++ u) := by
  obtain ⟨h1, h2, h3, h4⟩ := h
  have pm : (u ++ v).Perm (v ++ u) := List.perm_append_comm
  refine ⟨pm.nodup_iff.mp h1, by rw [← pm.length_eq]; exact h2, fun x hx => h3 x (pm.mem_iff.mpr hx), ?_⟩
  cases u with
  | nil => rwa [List.append_nil] at *
  | cons a u =>
    cases v with
    | nil => rw [List.append_nil] at h4; exact h4
    | cons b v =>
      have h5 : Ch qs ((a :: u) ++ b :: (v ++ [a])) := by
        have e : (a :: u ++ b :: v) ++ List.take 1 (a :: u ++ b :: v) = (a :: u) ++ b :: (v ++ [a]) := by simp
        rwa [e] at h4
      obtain ⟨h6, h7⟩ := Ch.split h5
      have e : (b :: v ++ a :: u) ++ List.take 1 (b :: v ++ a :: u) = (b :: v) ++ a :: (u ++ [b]) := by simp
      rw [e]
      exact Ch.app h7 h6
/-- a going takes from a ring what the law says -/
theorem fall_in {qs : List (Str × Str)} {zs u v : List Str} {b f : Str} (h : Rng qs zs (u ++ b :: v)) (nd : zs.Nodup) (hb : b ∈ zs) (hl : lets qs zs b = true) (hf : (v ++ u).getLast? = some f) :
    (T (onTop b zs) (u ++ b :: v) : Int) = (T zs (u ++ b :: v) : Int) - (if (pos f zs : Int) < (pos b zs : Int) then 0 else 1) ∧ f ∈ zs := by
  have hr : Rng qs zs (b :: (v ++ u)) := h.rot
  have e1 : ∀ ys, T ys (u ++ b :: v) = T ys (b :: (v ++ u)) := fun ys => T_rot ys u (b :: v)
  obtain ⟨m, hm⟩ : ∃ m, v ++ u = m ++ [f] := by
    have hne : v ++ u ≠ [] := fun e => by rw [e] at hf; simp at hf
    refine ⟨(v ++ u).dropLast, ?_⟩
    rw [List.getLast?_eq_some_getLast hne] at hf
    rw [← Option.some.inj hf]
    exact (List.dropLast_concat_getLast hne).symm
  have hfz : f ∈ zs := hr.sub f (by rw [hm]; simp)
  have nin : b ∉ v ++ u := (List.nodup_cons.mp hr.nd).1
  have fb : f ≠ b := fun e => nin (by rw [hm, e]; simp)
  have e2 : ∀ ys, T ys (b :: (v ++ u)) = C ys (b :: (v ++ u)) + uu ys f b := fun ys => by
    show C ys ((b :: (v ++ u)) ++ [b]) = _
    rw [hm]
    have e3 : (b :: (m ++ [f])) ++ [b] = (b :: m) ++ f :: [b] := by simp
    rw [e3, C_split]
    show C ys (b :: (m ++ [f])) + (uu ys f b + 0) = _
    omega
  obtain ⟨w0, wr, hw⟩ : ∃ w0 wr, v ++ u = w0 :: wr := by
    cases hc : v ++ u with
    | nil => rw [hc] at hf; simp at hf
    | cons a r => exact ⟨a, r, rfl⟩
  have w0b : w0 ≠ b := fun e => nin (by rw [hw, e]; exact List.mem_cons_self)
  have e4 : ∀ ys, C ys (b :: (v ++ u)) = uu ys b w0 + C ys (v ++ u) := fun ys => by
    rw [hw]
    rfl
  have tie : (b, w0) ∈ qs := by
    have h4 := hr.ch
    rw [hw] at h4
    exact h4.1
  have up1 : (pos w0 zs : Int) < (pos b zs : Int) := by
    unfold lets at hl
    refine of_decide_eq_true (List.all_eq_true.mp hl w0 ?_)
    unfold sndOf
    exact List.mem_map.mpr ⟨(b, w0), List.mem_filter.mpr ⟨tie, decide_eq_true rfl⟩, rfl⟩
  have a1 : uu zs b w0 = 1 := by
    unfold uu up
    rw [if_pos (decide_eq_true up1)]
  have a2 : uu (onTop b zs) b w0 = 0 := by
    unfold uu up
    rw [if_neg]
    rw [decide_eq_true_iff]
    show ¬ ((pos w0 (onTop b zs) : Nat) : Int) < ((pos b (onTop b zs) : Nat) : Int)
    rw [pos_top]
    omega
  have a3 : uu (onTop b zs) f b = 1 := by
    unfold uu up
    rw [if_pos]
    rw [decide_eq_true_iff]
    show ((pos b (onTop b zs) : Nat) : Int) < ((pos f (onTop b zs) : Nat) : Int)
    rw [pos_top, pos_rest fb]
    omega
  have a4 : (uu zs f b : Int) = if (pos f zs : Int) < (pos b zs : Int) then 0 else 1 := by
    have hne : pos f zs ≠ pos b zs := fun e => fb (pos_inj hfz hb e)
    unfold uu up
    by_cases e : (pos f zs : Int) < (pos b zs : Int)
    · rw [if_pos e, if_neg]
      · rfl
      · rw [decide_eq_true_iff]
        show ¬ ((pos b zs : Nat) : Int) < ((pos f zs : Nat) : Int)
        omega
    · rw [if_neg e, if_pos]
      · rfl
      · rw [decide_eq_true_iff]
        show ((pos b zs : Nat) : Int) < ((pos f zs : Nat) : Int)
        omega
  refine ⟨?_, hfz⟩
  rw [e1, e1, e2, e2, e4, e4, a1, a2, a3, C_rest nin, ← a4]
  omega
theorem fall_out {zs ls : List Str} {b : Str} (h : b ∉ ls) : T (onTop b zs) ls = T zs ls := by
  unfold T
  refine C_rest fun z => ?_
  rcases List.mem_append.mp z with q | q
  · exact h q
  · exact h (List.mem_of_mem_take q)
theorem Rng.perm {qs : List (Str × Str)} {zs zs' ls : List Str} (h : Rng qs zs ls) (pm : zs'.Perm zs) : Rng qs zs' ls := ⟨h.nd, h.two, fun x hx => pm.mem_iff.mpr (h.sub x hx), h.ch⟩
theorem split_at {b : Str} : ∀ {ls : List Str}, b ∈ ls → ∃ u v, ls = u ++ b :: v ∧ u.length = pos b ls
  | x :: r, h => by
    by_cases e : x = b
    · exact ⟨[], r, by rw [e]; rfl, by unfold pos; rw [if_pos e]; rfl⟩
    · obtain ⟨u, v, h1, h2⟩ := split_at ((List.mem_cons.mp h).resolve_left fun q => e q.symm)
      refine ⟨x :: u, v, by rw [h1]; rfl, ?_⟩
      unfold pos
      rw [if_neg e, List.length_cons, h2]
theorem fan_at {u v : List Str} {b f : Str} (hf : (v ++ u).getLast? = some f) : atI ((u ++ b :: v).map V.str) ((u.length : Int) - 1) = some (.str f) := by
  rcases List.eq_nil_or_concat u with e | ⟨u', x, e⟩
  · subst e
    rw [List.append_nil] at hf
    obtain ⟨m, hm⟩ : ∃ m, v = m ++ [f] := by
      have hne : v ≠ [] := fun e => by rw [e] at hf; simp at hf
      refine ⟨v.dropLast, ?_⟩
      rw [List.getLast?_eq_some_getLast hne] at hf
      rw [← Option.some.inj hf]
      exact (List.dropLast_concat_getLast hne).symm
    rw [hm]
    show atI ((b :: (m ++ [f])).map V.str) (0 - 1) = _
    rw [show ((b :: (m ++ [f])).map V.str) = ((b :: m).map V.str) ++ [.str f] by simp]
    exact atI_last _ _
  · subst e
    have hx : x = f := by
      rw [List.concat_eq_append, ← List.append_assoc, List.getLast?_append] at hf
      exact Option.some.inj hf
    subst hx
    have e1 : ((u'.concat x).length : Int) - 1 = ((u'.length : Nat) : Int) := by
      rw [List.length_concat]
      omega
    rw [e1]
    refine atI_nat ?_
    rw [List.concat_eq_append, List.append_assoc, List.getElem?_map, List.getElem?_append_right (Nat.le_refl _), Nat.sub_self]
    rfl
end HF
namespace HF
open PySem PySem.Spec PyProof.Rows L2
theorem pe_dcT {X : Cx} {kx vx tg over : Expr} {cs : List Expr} {sc2 : Scope} {own : List (Str × Nat)} {pos : Pos} {wi : TI} {g : TG} {tt : TT} {tk tv : TE} (hu : X.A.units + 1 < cLine) (calm : X.calm = true) (nd : X.N.Nodup) (hi : PI X tg over wi) (ok : BlkOk X.N X.env.scope sc2 own)
    (pg : ∀ (s : Shared) (H : Hp) (C : Addr) (cl : List (Str × Addr)) (fp : List Addr), PG (X.blk s H sc2 (compEnvC sc2 cl C X.env) fp) tg g) (pt : ∀ (s : Shared) (H : Hp) (C : Addr) (cl : List (Str × Addr)) (fp : List Addr), PTs (X.blk s H sc2 (compEnvC sc2 cl C X.env) fp) cs tt)
    (pk : ∀ (s : Shared) (H : Hp) (C : Addr) (cl : List (Str × Addr)) (fp : List Addr), PE (X.blk s H sc2 (compEnvC sc2 cl C X.env) fp) kx tk)
    (pw : ∀ (s : Shared) (H : Hp) (C : Addr) (cl : List (Str × Addr)) (fp : List Addr), PE (X.blk s H sc2 (compEnvC sc2 cl C X.env) fp) vx tv) (fold : ∀ x, foldedSetIterable over X.env x = pure x := by intro _; rfl) :
    PE X (.DictComp kx vx [⟨tg, over, cs, 0⟩] sc2 pos) (tDcT wi g tt tk tv (own.map (·.2))) := by
  refine ⟨fun pins st σ H Q I hyp => ?_⟩
  rw [arm_eval_DictComp]
  refine dcT_core hu calm nd I hi ok pg pt pk pw fold hyp fun D C s' m H' J q ns fr => ⟨m, ns, fun h2 sb => ?_⟩
  obtain ⟨g0, g1, g2, g3, g4, g5⟩ := fr
  have still : ∀ b o, b ≠ C → s'.heap.get? b = some o → h2.get? b = some o := fun b o hb e => (sb.2 b hb).trans e
  exact ⟨.ref D, H', J.turned (t' := s'.toks) still g0 g1 g3 g4 g5, rfl, q⟩
theorem ch_zip {qs : List (Str × Str)} : ∀ {a : Str} {l : List Str} {i : Nat} {q : Str × Str}, Ch qs (a :: l) → ((a :: l).zip l)[i]? = some q → q ∈ qs
  | a, [], i, q, _, h => by simp at h
  | a, b :: r, 0, q, h, hq => by
    cases (show some (a, b) = some q from hq)
    exact h.1
  | a, b :: r, i + 1, q, h, hq => ch_zip (a := b) (l := r) (i := i) h.2 hq
theorem Rng.pairs {qs : List (Str × Str)} {zs ms : List Str} {y : Str} (h : Rng qs zs (ms ++ [y])) {i : Nat} {q : Str × Str} (hq : ((y :: (ms ++ [y])).zip (ms ++ [y]))[i]? = some q) : q ∈ qs := by
  refine ch_zip ?_ hq
  have h4 := h.ch
  cases ms with
  | nil =>
    have := h.two
    simp at this
  | cons x t =>
    have e : (x :: t ++ [y]) ++ List.take 1 (x :: t ++ [y]) = (x :: t) ++ y :: [x] := by simp
    rw [e] at h4
    obtain ⟨h5, h6⟩ := Ch.split h4
    exact ⟨h6.1, h5⟩
variable (K : PySem.W.Frag)
def spShow : Sp := fun vs H Q _ => ∃ (r a : Addr) (zs ls : List Str) (qs : List (Str × Str)), vs = [.ref r, .ref a] ∧ PqT K H r qs ∧ SqL K H a (ls.map V.str) ∧ Rng qs zs ls ∧ qs.length ≤ 400 ∧ ls.length ≤ 1000 ∧ ∀ H' : Hp, Same H H' → Q (.bl true) H'
def spFall : Sp := fun vs H Q _ => ∃ (h a : Addr) (b : Str) (zs ls : List Str) (qs : List (Str × Str)), vs = [.ref h, .ref a, .str b] ∧ Hq K H h zs ∧ SqL K H a (ls.map V.str) ∧ Rng qs zs ls ∧ zs.Nodup ∧ b ∈ zs ∧ lets qs zs b = true ∧ ls.length ≤ 1000 ∧
  ∀ H' : Hp, Same H H' → Q (.int ((T zs ls : Int) - (T (onTop b zs) ls : Int))) H'
/-- rings in a list -/
structure LpAt (qs : List (Str × Str)) (zs : List Str) (H : Hp) (F : Addr) (as : List Addr) (rs : List (List Str)) : Prop where
  top : H F = some (.lst (as.map V.ref))
  len : as.length = rs.length
  at' : ∀ (i : Nat) (a : Addr) (ls : List Str), as[i]? = some a → rs[i]? = some ls → H a = some (.lst (ls.map V.str))
  rng : ∀ ls ∈ rs, Rng qs zs ls
def spLoops : Sp := fun vs H Q _ => ∃ (p h r : Addr) (n : Nat) (c : Int) (zs : List Str) (L : SL), vs = [.ref p, .ref h, .ref r, .int n] ∧ Bx H p c ∧ c < 2 ^ 38 ∧ n ≤ 20 ∧ Tp H h (zs.map V.str) ∧ zs.Nodup ∧ zs ≠ [] ∧ zs.length ≤ 12 ∧ (∀ z ∈ zs, Nm z) ∧ Ties zs H r L ∧
  ∀ (H' : Hp) (F : Addr) (as : List Addr) (rs : List (List Str)) (c' : Int), Oth p H H' → H F = none → LpAt (L.map prOf) zs H' F as rs → rs.length ≤ n → Bx H' p c' → c ≤ c' → c' ≤ c + 20 * n → Q (.ref F) H'
variable {K}
theorem LpAt.same {qs : List (Str × Str)} {zs : List Str} {H H' : Hp} {F : Addr} {as : List Addr} {rs : List (List Str)} (h : LpAt qs zs H F as rs) (sm : Same H H') : LpAt qs zs H' F as rs :=
  ⟨sm _ _ h.top, h.len, fun i a ls h1 h2 => sm _ _ (h.at' i a ls h1 h2), h.rng⟩
theorem bx_refs {H : Hp} {p F : Addr} {c : Int} {as : List Addr} (hb : Bx H p c) (h : H F = some (.lst (as.map V.ref))) : F ≠ p := fun e => by
  obtain ⟨x, y, e2, _⟩ := hb
  rw [e, e2] at h
  have e3 := Option.some.inj h
  injection e3 with e4
  cases as with
  | nil => exact nomatch e4
  | cons a r => injection e4 with e5; exact nomatch e5
theorem bx_strs {H : Hp} {p F : Addr} {c : Int} {ls : List Str} (hb : Bx H p c) (h : H F = some (.lst (ls.map V.str))) : F ≠ p := fun e => by
  obtain ⟨x, y, e2, _⟩ := hb
  rw [e, e2] at h
  have e3 := Option.some.inj h
  injection e3 with e4
  cases ls with
  | nil => exact nomatch e4
  | cons a r => injection e4 with e5; exact nomatch e5
theorem LpAt.oth {qs : List (Str × Str)} {zs : List Str} {H H' : Hp} {F p : Addr} {c : Int} {as : List Addr} {rs : List (List Str)} (h : LpAt qs zs H F as rs) (o : Oth p H H') (hb : Bx H p c) : LpAt qs zs H' F as rs :=
  ⟨o _ _ h.top (bx_refs hb h.top), h.len, fun i a ls h1 h2 => o _ _ (h.at' i a ls h1 h2) (bx_strs hb (h.at' i a ls h1 h2)), h.rng⟩
theorem LpAt.get {qs : List (Str × Str)} {zs : List Str} {H : Hp} {F : Addr} {as : List Addr} {rs : List (List Str)} (h : LpAt qs zs H F as rs) {i : Nat} {a : Addr} (ha : as[i]? = some a) : ∃ ls, rs[i]? = some ls ∧ H a = some (.lst (ls.map V.str)) ∧ Rng qs zs ls := by
  have hi : i < rs.length := by
    rw [← h.len]
    exact (List.getElem?_eq_some_iff.mp ha).1
  have hr : rs[i]? = some rs[i] := List.getElem?_eq_getElem hi
  exact ⟨_, hr, h.at' i a _ ha hr, h.rng _ (List.mem_of_getElem? hr)⟩
end HF
namespace HF
open PySem PySem.Spec PyProof.Rows L2
abbrev sRight : Stmt := topS 30
abbrev sLaw : Stmt := topS 31
abbrev nRight : List Str := ["_law_box_here", "_law_stack", "_law_pairs", "_law_turn", "_law_due", "_law_before", "_law_told_here", "_law_odd", "_law_mine", "_law_wanted", "_law_later"]
theorem scRight : FnScope nRight ["_law_box_here"] (defScope sRight) := ⟨rfl, rfl, rfl, by decide +kernel, rfl, by decide +kernel, by decide +kernel⟩
/-- what the top has written -/
structure TX (K : PySem.W.Frag) (mg : Str → Option Value) where
  fT : Addr
  dT : FuncData
  FT : Fun K "_law_take" "_law_take" sTake fT dT
  bT : Binds K dT ["_law_box_here", "_law_bound"] []
  gT : mg "_law_take" = some (.ref fT)
  fS : Addr
  dS : FuncData
  FS : Fun K "_law_strewn" "_law_strewn" sStrewn fS dS
  bS : Binds K dS ["_law_box_here", "_law_some"] []
  gS : mg "_law_strewn" = some (.ref fS)
  fN : Addr
  dN : FuncData
  FN : Fun K "_law_names" "_law_names" sNames fN dN
  bN : Binds K dN ["_law_box_here", "_law_size"] []
  gN : mg "_law_names" = some (.ref fN)
  fH : Addr
  dH : FuncData
  FH : Fun K "_law_heap" "_law_heap" sHeap fH dH
  bH : Binds K dH ["_law_box_here", "_law_least", "_law_most"] []
  gH : mg "_law_heap" = some (.ref fH)
  fY : Addr
  dY : FuncData
  FY : Fun K "_law_ties" "_law_ties" sTies fY dY
  bY : Binds K dY ["_law_box_here", "_law_stack"] []
  gY : mg "_law_ties" = some (.ref fY)
  fF : Addr
  dF : FuncData
  FF : Fun K "friends_of" "friends_of" sFriends fF dF
  bF : Binds K dF ["ties", "book"] []
  gF : mg "friends_of" = some (.ref fF)
  fE : Addr
  dE : FuncData
  FE : Fun K "_law_same" "_law_same" sSame fE dE
  bE : Binds K dE ["_law_found", "_law_due"] []
  gE : mg "_law_same" = some (.ref fE)
  fI : Addr
  dI : FuncData
  FI : Fun K "_law_listed" "_law_listed" sListed fI dI
  bI : Binds K dI ["_law_matter"] []
  gI : mg "_law_listed" = some (.ref fI)
  fB : Addr
  dB : FuncData
  FB : Fun K "_law_box" "_law_box" sBox fB dB
  bB : Binds K dB ["_law_script", "_law_k"] []
  gB : mg "_law_box" = some (.ref fB)
  fP : Addr
  dP : FuncData
  FP : Fun K "_law_pick" "_law_pick" sPk fP dP
  bP : Binds K dP ["_law_box_here", "_law_some"] []
  gP : mg "_law_pick" = some (.ref fP)
  fA : Addr
  dA : FuncData
  FA : Fun K "_law_above" "_law_above" sAbove fA dA
  bA : Binds K dA ["_law_stack", "_law_mine", "_law_its"] []
  gA : mg "_law_above" = some (.ref fA)
  fG : Addr
  dG : FuncData
  FG : Fun K "_law_friends" "_law_friends" sLf fG dG
  bG : Binds K dG ["_law_pairs", "_law_mine"] []
  gG : mg "_law_friends" = some (.ref fG)
  fL : Addr
  dL : FuncData
  FL : Fun K "_law_let" "_law_let" sLet fL dL
  bL : Binds K dL ["_law_stack", "_law_pairs", "_law_mine"] []
  gL : mg "_law_let" = some (.ref fL)
  fV : Addr
  dV : FuncData
  FV : Fun K "_law_moved" "_law_moved" sMoved fV dV
  bV : Binds K dV ["_law_stack", "_law_mine"] []
  gV : mg "_law_moved" = some (.ref fV)
  fM : Addr
  dM : FuncData
  FM : Fun K "_law_may" "_law_may" sMay fM dM
  bM : Binds K dM ["_law_stack", "_law_pairs"] []
  gM : mg "_law_may" = some (.ref fM)
  fJ : Addr
  dJ : FuncData
  FJ : Fun K "all_above" "all_above" sAbv fJ dJ
  bJ : Binds K dJ ["heap", "friends", "book"] []
  gJ : mg "all_above" = some (.ref fJ)
  fK : Addr
  dK : FuncData
  FK : Fun K "on_top" "on_top" sTop fK dK
  bK : Binds K dK ["heap", "book"] []
  gK : mg "on_top" = some (.ref fK)
  fAb : Addr
  dAb : FuncData
  FAb : Fun K "refuse_absent" "refuse_absent" sAbs fAb dAb
  bAb : Binds K dAb ["heap", "books"] []
  gAb : mg "refuse_absent" = some (.ref fAb)
  fO : Addr
  dO : FuncData
  FO : Fun K "laid" "laid" sLaid fO dO
  bO : Binds K dO ["heap", "ties", "book"] []
  gO : mg "laid" = some (.ref fO)
  fC : Addr
  dC : FuncData
  FC : Fun K "may_go" "may_go" sMayGo fC dC
  bC : Binds K dC ["heap", "ties"] []
  gC : mg "may_go" = some (.ref fC)
  fD : Addr
  dD : FuncData
  FD : Fun K "_law_told" "_law_told" sTold fD dD
  bD : Binds K dD ["_law_stack", "_law_pairs", "_law_mine"] []
  gD : mg "_law_told" = some (.ref fD)
  fX : Addr
  dX : FuncData
  FX : Fun K "_law_strange" "_law_strange" sStrange fX dX
  bX : Binds K dX ["_law_stack"] []
  gX : mg "_law_strange" = some (.ref fX)
  fQ : Addr
  dQ : FuncData
  FQ : Fun K "_law_right" "_law_right" sRight fQ dQ
  bQ : Binds K dQ ["_law_box_here"] []
  gQ : mg "_law_right" = some (.ref fQ)
  m_len : mg "len" = none
  m_abs : mg "abs" = none
  m_int : mg "int" = none
  m_range : mg "range" = none
  m_sorted : mg "sorted" = none
  m_tuple : mg "tuple" = none
  m_list : mg "list" = none
  m_isinstance : mg "isinstance" = none
  m_bool : mg "bool" = none
  m_str : mg "str" = none
  m_all : mg "all" = none
  m_zip : mg "zip" = none
  m_repr : mg "repr" = none
  m_min : mg "min" = none
  m_set : mg "set" = none
  m_LookupError : mg "LookupError" = none
  m_RuntimeError : mg "RuntimeError" = none
  kC : KBinds K dC ["heap", "ties"] ["ties", "heap"] g21 g21
  kO : KBinds K dO ["heap", "ties", "book"] ["book", "ties", "heap"] g321 g321
  CN : Addr
  CM : Addr
  CB : Addr
  CU : Addr
  tN : XNb K mg CN
  tM : XMn K mg CM
  xB : mg "Barred" = some (.ref CB)
  xU : mg "Unlike" = some (.ref CU)
  kin : Kin K CB CM CN CU
section
variable {P : Program} {w : World} {K : PySem.W.Frag} {mg : Str → Option Value} {base : Heap}
def spRight : Sp := fun vs H Q _ => ∃ (p : Addr) (c : Int), vs = [.ref p] ∧ Bx H p c ∧ c < 2 ^ 37 ∧
  ∀ (H' : Hp) (c' : Int), Oth p H H' → Bx H' p c' → c ≤ c' → c' ≤ c + 1000 → Q (.bl true) H'
/-- a thing that is no book of the heap -/
structure Odd (K : PySem.W.Frag) (zs : List Str) (H : Hp) (v : V) (d : PyData) : Prop where
  dp : Dp K H v d
  shp : SeqAt.shaped d = true
  out : ∀ b, d = .str b → b ∉ zs
  lay : d.canLay0 = true
  dep : d.depth ≤ 1
  wid : wide d ≤ 1
theorem odd_at {zs : List Str} {H : Hp} {i : Nat} {v : V} {x : Str} {T U : Addr} (hx : x ∉ zs) (hxn : Nm x) (hzn : ∀ z ∈ zs, Nm z) (hT : SqT K H T [.str "a"]) (hU : SqL K H U [.str "a"])
    (h : ([.str x, .str "", .str "A", .non, .int 0, .bl true, .ref T, .ref U, .str "abcdefg"] : List V)[i]? = some v) : ∃ d, Odd K zs H v d := by
  have nn : ∀ {y : Str}, ¬ Nm y → y ∉ zs := fun hn hy => hn (hzn _ hy)
  match i, h with
  | 0, h =>
    cases h
    exact ⟨.str x, .str _, by unfold SeqAt.shaped; rw [show (PyData.str x).canLay0 = true from hxn.ok]; rfl, fun b e => (by cases e; exact hx), hxn.ok, by show 0 ≤ 1; decide, by show 0 ≤ 1; decide⟩
  | 1, h =>
    cases h
    exact ⟨.str "", .str _, by decide +kernel, fun b e => (by cases e; exact nn (fun z => absurd z.1 (by decide +kernel))), by decide +kernel, by decide, by decide⟩
  | 2, h =>
    cases h
    exact ⟨.str "A", .str _, by decide +kernel, fun b e => (by cases e; exact nn (fun z => absurd (z.2.2 65 (by decide +kernel)) (by decide))), by decide +kernel, by decide, by decide⟩
  | 3, h =>
    cases h
    exact ⟨.none, .non, by decide +kernel, fun b e => (nomatch e), by decide +kernel, by decide, by decide⟩
  | 4, h =>
    cases h
    exact ⟨.int 0, .int _, by decide +kernel, fun b e => (nomatch e), by decide +kernel, by decide, by decide⟩
  | 5, h =>
    cases h
    exact ⟨.bool true, .bl _, by decide +kernel, fun b e => (nomatch e), by decide +kernel, by decide, by decide⟩
  | 6, h =>
    cases h
    exact ⟨.tuple [.str "a"], .tup hT (.cons (.str _) .nil), by decide +kernel, fun b e => (nomatch e), by decide +kernel, by decide, by decide⟩
  | 7, h =>
    cases h
    exact ⟨.list [.str "a"], .lst hU (.cons (.str _) .nil), by decide +kernel, fun b e => (nomatch e), by decide +kernel, by decide, by decide⟩
  | 8, h =>
    cases h
    exact ⟨.str "abcdefg", .str _, by decide +kernel, fun b e => (by cases e; exact nn (fun z => absurd z.2.1 (by decide +kernel))), by decide +kernel, by decide, by decide⟩
  | n + 9, h => simp at h
theorem pair_lay {a b : PyData} (ha : a.canLay0 = true) (hb : b.canLay0 = true) : (PyData.list [a, b]).canLay0 = true := by
  show (a.canLay0 && (b.canLay0 && true)) = true
  rw [ha, hb]
  rfl
theorem pair_depth (a b : PyData) : (PyData.list [a, b]).depth = max a.depth b.depth + 1 := by
  show max a.depth (max b.depth 0) + 1 = _
  omega
theorem pair_wide (a b : PyData) : wide (PyData.list [a, b]) = max 2 (max (wide a) (wide b)) := by
  show max 2 (max (wide a) (max (wide b) 0)) = _
  omega
theorem strs_lay {xs : List Str} (h : ∀ z ∈ xs, Nm z) : (PyData.list (xs.map PyData.str)).canLay0 = true := canLay_strs h
theorem strs_dep (xs : List Str) : (PyData.list (xs.map PyData.str)).depth = 1 := by
  show PyData.depthAll (xs.map PyData.str) + 1 = 1
  rw [depth_strs]
theorem strs_wid (xs : List Str) : wide (PyData.list (xs.map PyData.str)) = xs.length := by
  show max (xs.map PyData.str).length (wideAll (xs.map PyData.str)) = _
  rw [wide_strs, List.length_map]
  omega
theorem tup_dep (xs : List Str) : (PyData.tuple (xs.map PyData.str)).depth = 1 := by
  show PyData.depthAll (xs.map PyData.str) + 1 = 1
  rw [depth_strs]
theorem tup_wid (xs : List Str) : wide (PyData.tuple (xs.map PyData.str)) = xs.length := by
  show max (xs.map PyData.str).length (wideAll (xs.map PyData.str)) = _
  rw [wide_strs, List.length_map]
  omega
theorem tup_lay {xs : List Str} (h : ∀ z ∈ xs, Nm z) : (PyData.tuple (xs.map PyData.str)).canLay0 = true := canLay_strs h
theorem ok_right (t : TX K mg) : FnG P w K mg base CX0 6 t.fQ t.dQ ["_law_box_here"] spRight := by
  have GH : FnOk P w K mg base CX0 3 t.fH t.dH ["_law_box_here", "_law_least", "_law_most"] spHeap := ok_heap t.FH t.FT t.FS t.FN t.bT t.bS t.bN t.gT t.gS t.gN t.m_range t.m_sorted t.m_len t.m_tuple
  have GY : FnOk P w K mg base CX0 3 t.fY t.dY ["_law_box_here", "_law_stack"] (spTies K) := ok_ties t.FY t.FT t.FS t.bT t.bS t.gT t.gS t.m_sorted t.m_int t.m_zip t.m_tuple t.m_set t.m_len
  have GP : FnOk P w K mg base CX0 2 t.fP t.dP ["_law_box_here", "_law_some"] (spPk K) := ok_Pk t.FP t.FT t.bT t.gT t.m_len
  have GM : FnOk P w K mg base CX0 3 t.fM t.dM ["_law_stack", "_law_pairs"] (spMay K) := ok_May t.FM t.FL t.bL t.gL t.FA t.bA t.gA t.FG t.bG t.gG t.m_all t.m_sorted
  have GO : FnOk P w K mg base CX0 2 t.fO t.dO ["heap", "ties", "book"] (spLaid K) := ok_Laid t.FO t.FJ t.bJ t.gJ t.FK t.bK t.gK t.FAb t.bAb t.gAb t.FF t.bF t.gF t.m_all t.m_tuple t.m_sorted
  have GC : FnOk P w K mg base CX0 2 t.fC t.dC ["heap", "ties"] (spMayGo K) := ok_MayGo t.FC t.FJ t.bJ t.gJ t.FF t.bF t.gF t.m_all t.m_sorted
  have GV : FnOk P w K mg base CX0 1 t.fV t.dV ["_law_stack", "_law_mine"] (spTop K) := ok_Moved t.FV t.m_tuple
  have GX : FnOk P w K mg base CX0 1 t.fX t.dX ["_law_stack"] spStrange := ok_Strange t.FX
  have GD : FnOk P w K mg base CX0 5 t.fD t.dD ["_law_stack", "_law_pairs", "_law_mine"] (spTold K) := ok_Told t.FD t.FO t.bO t.gO t.tN t.tM t.xB t.xU t.kin t.m_LookupError t.m_RuntimeError t.m_isinstance t.FJ t.bJ t.gJ t.FK t.bK t.gK t.FAb t.bAb t.gAb t.FF t.bF t.gF t.m_all t.m_tuple t.m_sorted
  have GE : FnOk P w K mg base CX0 4 t.fE t.dE ["_law_found", "_law_due"] (spSame K 3) := ok_same t.FE t.bE t.gE t.m_isinstance t.m_list t.m_tuple t.m_bool t.m_str t.m_int t.m_len t.m_all t.m_zip 3
  have GI : FnOk P w K mg base CX0 3 t.fI t.dI ["_law_matter"] (spListed K 2) := ok_listed t.FI t.bI t.gI t.m_isinstance t.m_list t.m_tuple 2
  refine okG t.FQ scRight (fun vs H Q E h => ?_) (fun cdv A outer s H vs Q E gd hr h => ?_)
  · obtain ⟨p, c, rfl, _⟩ := h
    rfl
  · obtain ⟨p, c, rfl, hB, hc, q⟩ := h
    have hBnn := hB.nn
    have r1 := hr.mono (show 1 ≤ 5 by decide)
    have r2 := hr.mono (show 2 ≤ 5 by decide)
    have r3 := hr.mono (show 3 ≤ 5 by decide)
    have r4 := hr.mono (show 4 ≤ 5 by decide)
    refine ⟨_, pss_cons (ps_set (i := 1) scRight.nd rfl (.inl rfl) (pe_call GH r3 (by rfl) t.gH t.FH.kp t.bH .nil pass0 (pa_cons (pv 0) (pa_cons pe_int (pa_cons pe_int pa_nil)))))
      (pss_cons (ps_set (i := 2) scRight.nd rfl (.inl rfl) (pe_call GY r3 (by rfl) t.gY t.FY.kp t.bY .nil pass0 (pa_cons (pv 0) (pa_cons (pv 1) pa_nil))))
      (pss_cons (ps_for PassesOwn.never rfl (pi_range1 (by rfl) t.m_range (pa_cons pe_int pa_nil)) (pg_name (i := 3) scRight.nd rfl (.inl rfl))
       (pss_cons (ps_par (i := 4) (j := 5) (by rfl) scRight.nd rfl rfl (by decide) rfl rfl (pa_cons (pe_call GM r3 (by rfl) t.gM t.FM.kp t.bM .nil pass0 (pa_cons (pv 1) (pa_cons (pv 2) pa_nil))) (pa_cons (pe_callB (call_reprD gd hr.units) (by rfl) t.m_repr (by decide +kernel) (pa_cons (pe_lst (pa_cons (pv 1) (pa_cons (pv 2) pa_nil))) pa_nil)) pa_nil)) (by rfl))
      (pss_cons (ps_set (i := 6) scRight.nd rfl (.inl rfl) (pe_call GC r2 (by rfl) t.gC t.FC.kp t.bC .nil pass0 (pa_cons (pv 1) (pa_cons (pv 2) pa_nil))))
      (pss_cons (ps_if (pt_not (pt_val (pe_call GE r4 (by rfl) t.gE t.FE.kp t.bE .nil pass0 (pa_cons (pe_lst (pa_cons (pv 6) (pa_cons (pe_callK0 GC r2 (by rfl) t.gC t.FC.kp t.kC pass0 (pk_cons (pe_call GI r3 (by rfl) t.gI t.FI.kp t.bI .nil pass0 (pa_cons (pv 2) pa_nil)) (pk_cons (pe_callTy call_list_of (by rfl) t.m_list (by decide +kernel) (pa_cons (pv 1) pa_nil)) pk_nil))) pa_nil))) (pa_cons (pe_lst (pa_cons (pv 4) (pa_cons (pv 4) pa_nil))) pa_nil))))) pss_never pss_nil)
      (pss_cons (ps_expr (pe_bm PySem.F.plainAttrs_list PySem.F.slot_list_append PySem.F.type_list_append mt_append (pv 6) (pa_cons pe_str pa_nil)))
      (pss_cons (ps_set (i := 7) scRight.nd rfl (.inl rfl) (pe_call GP r2 (by rfl) t.gP t.FP.kp t.bP .nil pass0 (pa_cons (pv 0) (pa_cons (pe_lst (pa_cons (pe_call GX r1 (by rfl) t.gX t.FX.kp t.bX .nil pass0 (pa_cons (pv 1) pa_nil)) (pa_cons pe_str (pa_cons pe_str (pa_cons pe_non (pa_cons pe_int (pa_cons pe_bl (pa_cons (pe_tup (pa_cons pe_str pa_nil)) (pa_cons (pe_lst (pa_cons pe_str pa_nil)) (pa_cons pe_str pa_nil)))))))))) pa_nil))))
      (pss_cons (ps_if (pt_not (pt_val (pe_call GE r4 (by rfl) t.gE t.FE.kp t.bE .nil pass0 (pa_cons (pe_lst (pa_cons (pe_call GC r2 (by rfl) t.gC t.FC.kp t.bC .nil pass0 (pa_cons (pv 1) (pa_cons (pv 2) pa_nil))) (pa_cons (pe_call GD hr (by rfl) t.gD t.FD.kp t.bD .nil pass0 (pa_cons (pv 1) (pa_cons (pv 2) (pa_cons (pv 7) pa_nil)))) pa_nil))) (pa_cons (pe_lst (pa_cons (pv 4) (pa_cons (pe_lst (pa_cons pe_str (pa_cons (pv 7) pa_nil))) pa_nil))) pa_nil))))) pss_never pss_nil)
      (pss_cons (ps_set (i := 8) scRight.nd rfl (.inl rfl) (pe_call GP r2 (by rfl) t.gP t.FP.kp t.bP .nil pass0 (pa_cons (pv 0) (pa_cons (pe_callTy call_list_of (by rfl) t.m_list (by decide +kernel) (pa_cons (pv 1) pa_nil)) pa_nil))))
      (pss_cons (ps_set (i := 9) scRight.nd rfl (.inl rfl) (pe_ifExp (pt_cmpR (r := rIn K false) op_in_seq (pv 8) (pv 4) rfl) (pe_call GV r1 (by rfl) t.gV t.FV.kp t.bV .nil pass0 (pa_cons (pv 1) (pa_cons (pv 8) pa_nil))) (pe_lst (pa_cons pe_str (pa_cons (pv 8) pa_nil)))))
      (pss_cons (ps_if (pt_not (pt_val (pe_call GE r4 (by rfl) t.gE t.FE.kp t.bE .nil pass0 (pa_cons (pe_call GD hr (by rfl) t.gD t.FD.kp t.bD .nil pass0 (pa_cons (pv 1) (pa_cons (pv 2) (pa_cons (pv 8) pa_nil)))) (pa_cons (pv 9) pa_nil))))) pss_never pss_nil)
      (pss_cons (ps_set (i := 8) scRight.nd rfl (.inl rfl) (pe_call GP r2 (by rfl) t.gP t.FP.kp t.bP .nil pass0 (pa_cons (pv 0) (pa_cons (pv 4) pa_nil))))
      (pss_cons (ps_set (i := 10) scRight.nd rfl (.inl rfl) (pe_callK0 GO r2 (by rfl) t.gO t.FO.kp t.kO pass0 (pk_cons (pv 8) (pk_cons (pe_call GI r3 (by rfl) t.gI t.FI.kp t.bI .nil pass0 (pa_cons (pv 2) pa_nil)) (pk_cons (pe_callTy call_list_of (by rfl) t.m_list (by decide +kernel) (pa_cons (pv 1) pa_nil)) pk_nil)))))
      (pss_cons (ps_if (PW.pt (pw_or (pt_not (pt_val (pe_call GE r4 (by rfl) t.gE t.FE.kp t.bE .nil pass0 (pa_cons (pv 10) (pa_cons (pe_call GV r1 (by rfl) t.gV t.FV.kp t.bV .nil pass0 (pa_cons (pv 1) (pa_cons (pv 8) pa_nil))) pa_nil))))) (pw_or1 (pt_cmpR op_ne (pe_callB (call_reprD gd hr.units) (by rfl) t.m_repr (by decide +kernel) (pa_cons (pe_lst (pa_cons (pv 1) (pa_cons (pv 2) pa_nil))) pa_nil)) (pv 5) (nomark _))))) pss_never pss_nil)
      (pss_one (ps_set (i := 1) scRight.nd rfl (.inl rfl) (pv 10))))))))))))))))
      (pss_one (ps_ret pe_bl)))), ?_⟩
    refine ⟨.ref p, rfl, p, c, 1, 12, rfl, hB, by omega, by decide, by decide, fun H1 t1 zs c1 nt1 ho1 htp hz1 hz12 hznd hznm hb1 hc1 hc2 => ?_⟩
    have nt1p : t1 ≠ p := htp.ne hb1
    refine ⟨.ref p, rfl, .ref t1, rfl, p, t1, c1, zs, rfl, hb1, by omega, .inr htp.sq, nt1p, hznd, hz12, fun H2 r L c2 nr ho2 hT hb2 hc3 hc4 => ?_⟩
    have htp2 : Tp H2 t1 (zs.map V.str) := htp.oth ho2 nt1p
    have hO2 := ho1.trans ho2
    have hne : zs ≠ [] := fun e => by
      rw [e] at hz1
      exact absurd hz1 (by decide)
    have hok : ∀ p ∈ L, OkP zs p := fun p hp => (hT.2.1 p hp).2
    have hfew := hT.few hz12
    have hLl : L.length ≤ 144 := by rw [List.length_map] at hfew; exact hfew
    have hcl := hT.closed
    have hqs : ∀ {ys : List Str}, ys.Perm zs → ∀ q ∈ L.map prOf, q.2 ∈ ys ∧ q.1 ≠ q.2 := fun pm q hq => ⟨pm.mem_iff.mpr (hcl q hq).1, (hcl q hq).2.1⟩
    refine ⟨30, rfl, by decide, by decide, for_range (lo := 0) (n := 30) (fun i σ Hx => ∃ (y3 y4 y5 y6 y7 y8 y9 y10 : Option V) (h : Addr) (ys : List Str) (cx : Int), σ = [some (.ref p), some (.ref h), some (.ref r), y3, y4, y5, y6, y7, y8, y9, y10] ∧ Oth p H2 Hx ∧ Tp Hx h (ys.map V.str) ∧ ys.Perm zs ∧ Bx Hx p cx ∧ c2 ≤ cx ∧ cx ≤ c2 + 3 * i) ⟨_, _, _, _, _, _, _, _, t1, zs, c2, rfl, Oth.refl _ _, htp2, .refl _, hb2, by omega, by omega⟩ ?_ ?_⟩
    · rintro i σ Hx hi ⟨y3, y4, y5, y6, y7, y8, y9, y10, h, ys, cx, rfl, ho, hh, pm, hbx, hx1, hx2⟩
      have ynd := pm.nodup_iff.mpr hznd
      have ynm : ∀ z ∈ ys, Nm z := fun z hz => hznm z (pm.mem_iff.mp hz)
      have yl : ys.length ≤ 12 := by rw [pm.length_eq]; exact hz12
      have hTx : Ties zs Hx r L := hT.oth ho hb2
      have yne : ys ≠ [] := fun e => hne (by rw [e] at pm; exact pm.symm.eq_nil)
      have hsome := may_some ynd (hqs pm) yne
      have hmany : ((srt ys).filter (lets (L.map prOf) ys)).length ≤ 12 := by
        have h1 := List.length_filter_le (lets (L.map prOf) ys) (srt ys)
        rw [srt_len] at h1
        omega
      have dnm : ∀ z ∈ (srt ys).filter (lets (L.map prOf) ys), Nm z := fun z hz => ynm z ((srt_perm _).mem_iff.mp (List.mem_filter.mp hz).1)
      have dmem : ∀ {b : Str}, b ∈ (srt ys).filter (lets (L.map prOf) ys) ↔ b ∈ ys ∧ lets (L.map prOf) ys b = true := fun {b} => by
        rw [List.mem_filter, (srt_perm ys).mem_iff]
      have hrep : ∀ {Hy : Hp} {A : Addr}, Tp Hy h (ys.map V.str) → Ties zs Hy r L → Hy A = some (.lst [.ref h, .ref r]) → Dp K Hy (.ref A) (dHT ys L) := fun a b hA => .lst (.inl (.inl hA)) (.cons (.tup a.sq (dp_strs ys)) (.cons b.dp .nil))
      have hfits := ht_fits (L := L) ynm hznm hok (show ys.length ≤ 1000 by omega) (show L.length ≤ 1000 by omega)
      have htd : (dTies L).depth ≤ 2 := ties_depth L
      have htw : wide (dTies L) ≤ 100000 := ties_wide hok (by omega)
      -- due, before
      refine ⟨.ref h, rfl, .ref r, rfl, h, r, ys, _, rfl, .inr hh, hTx.pq, fun q hq => (hqs pm q hq).1, by omega, by omega, fun H5 m s5 nm hm => ?_⟩
      refine ⟨.ref h, rfl, .ref r, rfl, (by decide : (2 : Nat) ≤ sizeLine), fun A1 nA1 => ?_⟩
      have s6 : Same Hx (upd H5 A1 (.lst [.ref h, .ref r])) := s5.trans (same_upd nA1)
      have hm6 := same_upd (o := .lst [.ref h, .ref r]) nA1 _ _ hm
      refine ⟨A1, dHT ys L, rfl, hrep (hh.same s6) (hTx.same s6) upd_same, ht_show _ _, ht_nodict _ _, ht_depth _ _, hfits, _, _, rfl, ?_⟩
      generalize (upd H5 A1 (.lst [.ref h, .ref r])) = H6 at *
      generalize hdue : (srt ys).filter (lets (L.map prOf) ys) = due at *
      have hgo : srt (ys.filter (lets (L.map prOf) ys)) = due := by rw [srt_filter, hdue]
      have dL : ∀ {Hy : Hp} {a : Addr}, Hy a = some (.lst (due.map V.str)) → Dp K Hy (.ref a) (.list (due.map PyData.str)) := fun ha => .lst (.inl (.inl ha)) (dp_strs _)
      -- told
      refine ⟨.ref h, rfl, .ref r, rfl, h, r, ys, _, rfl, .inr (hh.same s6), .inl (hTx.same s6).pq, by omega, by omega, fun H7 a1 s7 na1 ha1 => ?_⟩
      rw [hgo] at ha1
      have s7' := s6.trans s7
      refine ⟨.ref a1, rfl, .ref r, rfl, _, dTies L, rfl, (hTx.same s7').dp, htd, htw, fun Hi y si hy => ?_⟩
      obtain ⟨rl, rfl, nrl, hpq⟩ := nw_pq (K := K) hy hok
      have si' := s7'.trans si
      refine ⟨.ref h, rfl, h, _, rfl, .inr (hh.same si').sq, fun l1 nl1 => ?_⟩
      have s8 : Same Hi (upd Hi l1 (.lst (ys.map V.str))) := same_upd nl1
      have hl1 : (upd Hi l1 (.lst (ys.map V.str))) l1 = some (.lst (ys.map V.str)) := upd_same
      generalize (upd Hi l1 (.lst (ys.map V.str))) = H8 at *
      refine ⟨l1, rl, ys, _, rfl, .inl (.inl (.inl hl1)), .inr (hpq.same s8), by omega, by omega, fun H9 a2 s9 na2 ha2 => ?_⟩
      rw [hgo] at ha2
      refine ⟨(by decide : (2 : Nat) ≤ sizeLine), fun A2 nA2 => ⟨.ref m, rfl, .ref m, rfl, (by decide : (2 : Nat) ≤ sizeLine), fun A3 nA3 => ?_⟩⟩
      have s10 : Same H9 (upd (upd H9 A2 (.lst [.ref a1, .ref a2])) A3 (.lst [.ref m, .ref m])) := (same_upd nA2).trans (same_upd nA3)
      have hA2 : (upd (upd H9 A2 (.lst [.ref a1, .ref a2])) A3 (.lst [.ref m, .ref m])) A2 = some (.lst [.ref a1, .ref a2]) := same_upd nA3 _ _ upd_same
      have hA3 : (upd (upd H9 A2 (.lst [.ref a1, .ref a2])) A3 (.lst [.ref m, .ref m])) A3 = some (.lst [.ref m, .ref m]) := upd_same
      generalize (upd (upd H9 A2 (.lst [.ref a1, .ref a2])) A3 (.lst [.ref m, .ref m])) = H10 at *
      have sm10 : Same H6 H10 := (((s7.trans si).trans s8).trans s9).trans s10
      have s17 : Same H7 H10 := ((si.trans s8).trans s9).trans s10
      have hm10 := sm10 _ _ hm6
      have ha1' := s17 _ _ ha1
      refine ⟨_, _, .list [.list (due.map PyData.str), .list (due.map PyData.str)], rfl, .lst (.inl (.inl hA2)) (.cons (dL ha1') (.cons (dL (s10 _ _ ha2)) .nil)), .lst (.inl (.inl hA3)) (.cons (dL hm10) (.cons (dL hm10) .nil)), pair_lay (strs_lay dnm) (strs_lay dnm), by rw [pair_depth, strs_dep]; decide, by rw [pair_depth, strs_dep]; decide, by rw [pair_wide, strs_wid]; omega, fun H11 s11 => ⟨_, rfl, iteF ?_⟩⟩
      -- told lists changed
      have ha11 := s11 _ _ ha1'
      have hm11 := s11 _ _ hm10
      have nam : a1 ≠ m := fun e => by rw [e, hm6] at na1; exact nomatch na1
      have na1x : Hx a1 = none := s6.free na1
      have nmx : Hx m = none := nm
      refine ⟨.ref a1, rfl, .inl ⟨rfl, _, .inl (.inl ha11)⟩, a1, _, _, rfl, rfl, ha11, by rw [List.length_map, sizeLine_eq]; omega, ?_⟩
      have s12 : Same Hx (upd H11 a1 (.lst (due.map V.str ++ [.str "more"]))) := fun z o ez => by
        rw [upd_ne (ne_of_none ez na1x)]
        exact s11 _ _ (sm10 _ _ (s6 _ _ ez))
      have hm12 : (upd H11 a1 (.lst (due.map V.str ++ [.str "more"]))) m = some (.lst (due.map V.str)) := by
        rw [upd_ne nam.symm]
        exact hm11
      generalize (upd H11 a1 (.lst (due.map V.str ++ [.str "more"]))) = H12 at *
      clear hA2 hA3 s10 s9 s8 s17 sm10 s11 ha11 hm11 ha1' hm10 ha1 ha2 nA2 nA3 nl1 hl1 hpq hy nrl si si' s7 s7' nam na1 na2
      -- odd
      refine ⟨.ref p, rfl, .ref h, rfl, h, ys, rfl, hh.same s12, yl, fun H13 x s13 hx hxn => ?_⟩
      refine ⟨(by decide : (1 : Nat) ≤ sizeLine), fun T nT => ⟨(by decide : (1 : Nat) ≤ sizeLine), fun U nU => ⟨(by decide : (9 : Nat) ≤ sizeLine), fun A4 nA4 => ?_⟩⟩⟩
      have s14 : Same H13 (upd (upd (upd H13 T (.tup [.str "a"])) U (.lst [.str "a"])) A4 (.lst [.str x, .str "", .str "A", .non, .int 0, .bl true, .ref T, .ref U, .str "abcdefg"])) := ((same_upd nT).trans (same_upd nU)).trans (same_upd nA4)
      have hT14 : (upd (upd (upd H13 T (.tup [.str "a"])) U (.lst [.str "a"])) A4 (.lst [.str x, .str "", .str "A", .non, .int 0, .bl true, .ref T, .ref U, .str "abcdefg"])) T = some (.tup [.str "a"]) := same_upd nA4 _ _ (same_upd nU _ _ upd_same)
      have hU14 : (upd (upd (upd H13 T (.tup [.str "a"])) U (.lst [.str "a"])) A4 (.lst [.str x, .str "", .str "A", .non, .int 0, .bl true, .ref T, .ref U, .str "abcdefg"])) U = some (.lst [.str "a"]) := same_upd nA4 _ _ upd_same
      have hA14 : (upd (upd (upd H13 T (.tup [.str "a"])) U (.lst [.str "a"])) A4 (.lst [.str x, .str "", .str "A", .non, .int 0, .bl true, .ref T, .ref U, .str "abcdefg"])) A4 = some (.lst [.str x, .str "", .str "A", .non, .int 0, .bl true, .ref T, .ref U, .str "abcdefg"]) := upd_same
      generalize (upd (upd (upd H13 T (.tup [.str "a"])) U (.lst [.str "a"])) A4 (.lst [.str x, .str "", .str "A", .non, .int 0, .bl true, .ref T, .ref U, .str "abcdefg"])) = H14 at *
      have s14' : Same Hx H14 := (s12.trans s13).trans s14
      have hm14 := s14 _ _ (s13 _ _ hm12)
      have hb14 := hbx.same s14'
      have nep : ∀ {a : Addr} {o : HO}, H14 a = some o → (∀ u v w : Int, o ≠ .lst [.int u, .int v, .int w]) → a ≠ p := fun ha hn e => by
        obtain ⟨u, v, e2, _⟩ := hb14
        rw [e, e2] at ha
        exact hn _ _ _ (Option.some.inj ha).symm
      refine ⟨p, A4, cx, _, rfl, hb14, by omega, .inl (.inl hA14), nep hA14 (fun u v w z => nomatch z), (by decide : (0 : Nat) < 9), (by decide : (9 : Nat) ≤ 1000), fun j v c15 o hv hc5 hc6 hb15 => ?_⟩
      have o15 : Oth p Hx (upd H14 p o) := (Oth.of s14').trans Oth.put
      have p15 : Oth p H14 (upd H14 p o) := Oth.put
      have hT15 := p15 _ _ hT14 (nep hT14 (fun u v w z => nomatch z))
      have hU15 := p15 _ _ hU14 (nep hU14 (fun u v w z => nomatch z))
      have hm15 := p15 _ _ hm14 (bx_strs hb14 hm14)
      have hh15 := hh.oth o15 (hh.ne hbx)
      have hT15' := hTx.oth o15 hbx
      obtain ⟨d, hO⟩ := odd_at (K := K) (zs := ys) hx hxn ynm (.inl (.inl hT15)) (.inl (.inl hU15)) hv
      have ho15 := ho.trans o15
      generalize (upd H14 p o) = H15 at *
      clear hT14 hU14 hA14 s14 hm14 nT nU nA4 s13 hm12 s12 hb14 nep p15 hT15 hU15 s14'
      refine ⟨.ref h, rfl, .ref r, rfl, h, r, ys, _, rfl, .inr hh15, .inl hT15'.pq, by omega, by omega, fun H16 a1 s16 na1 ha1 => ?_⟩
      rw [hgo] at ha1
      refine ⟨.ref h, rfl, .ref r, rfl, v, rfl, h, r, v, d, ys, _, rfl, hh15.same s16, .inl (hT15'.same s16).pq, Dp.up s16 hO.dp, hO.shp, ynm, by omega, by omega, .inr ⟨hO.out, fun H17 l17 s17 hl17 => ?_⟩⟩
      refine ⟨(by decide : (2 : Nat) ≤ sizeLine), fun B1 nB1 => ⟨.ref m, rfl, v, rfl, (by decide : (2 : Nat) ≤ sizeLine), fun B2 nB2 => ⟨(by decide : (2 : Nat) ≤ sizeLine), fun B3 nB3 => ?_⟩⟩⟩
      have s18 : Same H17 (upd (upd (upd H17 B1 (.lst [.ref a1, .ref l17])) B2 (.lst [.str "none", v])) B3 (.lst [.ref m, .ref B2])) := ((same_upd nB1).trans (same_upd nB2)).trans (same_upd nB3)
      have hB1 : (upd (upd (upd H17 B1 (.lst [.ref a1, .ref l17])) B2 (.lst [.str "none", v])) B3 (.lst [.ref m, .ref B2])) B1 = some (.lst [.ref a1, .ref l17]) := same_upd nB3 _ _ (same_upd nB2 _ _ upd_same)
      have hB2 : (upd (upd (upd H17 B1 (.lst [.ref a1, .ref l17])) B2 (.lst [.str "none", v])) B3 (.lst [.ref m, .ref B2])) B2 = some (.lst [.str "none", v]) := same_upd nB3 _ _ upd_same
      have hB3 : (upd (upd (upd H17 B1 (.lst [.ref a1, .ref l17])) B2 (.lst [.str "none", v])) B3 (.lst [.ref m, .ref B2])) B3 = some (.lst [.ref m, .ref B2]) := upd_same
      generalize (upd (upd (upd H17 B1 (.lst [.ref a1, .ref l17])) B2 (.lst [.str "none", v])) B3 (.lst [.ref m, .ref B2])) = H18 at *
      have s158 : Same H15 H18 := (s16.trans s17).trans s18
      have hdv := Dp.up s158 hO.dp
      refine ⟨_, _, .list [.list (due.map PyData.str), .list [.str "none", d]], rfl, .lst (.inl (.inl hB1)) (.cons (dL (s18 _ _ (s17 _ _ ha1))) (.cons (.lst (.inl (.inl (s18 _ _ hl17))) (.cons (.str _) (.cons hdv .nil))) .nil)), .lst (.inl (.inl hB3)) (.cons (dL (s158 _ _ hm15)) (.cons (.lst (.inl (.inl hB2)) (.cons (.str _) (.cons hdv .nil))) .nil)),
        pair_lay (strs_lay dnm) (pair_lay (by decide +kernel) hO.lay), ?_, ?_, ?_, fun H19 s19 => ⟨_, rfl, iteF ?_⟩⟩
      · have := hO.dep
        rw [pair_depth, pair_depth, strs_dep, show (PyData.str "none").depth = 0 from rfl]
        omega
      · have := hO.dep
        rw [pair_depth, pair_depth, strs_dep, show (PyData.str "none").depth = 0 from rfl]
        omega
      · have := hO.wid
        rw [pair_wide, pair_wide, strs_wid, show wide (PyData.str "none") = 0 from rfl]
        omega
      have s1519 := s158.trans s19
      have hm19 := s1519 _ _ hm15
      have hh19 := hh15.same s1519
      have hT19 := hT15'.same s1519
      have hb19 := hb15.same s1519
      have ho19 := ho15.trans (Oth.of s1519)
      clear hB1 hB2 hB3 s18 s158 hdv nB1 nB2 nB3 s17 hl17 s16 ha1 na1 hO hv s19 s1519 hm15 hh15 hT15' hb15 ho15 o15
      -- a book, whether it may or not
      refine ⟨.ref p, rfl, .ref h, rfl, h, _, rfl, .inr hh19.sq, fun l20 nl20 => ?_⟩
      have s20 : Same H19 (upd H19 l20 (.lst (ys.map V.str))) := same_upd nl20
      have hl20 : (upd H19 l20 (.lst (ys.map V.str))) l20 = some (.lst (ys.map V.str)) := upd_same
      generalize (upd H19 l20 (.lst (ys.map V.str))) = H20 at *
      have hb20 := hb19.same s20
      refine ⟨p, l20, c15, _, rfl, hb20, by omega, .inl (.inl hl20), bx_strs hb20 hl20, by rw [List.length_map]; exact List.length_pos_iff.mpr yne, by rw [List.length_map]; omega, fun j2 v2 c21 o2 hv2 hc7 hc8 hb21 => ?_⟩
      rw [List.getElem?_map] at hv2
      obtain ⟨b, hb, rfl⟩ := Option.map_eq_some_iff.mp hv2
      have hbin : b ∈ ys := List.mem_of_getElem? hb
      have o21 : Oth p H19 (upd H20 p o2) := (Oth.of s20).trans Oth.put
      have hm21 := o21 _ _ hm19 (bx_strs hb19 hm19)
      have hh21 := hh19.oth o21 (hh19.ne hb19)
      have hT21 := hT19.oth o21 hb19
      have ho21 := ho19.trans o21
      generalize (upd H20 p o2) = H21 at *
      clear s20 hl20 hb20 nl20 hm19 hh19 hT19 hb19 ho19 o21
      have hbnm := ynm b hbin
      refine ⟨.str b, rfl, .ref m, rfl, m, _, rfl, .inl (.inl (.inl hm21)), rfl, strs_flat _, _, rfl, ?_⟩
      have eIn : (if false = true then !inV (.str b) (due.map V.str) else inV (.str b) (due.map V.str)) = decide (b ∈ due) := by
        rw [if_neg (by decide), inV_strs]
      rw [eIn]
      have eDue : decide (b ∈ due) = lets (L.map prOf) ys b := by
        rw [Bool.eq_iff_iff, decide_eq_true_eq, dmem]
        exact ⟨fun z => z.2, fun z => ⟨hbin, z⟩⟩
      rw [eDue]
      have hshb : SeqAt.shaped (.str b) = true := by
        unfold SeqAt.shaped
        rw [show (PyData.str b).canLay0 = true from hbnm.ok]
        rfl
      have tnm : ∀ {x : Str}, x ∈ ys → ∀ z ∈ onTop x ys, Nm z := fun hx z hz => ynm z ((onTop_perm ynd hx).mem_iff.mp hz)
      have tlen : ∀ {x : Str}, x ∈ ys → (onTop x ys).length ≤ 12 := fun hx => by rw [onTop_len ynd hx]; exact yl
      refine ite2 (fun hlet => ?_) (fun hlet => ?_)
      · refine ⟨.ref h, rfl, .str b, rfl, h, b, ys, rfl, .inr hh21, by omega, fun H22 tW s22 ntW htW => ?_⟩
        refine ⟨.ref h, rfl, .ref r, rfl, .str b, rfl, h, r, .str b, .str b, ys, _, rfl, hh21.same s22, .inl (hT21.same s22).pq, .str _, hshb, ynm, by omega, by omega, .inl ⟨b, rfl, hbin, .inl ⟨hlet, fun H23 t23 s23 ht23 => ?_⟩⟩⟩
        refine ⟨_, rfl, _, _, .tuple ((onTop b ys).map PyData.str), rfl, .tup ht23.sq (dp_strs _), .tup (htW.same s23).sq (dp_strs _), tup_lay (tnm hbin), by rw [tup_dep]; decide, by rw [tup_dep]; decide, by rw [tup_wid]; have := tlen hbin; omega, fun H24 s24 => ⟨_, rfl, iteF ?_⟩⟩
        have s2124 : Same H21 H24 := (s22.trans s23).trans s24
        have hm24 := s2124 _ _ hm21
        have hh24 := hh21.same s2124
        have hT24 := hT21.same s2124
        have hb24 := hb21.same s2124
        have ho24 := ho21.trans (Oth.of s2124)
        refine ⟨.ref p, rfl, .ref m, rfl, p, m, c21, _, rfl, hb24, by omega, .inl (.inl hm24), bx_strs hb24 hm24, by rw [List.length_map]; exact hsome, by rw [List.length_map]; omega, fun j3 v3 c25 o3 hv3 hc9 hc10 hb25 => ?_⟩
        rw [List.getElem?_map] at hv3
        obtain ⟨b2, hb2', rfl⟩ := Option.map_eq_some_iff.mp hv3
        obtain ⟨hb2in, hb2let⟩ := dmem.mp (List.mem_of_getElem? hb2')
        have o25 : Oth p H24 (upd H24 p o3) := Oth.put
        have hh25 := hh24.oth o25 (hh24.ne hb24)
        have hT25 := hT24.oth o25 hb24
        have ho25 := ho24.trans o25
        generalize (upd H24 p o3) = H25 at *
        refine ⟨.str b2, rfl, .ref r, rfl, _, dTies L, rfl, hT25.dp, htd, htw, fun H26 y26 s26 hy26 => ?_⟩
        obtain ⟨rl, rfl, nrl, hpq⟩ := nw_pq (K := K) hy26 hok
        refine ⟨.ref h, rfl, h, _, rfl, .inr (hh25.same s26).sq, fun l27 nl27 => ?_⟩
        have s27 : Same H26 (upd H26 l27 (.lst (ys.map V.str))) := same_upd nl27
        have hl27 : (upd H26 l27 (.lst (ys.map V.str))) l27 = some (.lst (ys.map V.str)) := upd_same
        generalize (upd H26 l27 (.lst (ys.map V.str))) = H27 at *
        refine ⟨l27, rl, b2, ys, _, rfl, .inl (.inl (.inl hl27)), .inr (hpq.same s27), hb2in, hb2let, by omega, by omega, fun H28 t28 s28 nt28 ht28 => ?_⟩
        have s2528 := (s26.trans s27).trans s28
        refine ⟨.ref t28, rfl, .ref h, rfl, .str b2, rfl, h, b2, ys, rfl, .inr (hh25.same s2528), by omega, fun H29 t29 s29 nt29 ht29 => ?_⟩
        refine ⟨_, _, .tuple ((onTop b2 ys).map PyData.str), rfl, .tup (ht28.same s29).sq (dp_strs _), .tup ht29.sq (dp_strs _), tup_lay (tnm hb2in), by rw [tup_dep]; decide, by rw [tup_dep]; decide, by rw [tup_wid]; have := tlen hb2in; omega, fun H30 s30 => ⟨_, rfl, iteF ?_⟩⟩
        have s2530 := (s2528.trans s29).trans s30
        refine ⟨.ref h, rfl, .ref r, rfl, (by decide : (2 : Nat) ≤ sizeLine), fun A5 nA5 => ?_⟩
        have s31 : Same H30 (upd H30 A5 (.lst [.ref h, .ref r])) := same_upd nA5
        refine ⟨A5, dHT ys L, rfl, hrep ((hh25.same s2530).same s31) ((hT25.same s2530).same s31) upd_same, ht_show _ _, ht_nodict _ _, ht_depth _ _, hfits, _, rfl, rfl, _, rfl, ?_⟩
        have eS : (!decide (V.str (dHT ys L).shown = V.str (dHT ys L).shown)) = false := by
          rw [decide_eq_true rfl]
          rfl
        rw [eS]
        refine iteF ?_
        exact ⟨.ref t28, rfl, _, _, _, _, _, _, _, _, t28, onTop b2 ys, c25, rfl, (ho25.trans (Oth.of s2530)).trans (Oth.of s31), ((ht28.same s29).same s30).same s31, (onTop_perm ynd hb2in).trans pm, (hb25.same s2530).same s31, by omega, by omega⟩
      · have hlet2 : lets (L.map prOf) ys b = false := by
          cases e : lets (L.map prOf) ys b with
          | true => exact absurd e hlet
          | false => rfl
        refine ⟨.str b, rfl, (by decide : (2 : Nat) ≤ sizeLine), fun W nW => ?_⟩
        have s22 : Same H21 (upd H21 W (.lst [.str "may not", .str b])) := same_upd nW
        have hW : (upd H21 W (.lst [.str "may not", .str b])) W = some (.lst [.str "may not", .str b]) := upd_same
        generalize (upd H21 W (.lst [.str "may not", .str b])) = H22 at *
        refine ⟨.ref h, rfl, .ref r, rfl, .str b, rfl, h, r, .str b, .str b, ys, _, rfl, hh21.same s22, .inl (hT21.same s22).pq, .str _, hshb, ynm, by omega, by omega, .inl ⟨b, rfl, hbin, .inr ⟨hlet2, fun H23 l23 s23 hl23 => ?_⟩⟩⟩
        refine ⟨_, rfl, _, _, .list [.str "may not", .str b], rfl, .lst (.inl (.inl hl23)) (.cons (.str _) (.cons (.str _) .nil)), .lst (.inl (.inl (s23 _ _ hW))) (.cons (.str _) (.cons (.str _) .nil)), pair_lay (by decide +kernel) hbnm.ok, by rw [pair_depth]; exact (by decide : (1 : Nat) ≤ 3), by rw [pair_depth]; exact (by decide : (1 : Nat) ≤ 60), by rw [pair_wide]; exact (by decide : (2 : Nat) ≤ 100000), fun H24 s24 => ⟨_, rfl, iteF ?_⟩⟩
        have s2124 : Same H21 H24 := (s22.trans s23).trans s24
        have hm24 := s2124 _ _ hm21
        have hh24 := hh21.same s2124
        have hT24 := hT21.same s2124
        have hb24 := hb21.same s2124
        have ho24 := ho21.trans (Oth.of s2124)
        refine ⟨.ref p, rfl, .ref m, rfl, p, m, c21, _, rfl, hb24, by omega, .inl (.inl hm24), bx_strs hb24 hm24, by rw [List.length_map]; exact hsome, by rw [List.length_map]; omega, fun j3 v3 c25 o3 hv3 hc9 hc10 hb25 => ?_⟩
        rw [List.getElem?_map] at hv3
        obtain ⟨b2, hb2', rfl⟩ := Option.map_eq_some_iff.mp hv3
        obtain ⟨hb2in, hb2let⟩ := dmem.mp (List.mem_of_getElem? hb2')
        have o25 : Oth p H24 (upd H24 p o3) := Oth.put
        have hh25 := hh24.oth o25 (hh24.ne hb24)
        have hT25 := hT24.oth o25 hb24
        have ho25 := ho24.trans o25
        generalize (upd H24 p o3) = H25 at *
        refine ⟨.str b2, rfl, .ref r, rfl, _, dTies L, rfl, hT25.dp, htd, htw, fun H26 y26 s26 hy26 => ?_⟩
        obtain ⟨rl, rfl, nrl, hpq⟩ := nw_pq (K := K) hy26 hok
        refine ⟨.ref h, rfl, h, _, rfl, .inr (hh25.same s26).sq, fun l27 nl27 => ?_⟩
        have s27 : Same H26 (upd H26 l27 (.lst (ys.map V.str))) := same_upd nl27
        have hl27 : (upd H26 l27 (.lst (ys.map V.str))) l27 = some (.lst (ys.map V.str)) := upd_same
        generalize (upd H26 l27 (.lst (ys.map V.str))) = H27 at *
        refine ⟨l27, rl, b2, ys, _, rfl, .inl (.inl (.inl hl27)), .inr (hpq.same s27), hb2in, hb2let, by omega, by omega, fun H28 t28 s28 nt28 ht28 => ?_⟩
        have s2528 := (s26.trans s27).trans s28
        refine ⟨.ref t28, rfl, .ref h, rfl, .str b2, rfl, h, b2, ys, rfl, .inr (hh25.same s2528), by omega, fun H29 t29 s29 nt29 ht29 => ?_⟩
        refine ⟨_, _, .tuple ((onTop b2 ys).map PyData.str), rfl, .tup (ht28.same s29).sq (dp_strs _), .tup ht29.sq (dp_strs _), tup_lay (tnm hb2in), by rw [tup_dep]; decide, by rw [tup_dep]; decide, by rw [tup_wid]; have := tlen hb2in; omega, fun H30 s30 => ⟨_, rfl, iteF ?_⟩⟩
        have s2530 := (s2528.trans s29).trans s30
        refine ⟨.ref h, rfl, .ref r, rfl, (by decide : (2 : Nat) ≤ sizeLine), fun A5 nA5 => ?_⟩
        have s31 : Same H30 (upd H30 A5 (.lst [.ref h, .ref r])) := same_upd nA5
        refine ⟨A5, dHT ys L, rfl, hrep ((hh25.same s2530).same s31) ((hT25.same s2530).same s31) upd_same, ht_show _ _, ht_nodict _ _, ht_depth _ _, hfits, _, rfl, rfl, _, rfl, ?_⟩
        have eS : (!decide (V.str (dHT ys L).shown = V.str (dHT ys L).shown)) = false := by
          rw [decide_eq_true rfl]
          rfl
        rw [eS]
        refine iteF ?_
        exact ⟨.ref t28, rfl, _, _, _, _, _, _, _, _, t28, onTop b2 ys, c25, rfl, (ho25.trans (Oth.of s2530)).trans (Oth.of s31), ((ht28.same s29).same s30).same s31, (onTop_perm ynd hb2in).trans pm, (hb25.same s2530).same s31, by omega, by omega⟩
    · rintro σ Hx ⟨y3, y4, y5, y6, y7, y8, y9, y10, h, ys, cx, rfl, ho, hh, pm, hbx, hx1, hx2⟩
      exact q _ cx (hO2.trans ho) hbx (by omega) (by omega)
end
end HF
namespace HF
open PySem PySem.Spec PyProof.Rows L2
abbrev nLaw : List Str := ["_law_script", "_law_boxes", "_law_k", "_law_box_here"]
theorem scLaw : FnScope nLaw ["_law_script"] (defScope sLaw) := ⟨rfl, rfl, rfl, by decide +kernel, rfl, by decide +kernel, by decide +kernel⟩
section
variable {P : Program} {w : World} {K : PySem.W.Frag} {mg : Str → Option Value} {base : Heap}
theorem ok_law {f : Addr} {fd : FuncData} (F : Fun K "law" "law" sLaw f fd) (t : TX K mg) : FnG P w K mg base CX0 7 f fd ["_law_script"] (spLaw K) := by
  have GB : FnOk P w K mg base CX0 1 t.fB t.dB ["_law_script", "_law_k"] (spBox K) := ok_box t.FB t.m_len t.m_abs t.m_int
  have GQ : FnG P w K mg base CX0 6 t.fQ t.dQ ["_law_box_here"] spRight := ok_right t
  refine okG F scLaw (fun vs H Q E h => ?_) (fun cdv A outer s H vs Q E gd hr h => ?_)
  · obtain ⟨a, ns, rfl, _⟩ := h
    rfl
  · obtain ⟨a, ns, rfl, hS, hlen, q⟩ := h
    have r1 := hr.mono (show 1 ≤ 6 by decide)
    refine ⟨_, pss_cons (ps_setLc (i := 1) (own := [("_law_k", 2)]) (g := gName 2) (tt := tYes) rfl scLaw.nd rfl rfl (sw_true rfl rfl rfl (by decide +kernel))
        (pi_range1 (by rfl) t.m_range (pa_cons (pe_op op_add pe_int (pe_callB (call_min2 rfl) (by rfl) t.m_min (by decide +kernel) (pa_cons pe_int (pa_cons (pe_callB call_len_seq (by rfl) t.m_len PySem.boot_len (pa_cons (pv 0) pa_nil)) pa_nil)))) pa_nil))
        (blkOk_by (N := nLaw) (sc := defScope sLaw) (by decide +kernel)) (fun _ _ _ _ _ => pg_name (i := 2) scLaw.nd rfl (Or.inl rfl)) (fun _ _ _ _ _ => pts_nil)
        (fun _ _ _ _ _ => pe_call GB r1 (by rfl) t.gB t.FB.kp t.bB .nil pass0 (pa_cons (pv 0) (pa_cons (pv 2) pa_nil))))
      (pss_one (ps_ret (pe_callB (cr_all rfl) (by rfl) t.m_all (by decide +kernel) (pa_cons (pe_lc (own := [("_law_box_here", 3)]) (g := gName 3) (tt := tYes) rfl scLaw.nd
        (pi_list (pe_op op_rep (pv 1) pe_int))
        (blkOk_by (N := nLaw) (sc := defScope sLaw) (by decide +kernel)) (fun _ _ _ _ _ => pg_name (i := 3) scLaw.nd rfl (Or.inl rfl)) (fun _ _ _ _ _ => pts_nil)
        (fun _ _ _ _ _ => pe_callG GQ gd hr (by rfl) t.gQ t.FQ.kp t.bQ pass0 (pa_cons (pv 3) pa_nil))) pa_nil)))), ?_⟩
    obtain ⟨n, hn1, hn4, hn⟩ : ∃ n : Nat, 1 ≤ n ∧ n ≤ 4 ∧ (1 + (if (((ns.map V.int).length : Nat) : Int) < 3 then (((ns.map V.int).length : Nat) : Int) else 3)) = (n : Int) := by
      by_cases h3 : (((ns.map V.int).length : Nat) : Int) < 3
      · rw [if_pos h3]
        exact ⟨1 + (ns.map V.int).length, by omega, by omega, by omega⟩
      · rw [if_neg h3]
        exact ⟨4, by omega, by omega, by omega⟩
    refine ⟨.ref a, rfl, a, _, rfl, .inl hS, 3, _, rfl, _, _, rfl, rfl, ?_⟩
    dsimp only
    rw [hn]
    refine ⟨n, rfl, by omega, by omega, fun D nD => lc_range (lo := 0) (n := n) (fun i H4 => ∃ bs : List Addr, bs.length = i ∧ H4 D = some (.lst (bs.map V.ref)) ∧ (∀ b ∈ bs, Bx H4 b 0) ∧ Same H H4) ?_ ?_ ?_⟩
    · exact ⟨[], rfl, upd_same, fun b hb => by simp at hb, same_upd nD⟩
    · rintro i H4 hi ⟨bs, hbl, hD, hbs, sm⟩
      refine ⟨rfl, .ref a, rfl, .int (0 + (i : Int)), rfl, a, ns, i, (by rw [Int.zero_add]; rfl), sm.seq hS, by omega, fun b o nb hb => ?_⟩
      have nDb : D ≠ b := ne_of_none hD nb
      have s5 : Same H4 (upd H4 b o) := same_upd nb
      refine ⟨_, s5 _ _ hD, ?_, bs ++ [b], by rw [List.length_append, hbl]; rfl, ?_, ?_, ?_⟩
      · rw [List.length_map, hbl, PySem.sizeLine_eq]
        omega
      · rw [upd_same, List.map_append]
        rfl
      · intro b2 hb2
        rcases List.mem_append.mp hb2 with h | h
        · have h5 := (hbs b2 h).same s5
          refine h5.ne fun e => ?_
          obtain ⟨x, y, e1, _⟩ := hbs b2 h
          rw [e, hD] at e1
          have e2 := Option.some.inj e1
          injection e2 with e3
          cases bs with
          | nil => simp at e3
          | cons b0 br => simp at e3
        · rw [List.mem_singleton.mp h]
          exact hb.ne nDb.symm
      · intro b2 o2 e
        rw [upd_ne (ne_of_none e nD)]
        exact s5 _ _ (sm _ _ e)
    · rintro H4 ⟨bs, hbl, hD, hbs, sm⟩
      refine ⟨.ref D, rfl, D, 2, _, rfl, rfl, hD, by decide, by decide, ?_, fun R nR => ?_⟩
      · rw [List.length_map, hbl, PySem.sizeLine_eq]
        show n * 2 ≤ _
        omega
      have hxs : (List.replicate (2 : Int).toNat (bs.map V.ref)).flatten.length = 2 * n := by
        rw [List.length_flatten, List.map_replicate, List.sum_replicate_nat, List.length_map, hbl]
        rfl
      have hmem : ∀ {i : Nat} {x : V}, (List.replicate (2 : Int).toNat (bs.map V.ref)).flatten[i]? = some x → ∃ b ∈ bs, x = .ref b := fun h => rep_mem h
      generalize (List.replicate (2 : Int).toNat (bs.map V.ref)).flatten = xs at *
      have hbR : ∀ b ∈ bs, b ≠ R := fun b hb => (hbs b hb).new nR
      refine ⟨R, rfl, ⟨_, .inl (.inl upd_same)⟩, fun D2 nD2 => ?_⟩
      have hb5 : ∀ b ∈ bs, Bx (upd H4 R (.lst xs)) b 0 := fun b hb => (hbs b hb).ne (hbR b hb)
      have hbD : ∀ b ∈ bs, b ≠ D2 := fun b hb => (hb5 b hb).new nD2
      have hRD : R ≠ D2 := ne_of_none upd_same nD2
      refine lc_list (xs := xs) (fun i H6 => H6 D2 = some (.lst ((List.replicate i true).map V.bl)) ∧ H6 R = some (.lst xs) ∧ ∀ b ∈ bs, ∃ c, Bx H6 b c ∧ c ≤ 1000 * i) ?_ ?_ ?_ ?_
      · refine ⟨upd_same, ?_, fun b hb => ⟨0, (hb5 b hb).ne (hbD b hb), by omega⟩⟩
        rw [upd_ne hRD, upd_same]
      · rintro i H6 hi ⟨h1, h2, h3⟩
        exact .inl (.inl h2)
      · rintro i x H6 hx ⟨h1, h2, h3⟩
        obtain ⟨b, hb, rfl⟩ := hmem hx
        obtain ⟨c, hB, hc⟩ := h3 b hb
        have hi : i < xs.length := (List.getElem?_eq_some_iff.mp hx).1
        refine ⟨rfl, .ref b, rfl, b, c, rfl, hB, by omega, fun H7 c7 ho7 hb7 hc7 hc8 => ?_⟩
        have hD7 := ho7 _ _ h1 (hbD b hb).symm
        refine ⟨_, hD7, ?_, ?_, ?_, fun b2 hb2 => ?_⟩
        · rw [List.length_map, List.length_replicate, PySem.sizeLine_eq]
          omega
        · rw [upd_same, List.replicate_succ', List.map_append]
          rfl
        · rw [upd_ne hRD]
          exact ho7 _ _ h2 (hbR b hb).symm
        · by_cases e : b2 = b
          · subst e
            exact ⟨c7, hb7.ne (hbD _ hb2), by omega⟩
          · obtain ⟨c2, hB2, hc2⟩ := h3 b2 hb2
            exact ⟨c2, (hB2.oth ho7 e).ne (hbD b2 hb2), by omega⟩
      · rintro H6 ⟨h1, h2, h3⟩
        refine ⟨D2, _, rfl, .inl (.inl h1), ?_⟩
        rw [trues (bs := List.replicate xs.length true) fun z hz => (List.mem_replicate.mp hz).2]
        exact q H6
end
end HF
namespace HF
open PySem PySem.Spec PyProof.Rows L2
theorem kb_kC {K : PySem.W.Frag} {f : Addr} {fd : FuncData} (F : Fun K "may_go" "may_go" sMayGo f fd) : KBinds K fd ["heap", "ties"] ["ties", "heap"] g21 g21 := by
  obtain ⟨oc, od, kV, doc, pm, an, cdv, ct, osl, rfl, lk, hcd⟩ := F.ex
  refine ⟨fun s us ws _ hl => ?_, fun h1 h2 => g21_rel h1 h2⟩
  match us, ws, hl with
  | [], [a, b], _ => exact .of_eq rfl
theorem kb_kO {K : PySem.W.Frag} {f : Addr} {fd : FuncData} (F : Fun K "laid" "laid" sLaid f fd) : KBinds K fd ["heap", "ties", "book"] ["book", "ties", "heap"] g321 g321 := by
  obtain ⟨oc, od, kV, doc, pm, an, cdv, ct, osl, rfl, lk, hcd⟩ := F.ex
  refine ⟨fun s us ws _ hl => ?_, fun h1 h2 => g321_rel h1 h2⟩
  match us, ws, hl with
  | [], [a, b, c], _ => exact .of_eq rfl
theorem all_mk {l : PySem.W.OpenLaw} {w : World} {K : PySem.W.Frag} {h : Heap} {mg : Str → Option Value} {fa : Addr} (X : K.In h) (G : h.Ns mainGlobals mg) (hfa : mg "law" = some (.ref fa))
    {fT : Addr} (aT : At K "_law_take" sTake fT)
    {fS : Addr} (aS : At K "_law_strewn" sStrewn fS)
    {fN : Addr} (aN : At K "_law_names" sNames fN)
    {fH : Addr} (aH : At K "_law_heap" sHeap fH)
    {fY : Addr} (aY : At K "_law_ties" sTies fY)
    {fF : Addr} (aF : At K "friends_of" sFriends fF)
    {fE : Addr} (aE : At K "_law_same" sSame fE)
    {fI : Addr} (aI : At K "_law_listed" sListed fI)
    {fB : Addr} (aB : At K "_law_box" sBox fB)
    {fP : Addr} (aP : At K "_law_pick" sPk fP)
    {fA : Addr} (aA : At K "_law_above" sAbove fA)
    {fG : Addr} (aG : At K "_law_friends" sLf fG)
    {fL : Addr} (aL : At K "_law_let" sLet fL)
    {fV : Addr} (aV : At K "_law_moved" sMoved fV)
    {fM : Addr} (aM : At K "_law_may" sMay fM)
    {fJ : Addr} (aJ : At K "all_above" sAbv fJ)
    {fK : Addr} (aK : At K "on_top" sTop fK)
    {fAb : Addr} (aAb : At K "refuse_absent" sAbs fAb)
    {fO : Addr} (aO : At K "laid" sLaid fO)
    {fC : Addr} (aC : At K "may_go" sMayGo fC)
    {fD : Addr} (aD : At K "_law_told" sTold fD)
    {fX : Addr} (aX : At K "_law_strange" sStrange fX)
    {fQ : Addr} (aQ : At K "_law_right" sRight fQ)
    {fLaw : Addr} (aLaw : At K "law" sLaw fLaw)
    {CN fNI : Addr} (aNX : AtX K "NoBook" "NoBook.__init__" sNb "book" "LookupError" "LookupError.__new__" "LookupError.__init__" bmLE CN fNI)
    {CM fMI : Addr} (aMX : AtX K "MayNot" "MayNot.__init__" sMn "book" "RuntimeError" "RuntimeError.__new__" "RuntimeError.__init__" bmRE CM fMI)
    {CB : Addr} (pB : PySem.W.nsIn K mainGlobals "Barred" = some (some (.ref CB)))
    {CU : Addr} (pU : PySem.W.nsIn K mainGlobals "Unlike" = some (some (.ref CU)))
    (xN : PySem.W.exmAny K (.ref CN) [.ref CB, .ref CM, .ref CN, .ref CU] = some true)
    (xM : PySem.W.exmAny K (.ref CM) [.ref CB, .ref CM, .ref CN, .ref CU] = some true)
    (nn : PySem.W.kitOne K (.ref CN) (.ref CN) = some true)
    (nl : PySem.W.kitOne K (.ref CN) (.type "LookupError") = some true)
    (nt : PySem.W.kitAny K (.ref CN) [.ref CM, .ref CU] = some false)
    (mn : PySem.W.kitOne K (.ref CM) (.ref CN) = some false)
    (mm : PySem.W.kitOne K (.ref CM) (.ref CM) = some true)
    (mr : PySem.W.kitOne K (.ref CM) (.type "RuntimeError") = some true)
    (mt : PySem.W.kitAny K (.ref CM) [.ref CB, .ref CN] = some false)
    (z_len : PySem.W.nsIn K mainGlobals "len" = some none)
    (z_abs : PySem.W.nsIn K mainGlobals "abs" = some none)
    (z_int : PySem.W.nsIn K mainGlobals "int" = some none)
    (z_range : PySem.W.nsIn K mainGlobals "range" = some none)
    (z_sorted : PySem.W.nsIn K mainGlobals "sorted" = some none)
    (z_tuple : PySem.W.nsIn K mainGlobals "tuple" = some none)
    (z_list : PySem.W.nsIn K mainGlobals "list" = some none)
    (z_isinstance : PySem.W.nsIn K mainGlobals "isinstance" = some none)
    (z_bool : PySem.W.nsIn K mainGlobals "bool" = some none)
    (z_str : PySem.W.nsIn K mainGlobals "str" = some none)
    (z_all : PySem.W.nsIn K mainGlobals "all" = some none)
    (z_zip : PySem.W.nsIn K mainGlobals "zip" = some none)
    (z_repr : PySem.W.nsIn K mainGlobals "repr" = some none)
    (z_min : PySem.W.nsIn K mainGlobals "min" = some none)
    (z_set : PySem.W.nsIn K mainGlobals "set" = some none)
    (z_LookupError : PySem.W.nsIn K mainGlobals "LookupError" = some none)
    (z_RuntimeError : PySem.W.nsIn K mainGlobals "RuntimeError" = some none)
    : ∃ fd : FuncData, (∀ (s : Shared) (v : Value), BindsTo s fd ⟨[v], []⟩ [("_law_script", v)]) ∧ ∀ base : Heap, K.In base → base.Ns mainGlobals mg → FnG l.prog w K mg base CX0 7 fa fd ["_law_script"] (spLaw K) := by
  have e := hfa.symm.trans (PySem.W.mg_of X G aLaw.ns)
  cases e
  obtain ⟨dT, FT, kT1, kT2, kT3, kT4, kT5, kT6, eT⟩ := aT.fun
  obtain ⟨dS, FS, kS1, kS2, kS3, kS4, kS5, kS6, eS⟩ := aS.fun
  obtain ⟨dN, FN, kN1, kN2, kN3, kN4, kN5, kN6, eN⟩ := aN.fun
  obtain ⟨dH, FH, kH1, kH2, kH3, kH4, kH5, kH6, eH⟩ := aH.fun
  obtain ⟨dY, FY, kY1, kY2, kY3, kY4, kY5, kY6, eY⟩ := aY.fun
  obtain ⟨dF, FF, kF1, kF2, kF3, kF4, kF5, kF6, eF⟩ := aF.fun
  obtain ⟨dE, FE, kE1, kE2, kE3, kE4, kE5, kE6, eE⟩ := aE.fun
  obtain ⟨dI, FI, kI1, kI2, kI3, kI4, kI5, kI6, eI⟩ := aI.fun
  obtain ⟨dB, FB, kB1, kB2, kB3, kB4, kB5, kB6, eB⟩ := aB.fun
  obtain ⟨dP, FP, kP1, kP2, kP3, kP4, kP5, kP6, eP⟩ := aP.fun
  obtain ⟨dA, FA, kA1, kA2, kA3, kA4, kA5, kA6, eA⟩ := aA.fun
  obtain ⟨dG, FG, kG1, kG2, kG3, kG4, kG5, kG6, eG⟩ := aG.fun
  obtain ⟨dL, FL, kL1, kL2, kL3, kL4, kL5, kL6, eL⟩ := aL.fun
  obtain ⟨dV, FV, kV1, kV2, kV3, kV4, kV5, kV6, eV⟩ := aV.fun
  obtain ⟨dM, FM, kM1, kM2, kM3, kM4, kM5, kM6, eM⟩ := aM.fun
  obtain ⟨dJ, FJ, kJ1, kJ2, kJ3, kJ4, kJ5, kJ6, eJ⟩ := aJ.fun
  obtain ⟨dK, FK, kK1, kK2, kK3, kK4, kK5, kK6, eK⟩ := aK.fun
  obtain ⟨dAb, FAb, kAb1, kAb2, kAb3, kAb4, kAb5, kAb6, eAb⟩ := aAb.fun
  obtain ⟨dO, FO, kO1, kO2, kO3, kO4, kO5, kO6, eO⟩ := aO.fun
  obtain ⟨dC, FC, kC1, kC2, kC3, kC4, kC5, kC6, eC⟩ := aC.fun
  obtain ⟨dD, FD, kD1, kD2, kD3, kD4, kD5, kD6, eD⟩ := aD.fun
  obtain ⟨dX, FX, kX1, kX2, kX3, kX4, kX5, kX6, eX⟩ := aX.fun
  obtain ⟨dQ, FQ, kQ1, kQ2, kQ3, kQ4, kQ5, kQ6, eQ⟩ := aQ.fun
  obtain ⟨dLaw, FLaw, kLaw1, kLaw2, kLaw3, kLaw4, kLaw5, kLaw6, eLaw⟩ := aLaw.fun
  obtain ⟨tN⟩ := aNX.xt X G PySem.F.excBase_LookupError PySem.F.store_LookupError (fun fd F => F.binds fun _ _ _ _ _ _ us hl => (match us, hl with | [_, _], _ => rfl))
  obtain ⟨tM⟩ := aMX.xt X G PySem.F.excBase_RuntimeError PySem.F.store_RuntimeError (fun fd F => F.binds fun _ _ _ _ _ _ us hl => (match us, hl with | [_, _], _ => rfl))
  refine ⟨dLaw, fun s v => by rw [eLaw]; exact .of_eq rfl, fun base _ _ => ok_law FLaw { fT := fT, dT := dT, FT := FT, bT := FT.binds fun _ _ _ _ _ _ us hl => (match us, hl with | [_, _], _ => rfl), gT := PySem.W.mg_of X G aT.ns, fS := fS, dS := dS, FS := FS, bS := FS.binds fun _ _ _ _ _ _ us hl => (match us, hl with | [_, _], _ => rfl), gS := PySem.W.mg_of X G aS.ns, fN := fN, dN := dN, FN := FN, bN := FN.binds fun _ _ _ _ _ _ us hl => (match us, hl with | [_, _], _ => rfl), gN := PySem.W.mg_of X G aN.ns, fH := fH, dH := dH, FH := FH, bH := FH.binds fun _ _ _ _ _ _ us hl => (match us, hl with | [_, _, _], _ => rfl), gH := PySem.W.mg_of X G aH.ns, fY := fY, dY := dY, FY := FY, bY := FY.binds fun _ _ _ _ _ _ us hl => (match us, hl with | [_, _], _ => rfl), gY := PySem.W.mg_of X G aY.ns, fF := fF, dF := dF, FF := FF, bF := FF.binds fun _ _ _ _ _ _ us hl => (match us, hl with | [_, _], _ => rfl), gF := PySem.W.mg_of X G aF.ns, fE := fE, dE := dE, FE := FE, bE := FE.binds fun _ _ _ _ _ _ us hl => (match us, hl with | [_, _], _ => rfl), gE := PySem.W.mg_of X G aE.ns, fI := fI, dI := dI, FI := FI, bI := FI.binds fun _ _ _ _ _ _ us hl => (match us, hl with | [_], _ => rfl), gI := PySem.W.mg_of X G aI.ns, fB := fB, dB := dB, FB := FB, bB := FB.binds fun _ _ _ _ _ _ us hl => (match us, hl with | [_, _], _ => rfl), gB := PySem.W.mg_of X G aB.ns, fP := fP, dP := dP, FP := FP, bP := FP.binds fun _ _ _ _ _ _ us hl => (match us, hl with | [_, _], _ => rfl), gP := PySem.W.mg_of X G aP.ns, fA := fA, dA := dA, FA := FA, bA := FA.binds fun _ _ _ _ _ _ us hl => (match us, hl with | [_, _, _], _ => rfl), gA := PySem.W.mg_of X G aA.ns, fG := fG, dG := dG, FG := FG, bG := FG.binds fun _ _ _ _ _ _ us hl => (match us, hl with | [_, _], _ => rfl), gG := PySem.W.mg_of X G aG.ns, fL := fL, dL := dL, FL := FL, bL := FL.binds fun _ _ _ _ _ _ us hl => (match us, hl with | [_, _, _], _ => rfl), gL := PySem.W.mg_of X G aL.ns, fV := fV, dV := dV, FV := FV, bV := FV.binds fun _ _ _ _ _ _ us hl => (match us, hl with | [_, _], _ => rfl), gV := PySem.W.mg_of X G aV.ns, fM := fM, dM := dM, FM := FM, bM := FM.binds fun _ _ _ _ _ _ us hl => (match us, hl with | [_, _], _ => rfl), gM := PySem.W.mg_of X G aM.ns, fJ := fJ, dJ := dJ, FJ := FJ, bJ := FJ.binds fun _ _ _ _ _ _ us hl => (match us, hl with | [_, _, _], _ => rfl), gJ := PySem.W.mg_of X G aJ.ns, fK := fK, dK := dK, FK := FK, bK := FK.binds fun _ _ _ _ _ _ us hl => (match us, hl with | [_, _], _ => rfl), gK := PySem.W.mg_of X G aK.ns, fAb := fAb, dAb := dAb, FAb := FAb, bAb := FAb.binds fun _ _ _ _ _ _ us hl => (match us, hl with | [_, _], _ => rfl), gAb := PySem.W.mg_of X G aAb.ns, fO := fO, dO := dO, FO := FO, bO := FO.binds fun _ _ _ _ _ _ us hl => (match us, hl with | [_, _, _], _ => rfl), gO := PySem.W.mg_of X G aO.ns, fC := fC, dC := dC, FC := FC, bC := FC.binds fun _ _ _ _ _ _ us hl => (match us, hl with | [_, _], _ => rfl), gC := PySem.W.mg_of X G aC.ns, fD := fD, dD := dD, FD := FD, bD := FD.binds fun _ _ _ _ _ _ us hl => (match us, hl with | [_, _, _], _ => rfl), gD := PySem.W.mg_of X G aD.ns, fX := fX, dX := dX, FX := FX, bX := FX.binds fun _ _ _ _ _ _ us hl => (match us, hl with | [_], _ => rfl), gX := PySem.W.mg_of X G aX.ns, fQ := fQ, dQ := dQ, FQ := FQ, bQ := FQ.binds fun _ _ _ _ _ _ us hl => (match us, hl with | [_], _ => rfl), gQ := PySem.W.mg_of X G aQ.ns, m_len := PySem.W.mg_none_of X G z_len, m_abs := PySem.W.mg_none_of X G z_abs, m_int := PySem.W.mg_none_of X G z_int, m_range := PySem.W.mg_none_of X G z_range, m_sorted := PySem.W.mg_none_of X G z_sorted, m_tuple := PySem.W.mg_none_of X G z_tuple, m_list := PySem.W.mg_none_of X G z_list, m_isinstance := PySem.W.mg_none_of X G z_isinstance, m_bool := PySem.W.mg_none_of X G z_bool, m_str := PySem.W.mg_none_of X G z_str, m_all := PySem.W.mg_none_of X G z_all, m_zip := PySem.W.mg_none_of X G z_zip, m_repr := PySem.W.mg_none_of X G z_repr, m_min := PySem.W.mg_none_of X G z_min, m_set := PySem.W.mg_none_of X G z_set, m_LookupError := PySem.W.mg_none_of X G z_LookupError, m_RuntimeError := PySem.W.mg_none_of X G z_RuntimeError, kC := kb_kC FC, kO := kb_kO FO, CN := CN, tN := tN, CM := CM, tM := tM, CB := CB, xB := PySem.W.mg_of X G pB, CU := CU, xU := PySem.W.mg_of X G pU, kin := ⟨xN, xM, nn, nl, nt, mn, mm, mr, mt⟩ }⟩
end HF
open PySem PySem.W PyProof.Rows
set_option maxHeartbeats 0 in
theorem PySem.Challenge.cw_heapfriends_k03_goings_one_by_one_holds : PySem.Challenge.rw_heapfriends_k03_goings_one_by_one.Holds := by
  w_on; o_law; k_head; (case hw => w_witness2)
  k_fill
  refine HF.walkG (l := PySem.Challenge.rw_heapfriends_k03_goings_one_by_one) (n := 63) (k := 7) (x := "_law_script") (sp := HF.spLaw) rfl (by decide) rfl ⟨rfl, by decide, by decide⟩ (fun w h Y => PySem.W.kIn_of Y) ?F (fun K H a ns hl _ hS => ⟨a, ns, rfl, hS, hl, fun _ => rfl⟩)
  case F =>
    intro w mg fa h KX G hmg
    refine' HF.all_mk KX G hmg (HF.at_mk ?nT ?lT ?cT ?kT) (HF.at_mk ?nS ?lS ?cS ?kS) (HF.at_mk ?nN ?lN ?cN ?kN) (HF.at_mk ?nH ?lH ?cH ?kH) (HF.at_mk ?nY ?lY ?cY ?kY) (HF.at_mk ?nF ?lF ?cF ?kF) (HF.at_mk ?nE ?lE ?cE ?kE) (HF.at_mk ?nI ?lI ?cI ?kI) (HF.at_mk ?nB ?lB ?cB ?kB) (HF.at_mk ?nP ?lP ?cP ?kP) (HF.at_mk ?nA ?lA ?cA ?kA) (HF.at_mk ?nG ?lG ?cG ?kG) (HF.at_mk ?nL ?lL ?cL ?kL) (HF.at_mk ?nV ?lV ?cV ?kV) (HF.at_mk ?nM ?lM ?cM ?kM) (HF.at_mk ?nJ ?lJ ?cJ ?kJ) (HF.at_mk ?nK ?lK ?cK ?kK) (HF.at_mk ?nAb ?lAb ?cAb ?kAb) (HF.at_mk ?nO ?lO ?cO ?kO) (HF.at_mk ?nC ?lC ?cC ?kC) (HF.at_mk ?nD ?lD ?cD ?kD) (HF.at_mk ?nX ?lX ?cX ?kX) (HF.at_mk ?nQ ?lQ ?cQ ?kQ) (HF.at_mk ?nLaw ?lLaw ?cLaw ?kLaw) (HF.atx_mk ?xNns ?xNiC ?xNtI ?xNl ?xNc ?xNkp ?xNini ?xNover ?xNhdi ?xNsa ?xNexC ?xNtyC ?xNkC ?xNcl ?xNga ?xNgg ?xNca ?xNsg ?xNtk ?xNob ?xNno ?xNvV) (HF.atx_mk ?xMns ?xMiC ?xMtI ?xMl ?xMc ?xMkp ?xMini ?xMover ?xMhdi ?xMsa ?xMexC ?xMtyC ?xMkC ?xMcl ?xMga ?xMgg ?xMca ?xMsg ?xMtk ?xMob ?xMno ?xMvV) ?pB ?pU ?exN ?exM ?enn ?enl ?ent ?emn ?emm ?emr ?emt ?zlen ?zabs ?zint ?zrange ?zsorted ?ztuple ?zlist ?zisinstance ?zbool ?zstr ?zall ?zzip ?zrepr ?zmin ?zset ?zLookupError ?zRuntimeError
    (case nT => k_is); (case lT => k_is); (case cT => k_is); (case kT => k_is)
    (case nS => k_is); (case lS => k_is); (case cS => k_is); (case kS => k_is)
    (case nN => k_is); (case lN => k_is); (case cN => k_is); (case kN => k_is)
    (case nH => k_is); (case lH => k_is); (case cH => k_is); (case kH => k_is)
    (case nY => k_is); (case lY => k_is); (case cY => k_is); (case kY => k_is)
    (case nF => k_is); (case lF => k_is); (case cF => k_is); (case kF => k_is)
    (case nE => k_is); (case lE => k_is); (case cE => k_is); (case kE => k_is)
    (case nI => k_is); (case lI => k_is); (case cI => k_is); (case kI => k_is)
    (case nB => k_is); (case lB => k_is); (case cB => k_is); (case kB => k_is)
    (case nP => k_is); (case lP => k_is); (case cP => k_is); (case kP => k_is)
    (case nA => k_is); (case lA => k_is); (case cA => k_is); (case kA => k_is)
    (case nG => k_is); (case lG => k_is); (case cG => k_is); (case kG => k_is)
    (case nL => k_is); (case lL => k_is); (case cL => k_is); (case kL => k_is)
    (case nV => k_is); (case lV => k_is); (case cV => k_is); (case kV => k_is)
    (case nM => k_is); (case lM => k_is); (case cM => k_is); (case kM => k_is)
    (case nJ => k_is); (case lJ => k_is); (case cJ => k_is); (case kJ => k_is)
    (case nK => k_is); (case lK => k_is); (case cK => k_is); (case kK => k_is)
    (case nAb => k_is); (case lAb => k_is); (case cAb => k_is); (case kAb => k_is)
    (case nO => k_is); (case lO => k_is); (case cO => k_is); (case kO => k_is)
    (case nC => k_is); (case lC => k_is); (case cC => k_is); (case kC => k_is)
    (case nD => k_is); (case lD => k_is); (case cD => k_is); (case kD => k_is)
    (case nX => k_is); (case lX => k_is); (case cX => k_is); (case kX => k_is)
    (case nQ => k_is); (case lQ => k_is); (case cQ => k_is); (case kQ => k_is)
    (case nLaw => k_is); (case lLaw => k_is); (case cLaw => k_is); (case kLaw => k_is)
    (case xNns => k_is); (case xNiC => k_is); (case xNtI => k_is); (case xNl => k_is); (case xNc => k_is); (case xNkp => k_is); (case xNini => kx_is); (case xNover => kx_is); (case xNhdi => k_is); (case xNsa => k_is); (case xNexC => k_is); (case xNtyC => k_is); (case xNkC => k_is); (case xNcl => k_is); (case xNga => k_is); (case xNgg => k_is); (case xNca => k_is); (case xNsg => k_is); (case xNtk => k_is); (case xNob => k_is); (case xNno => k_is); (case xNvV => k_is)
    (case xMns => k_is); (case xMiC => k_is); (case xMtI => k_is); (case xMl => k_is); (case xMc => k_is); (case xMkp => k_is); (case xMini => kx_is); (case xMover => kx_is); (case xMhdi => k_is); (case xMsa => k_is); (case xMexC => k_is); (case xMtyC => k_is); (case xMkC => k_is); (case xMcl => k_is); (case xMga => k_is); (case xMgg => k_is); (case xMca => k_is); (case xMsg => k_is); (case xMtk => k_is); (case xMob => k_is); (case xMno => k_is); (case xMvV => k_is)
    (case pB => k_is)
    (case pU => k_is)
    (case exN => kts_exm)
    (case exM => kts_exm)
    (case enn => kit_is)
    (case enl => kit_is)
    (case ent => kit_is)
    (case emn => kit_is)
    (case emm => kit_is)
    (case emr => kit_is)
    (case emt => kit_is)
    (case zlen => k_is)
    (case zabs => k_is)
    (case zint => k_is)
    (case zrange => k_is)
    (case zsorted => k_is)
    (case ztuple => k_is)
    (case zlist => k_is)
    (case zisinstance => k_is)
    (case zbool => k_is)
    (case zstr => k_is)
    (case zall => k_is)
    (case zzip => k_is)
    (case zrepr => k_is)
    (case zmin => k_is)
    (case zset => k_is)
    (case zLookupError => k_is)
    (case zRuntimeError => k_is)
