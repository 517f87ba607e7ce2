import PyProof.Rows.All
import Wide.All
import OpenK.AllK
import Wide.FinOn
import HandS.ForMost
import HandS.More
import HandS.Walk
import HandS.Codes
import HandS.Strs
import HandS.Style
import HandS.IsInst
import HandS.Zip
import PySem.Challenge.RW_heapfriends_k09_numbers_of_rings
set_option Elab.async false
set_option linter.all false
set_option maxRecDepth 100000
set_option maxHeartbeats 4000000
namespace HF
open PySem PySem.Spec PyProof.Rows L2
def topS (i : Nat) : Stmt := PySem.Challenge.pw_heapfriends_k09_numbers_of_rings.main.body.getD i (.Pass ⟨0, 0, 0, 0⟩)
abbrev sBox : Stmt := topS 6
abbrev sTake : Stmt := topS 7
theorem scBox : FnScope ["_law_script", "_law_k", "_law_cell"] ["_law_script", "_law_k"] (defScope sBox) := ⟨rfl, rfl, rfl, by decide +kernel, rfl, by decide +kernel, by decide +kernel⟩
theorem scTake : FnScope ["_law_box_here", "_law_bound", "_law_found", "_law_once"] ["_law_box_here", "_law_bound"] (defScope sTake) := ⟨rfl, rfl, rfl, by decide +kernel, rfl, by decide +kernel, by decide +kernel⟩
/-! ### a box of draws: what is left of the great number, the seed, how many draws -/
def Bx (H : Hp) (p : Addr) (c : Int) : Prop := ∃ a b : Int, H p = some (.lst [.int a, .int b, .int c]) ∧ 0 ≤ a ∧ 0 ≤ b ∧ b < 2 ^ 40 ∧ 0 ≤ c
/-- all but what stands at p stays -/
def Oth (p : Addr) (H H' : Hp) : Prop := ∀ b x, H b = some x → b ≠ p → H' b = some x
theorem Oth.refl (p : Addr) (H : Hp) : Oth p H H := fun _ _ h _ => h
theorem Oth.trans {p : Addr} {H H1 H2 : Hp} (a : Oth p H H1) (b : Oth p H1 H2) : Oth p H H2 := fun c o h n => b c o (a c o h n) n
theorem Oth.of {p : Addr} {H H1 : Hp} (a : Same H H1) : Oth p H H1 := fun c o h _ => a c o h
theorem Oth.put {p : Addr} {H : Hp} {o : HO} : Oth p H (upd H p o) := fun c x h n => by
  rw [upd_ne n]
  exact h
theorem Oth.seq {K : PySem.W.Frag} {p a : Addr} {H H' : Hp} {xs : List V} (e : Oth p H H') (n : a ≠ p) (h : SqL K H a xs) : SqL K H' a xs := by
  rcases h with (h | ⟨o, h⟩) | h
  · exact .inl (.inl (e _ _ h n))
  · exact .inl (.inr ⟨o, e _ _ h n⟩)
  · exact .inr h
theorem same_upd {H : Hp} {p : Addr} {o : HO} (h : H p = none) : Same H (upd H p o) := fun b x e => by
  rw [upd_ne (ne_of_none e h)]
  exact e
theorem sameT {K : PySem.W.Frag} {a : Addr} {H H' : Hp} {xs : List V} (e : Same H H') (h : SqT K H a xs) : SqT K H' a xs := by
  rcases h with (h | ⟨o, h⟩) | h
  · exact .inl (.inl (e _ _ h))
  · exact .inl (.inr ⟨o, e _ _ h⟩)
  · exact .inr h
theorem fmod_in (a : Int) {m : Int} (h : 0 < m) : 0 ≤ a.fmod m ∧ a.fmod m < m := by
  rw [Int.fmod_eq_emod_of_nonneg _ (by omega)]
  exact ⟨Int.emod_nonneg _ (by omega), Int.emod_lt_of_pos _ h⟩
theorem b01 (b : Bool) : -(2 ^ 64) < (if b = true then 1 else 0 : Int) ∧ (if b = true then 1 else 0 : Int) < 2 ^ 64 := by cases b <;> decide
theorem nz {n : Int} (h : 0 < n) : n ≠ 0 := by omega
theorem fdiv_nn {a m : Int} (h0 : 0 ≤ a) (h : 0 < m) : 0 ≤ a.fdiv m := by
  rw [Int.fdiv_eq_ediv_of_nonneg _ (by omega)]
  exact Int.ediv_nonneg h0 (by omega)
section
variable {P : Program} {w : World} {K : PySem.W.Frag} {mg : Str → Option Value} {base : Heap}
/-! ### a draw -/
def spTake : Sp := fun vs H Q _ => ∃ (p : Addr) (m c : Int), vs = [.ref p, .int m] ∧ Bx H p c ∧ c < 2 ^ 40 ∧ 0 < m ∧ m < 1000000 ∧
  ∀ (r c' : Int) (o : HO), 0 ≤ r → r < m → c ≤ c' → c' ≤ c + 1 → Bx (upd H p o) p c' → Q (.int r) (upd H p o)
theorem ok_take {f : Addr} {fd : FuncData} {k : Nat} (F : Fun K "_law_take" "_law_take" sTake f fd) : FnOk P w K mg base CX0 (k + 1) f fd ["_law_box_here", "_law_bound"] spTake := by
  refine F.ok scTake (fun vs H Q E h => ?_) (fun cdv A outer s H vs Q E hr h => ?_)
  · obtain ⟨p, m, c, rfl, _⟩ := h
    rfl
  · obtain ⟨p, m, c, rfl, ⟨a, b, hp, ha, hb, hb2, hc⟩, hc2, hm, hm2, q⟩ := h
    refine ⟨_, pss_cons (ps_if (pt_cmpR op_gt (pe_ix ix_list (pv 0) pe_int (fun _ _ => rfl)) pe_int (nomark _))
        (pss_cons (ps_set (i := 2) scTake.nd rfl (.inl rfl) (pe_op op_modN (pe_ix ix_list (pv 0) pe_int (fun _ _ => rfl)) (pv 1)))
        (pss_cons (ps_asg (pe_op op_fdivN (pe_ix ix_list (pv 0) pe_int (fun _ _ => rfl)) (pv 1)) (pg_sub (pv 0) pe_int set_list))
        (pss_one (ps_ret (pv 2))))) pss_nil)
      (pss_cons (ps_asg (pe_op op_add (pe_ix ix_list (pv 0) pe_int (fun _ _ => rfl)) pe_int) (pg_sub (pv 0) pe_int set_list))
      (pss_cons (ps_set (i := 3) scTake.nd rfl (.inl rfl) (pe_op op_modN (pe_op op_pow (pe_op op_add (pe_ix ix_list (pv 0) pe_int (fun _ _ => rfl)) (pe_op op_mul pe_int (pe_ix ix_list (pv 0) pe_int (fun _ _ => rfl)))) pe_int) pe_int))
      (pss_one (ps_ret (pe_op op_modN (pe_op op_fdivN (pe_op op_modN (pe_op op_add (pe_op op_mul (pv 3) (pe_op op_add (pe_op op_modN (pv 3) pe_int) pe_int)) (pe_op op_mul (pe_ix ix_list (pv 0) pe_int (fun _ _ => rfl)) pe_int)) pe_int) pe_int) (pv 1)))))), ?_⟩
    refine ⟨.ref p, rfl, p, _, 0, .int a, rfl, rfl, .inl (.inl hp), atI_nat (j := 0) rfl, a, 0, rfl, rfl, _, rfl, ite2 (fun e => ?_) (fun e => ?_)⟩
    · refine ⟨.ref p, rfl, p, _, 0, .int a, rfl, rfl, .inl (.inl hp), atI_nat (j := 0) rfl, .int m, rfl, a, m, rfl, rfl, by omega, ?_⟩
      refine ⟨.ref p, rfl, p, _, 0, .int a, rfl, rfl, .inl (.inl hp), atI_nat (j := 0) rfl, .int m, rfl, a, m, rfl, rfl, ⟨by omega, by omega⟩, .ref p, rfl, p, _, 0, 0, rfl, rfl, hp, rfl, ?_⟩
      exact ⟨_, rfl, q _ c _ (fmod_in a hm).1 (fmod_in a hm).2 (by omega) (by omega) ⟨_, _, upd_same, fdiv_nn ha hm, hb, hb2, hc⟩⟩
    · have hp2 : (upd H p (.lst [.int a, .int b, .int (c + 1)])) p = some (.lst [.int a, .int b, .int (c + 1)]) := upd_same
      have ho := fmod_in ((b + 39373 * (c + 1)) ^ 5) (m := 2147483647) (by decide)
      refine ⟨.ref p, rfl, p, _, 2, .int c, rfl, rfl, .inl (.inl hp), atI_nat (j := 2) rfl, c, 1, rfl, rfl, .ref p, rfl, p, _, 2, 2, rfl, rfl, hp, rfl, ?_⟩
      refine ⟨.ref p, rfl, p, _, 1, .int b, rfl, rfl, .inl (.inl hp2), atI_nat (j := 1) rfl, .ref p, rfl, p, _, 2, .int (c + 1), rfl, rfl, .inl (.inl hp2), atI_nat (j := 2) rfl,
        39373, c + 1, rfl, rfl, .inl ⟨by decide, by decide⟩, b, 39373 * (c + 1), rfl, rfl, b + 39373 * (c + 1), 5, rfl, rfl, ⟨by decide, by decide, by omega⟩, _, 2147483647, rfl, rfl, nz (by decide), ?_⟩
      refine ⟨_, rfl, _, rfl, _, 40009, rfl, rfl, nz (by decide), _, 7, rfl, rfl, _, _, rfl, rfl, .inl ⟨?_, ?_⟩, .ref p, rfl, p, _, 2, .int (c + 1), rfl, rfl, .inl (.inl hp2), atI_nat (j := 2) rfl, c + 1, 7919, rfl, rfl, .inr ⟨by decide, by decide⟩,
        _, _, rfl, rfl, _, 2147483629, rfl, rfl, nz (by decide), _, 64, rfl, rfl, ⟨by decide, by decide⟩, .int m, rfl, _, m, rfl, rfl, by omega, ?_⟩
      · exact Int.lt_of_lt_of_le (by decide) ho.1
      · exact Int.lt_trans ho.2 (by decide)
      · exact q _ (c + 1) _ (fmod_in _ hm).1 (fmod_in _ hm).2 (by omega) (by omega) ⟨_, _, upd_same, ha, hb, hb2, by omega⟩
/-! ### a box -/
def spBox (K : PySem.W.Frag) : Sp := fun vs H Q _ => ∃ (a : Addr) (ns : List Int) (k : Nat), vs = [.ref a, .int k] ∧ SqL K H a (ns.map V.int) ∧ k ≤ 63 ∧
  ∀ (p : Addr) (o : HO), H p = none → Bx (upd H p o) p 0 → Q (.ref p) (upd H p o)
theorem ok_box {f : Addr} {fd : FuncData} {k : Nat} (F : Fun K "_law_box" "_law_box" sBox f fd) (ml : mg "len" = none) (mA : mg "abs" = none) (mi : mg "int" = none) : FnOk P w K mg base CX0 (k + 1) f fd ["_law_script", "_law_k"] (spBox K) := by
  refine F.ok scBox (fun vs H Q E h => ?_) (fun cdv A outer s H vs Q E hr h => ?_)
  · obtain ⟨a, ns, k, rfl, _⟩ := h
    rfl
  · obtain ⟨a, ns, k, rfl, hS, hk, q⟩ := h
    refine ⟨_, pss_cons (ps_set (i := 2) scBox.nd rfl (.inl rfl) pe_int)
      (pss_cons (ps_if (pt_cmpR op_lt (pv 1) (pe_callB call_len_seq (by rfl) ml PySem.boot_len (pa_cons (pv 0) pa_nil)) (nomark _))
        (pss_one (ps_set (i := 2) scBox.nd rfl (.inl rfl) (pe_ix ix_list (pv 0) (pv 1) (fun _ _ => rfl)))) pss_nil)
      (pss_one (ps_ret (pe_lst (pa_cons (pe_op op_mul (pe_callB call_abs (by rfl) mA (by decide +kernel) (pa_cons (pv 2) pa_nil))
          (pe_callTy call_int1 (by rfl) mi (by decide +kernel) (pa_cons (pe_cmpR op_ge (pe_callB call_abs (by rfl) mA (by decide +kernel) (pa_cons (pv 2) pa_nil)) (pe_op op_pow pe_int pe_int) (nomark _)) pa_nil)))
        (pa_cons (pe_op op_add (pe_op op_add (pe_op op_modN (pv 2) pe_int) (pe_op op_mul pe_int (pv 1))) pe_int) (pa_cons pe_int pa_nil))))))), ?_⟩
    refine ⟨_, rfl, .ref a, rfl, a, _, rfl, .inl hS, _, _, rfl, rfl, _, rfl, ?_⟩
    have hz : (3 : Nat) ≤ sizeLine := by decide
    refine ite2 (fun e => ?_) (fun e => ?_)
    · have e1 : (k : Int) < ((ns.map V.int).length : Nat) := of_decide_eq_true e
      have hk2 : k < ns.length := by
        rw [List.length_map] at e1
        omega
      refine ⟨.ref a, rfl, .int k, rfl, a, _, k, .int ns[k], rfl, rfl, hS, atI_nat (j := k) (by rw [List.getElem?_map, List.getElem?_eq_getElem hk2]; rfl), ?_⟩
      have hm := fmod_in ns[k] (m := 2147483629) (by decide)
      refine ⟨_, rfl, ns[k], rfl, _, rfl, ns[k], rfl, 10, 18, rfl, rfl, ⟨by decide, by decide, by decide⟩, _, _, rfl, rfl, .inr ⟨_, rfl, _, _, rfl, rfl, .inr ⟨?_, ?_⟩, _, rfl, ns[k], 2147483629, rfl, rfl, nz (by decide), .int k, rfl, 6151, k, rfl, rfl, .inl ⟨by decide, by decide⟩, _, _, rfl, rfl, _, 29, rfl, rfl, hz, fun p hp => ?_⟩⟩
      · exact (b01 _).1
      · exact (b01 _).2
      · refine q p _ hp ⟨_, _, upd_same, ?_, ?_, ?_, by decide⟩
        · split <;> split <;> omega
        · omega
        · omega
    · have hm := fmod_in 0 (m := 2147483629) (by decide)
      refine ⟨_, rfl, 0, rfl, _, rfl, 0, rfl, 10, 18, rfl, rfl, ⟨by decide, by decide, by decide⟩, _, _, rfl, rfl, .inr ⟨_, rfl, _, _, rfl, rfl, .inr ⟨?_, ?_⟩, _, rfl, 0, 2147483629, rfl, rfl, nz (by decide), .int k, rfl, 6151, k, rfl, rfl, .inl ⟨by decide, by decide⟩, _, _, rfl, rfl, _, 29, rfl, rfl, hz, fun p hp => ?_⟩⟩
      · exact (b01 _).1
      · exact (b01 _).2
      · refine q p _ hp ⟨_, _, upd_same, ?_, ?_, ?_, by decide⟩
        · split <;> split <;> omega
        · omega
        · omega
end
end HF
namespace HF
open PySem PySem.Spec PyProof.Rows L2
abbrev sStrewn : Stmt := topS 9
theorem scStrewn : FnScope ["_law_box_here", "_law_some", "_law_found", "_law_part"] ["_law_box_here", "_law_some"] (defScope sStrewn) := ⟨rfl, rfl, rfl, by decide +kernel, rfl, by decide +kernel, by decide +kernel⟩
theorem Bx.ne {H : Hp} {p l : Addr} {c : Int} {o : HO} (h : Bx H p c) (n : p ≠ l) : Bx (upd H l o) p c := by
  obtain ⟨a, b, e, r⟩ := h
  exact ⟨a, b, by rw [upd_ne n]; exact e, r⟩
theorem Bx.new {H : Hp} {p l : Addr} {c : Int} (h : Bx H p c) (n : H l = none) : p ≠ l := by
  obtain ⟨a, b, e, r⟩ := h
  exact ne_of_none e n
theorem Bx.nn {H : Hp} {p : Addr} {c : Int} (h : Bx H p c) : 0 ≤ c := by
  obtain ⟨a, b, e, _, _, _, r⟩ := h
  exact r
theorem Oth.new {p l : Addr} {H H1 : Hp} {o : HO} (a : Oth p H H1) (n : H l = none) : Oth p H (upd H1 l o) := fun b x e np => by
  rw [upd_ne (ne_of_none e n)]
  exact a b x e np
def Sq (K : PySem.W.Frag) (H : Hp) (a : Addr) (xs : List V) : Prop := SqL K H a xs ∨ SqT K H a xs
theorem Oth.sqT {K : PySem.W.Frag} {p a : Addr} {H H' : Hp} {xs : List V} (e : Oth p H H') (n : a ≠ p) (h : SqT K H a xs) : SqT K H' a xs := by
  rcases h with (h | ⟨o, h⟩) | h
  · exact .inl (.inl (e _ _ h n))
  · exact .inl (.inr ⟨o, e _ _ h n⟩)
  · exact .inr h
theorem Oth.sq {K : PySem.W.Frag} {p a : Addr} {H H' : Hp} {xs : List V} (e : Oth p H H') (n : a ≠ p) (h : Sq K H a xs) : Sq K H' a xs := by
  rcases h with h | h
  · exact .inl (e.seq n h)
  · exact .inr (e.sqT n h)
theorem ins_perm {α : Type} (ys : List α) (x : α) (r : Nat) : (ys.take r ++ [x] ++ ys.drop r).Perm (ys ++ [x]) := by
  rw [List.append_assoc]
  refine (List.perm_append_comm_assoc _ _ _).trans ?_
  rw [List.take_append_drop]
  exact List.perm_append_comm
section
variable {P : Program} {w : World} {K : PySem.W.Frag} {mg : Str → Option Value} {base : Heap}
def spStrewn (K : PySem.W.Frag) : Sp := fun vs H Q _ => ∃ (p a : Addr) (c : Int) (xs : List V), vs = [.ref p, .ref a] ∧ Bx H p c ∧ c < 2 ^ 39 ∧ a ≠ p ∧ Sq K H a xs ∧ xs.length ≤ 1000 ∧
  ∀ (H' : Hp) (l : Addr) (ys : List V) (c' : Int), H l = none → Oth p H H' → H' l = some (.lst ys) → ys.Perm xs → Bx H' p c' → c ≤ c' → c' ≤ c + xs.length → Q (.ref l) H'
theorem ok_strewn {f fT : Addr} {fd fdT : FuncData} {k : Nat} (F : Fun K "_law_strewn" "_law_strewn" sStrewn f fd) (FT : Fun K "_law_take" "_law_take" sTake fT fdT) (bT : Binds K fdT ["_law_box_here", "_law_bound"] []) (gT : mg "_law_take" = some (.ref fT)) (ml : mg "len" = none) :
    FnOk P w K mg base CX0 (k + 2) f fd ["_law_box_here", "_law_some"] (spStrewn K) := by
  have GT : FnOk P w K mg base CX0 (k + 1) fT fdT ["_law_box_here", "_law_bound"] spTake := ok_take FT
  refine F.ok scStrewn (fun vs H Q E h => ?_) (fun cdv A outer s H vs Q E hr h => ?_)
  · obtain ⟨p, a, c, xs, rfl, _⟩ := h
    rfl
  · obtain ⟨p, a, c, xs, rfl, hB, hc, nap, hS, hlen, q⟩ := h
    have hBnn := hB.nn
    rcases hS with hS | hS
    · refine ⟨_, pss_cons (ps_set (i := 2) scStrewn.nd rfl (.inl rfl) (pe_lst pa_nil))
        (pss_cons (ps_for PassesOwn.never rfl (pi_list (pv 1)) (pg_name (i := 3) scStrewn.nd rfl (.inl rfl))
          (pss_one (ps_expr (pe_bm PySem.F.plainAttrs_list PySem.F.slot_list_insert PySem.F.type_list_insert mt_insert (pv 2)
            (pa_cons (pe_call GT hr (by rfl) gT FT.kp bT .nil pass0 (pa_cons (pv 0) (pa_cons (pe_op op_add (pe_callB call_len_seq (by rfl) ml PySem.boot_len (pa_cons (pv 2) pa_nil)) pe_int) pa_nil))) (pa_cons (pv 3) pa_nil))))))
        (pss_one (ps_ret (pv 2)))), ?_⟩
      refine ⟨Nat.zero_le _, fun l nl => ?_⟩
      have npl : p ≠ l := hB.new nl
      refine ⟨.ref a, rfl, a, rfl, ⟨xs, (Same.seq (same_upd nl) hS)⟩, for_list (xs := xs) (fun i σ H3 => ∃ y3 ys c', σ = [some (.ref p), some (.ref a), some (.ref l), y3] ∧ ys.Perm (xs.take i) ∧ c ≤ c' ∧ c' ≤ c + i ∧ H3 l = some (.lst ys) ∧ Bx H3 p c' ∧ Oth p H H3) ?_ ?_ ?_ ?_⟩
      · exact ⟨none, [], c, rfl, by simp, by omega, by omega, upd_same, hB.ne npl, (Oth.refl p H).new nl⟩
      · rintro i σ H3 hi ⟨y3, ys, c', rfl, hpm, h1, h2, hl, hb, ho⟩
        exact ho.seq nap hS
      · rintro i x σ H3 hx ⟨y3, ys, c', rfl, hpm, h1, h2, hl, hb, ho⟩
        have hi : i < xs.length := by
          rcases Nat.lt_or_ge i xs.length with h | h
          · exact h
          · rw [List.getElem?_eq_none h] at hx
            cases hx
        have hyl : ys.length = i := by
          rw [hpm.length_eq, List.length_take]
          omega
        refine ⟨.ref l, rfl, .inl ⟨rfl, _, .inl (.inl hl)⟩, .ref p, rfl, .ref l, rfl, l, ys, rfl, .inl (.inl (.inl hl)), ys.length, 1, rfl, rfl, p, (ys.length : Int) + 1, c', rfl, hb, by omega, by omega, by omega, ?_⟩
        intro r c2 o hr0 hr1 hc0 hc1 hb2
        have hl2 : (upd H3 p o) l = some (.lst ys) := by
          rw [upd_ne npl.symm]
          exact hl
        refine ⟨x, rfl, l, ys, r, x, rfl, rfl, hl2, ?_, hr0, by omega, ?_⟩
        · rw [hyl, PySem.sizeLine_eq]
          omega
        · refine ⟨some x, _, c2, rfl, (ins_perm ys x r.toNat).trans ?_, by omega, by omega, upd_same, hb2.ne npl, (ho.trans Oth.put).new nl⟩
          rw [List.take_add_one, hx]
          exact hpm.append_right _
      · rintro σ H3 ⟨y3, ys, c', rfl, hpm, h1, h2, hl, hb, ho⟩
        rw [List.take_length] at hpm
        exact ⟨.ref l, rfl, q H3 l ys c' nl ho hl hpm hb h1 h2⟩
    · refine ⟨_, pss_cons (ps_set (i := 2) scStrewn.nd rfl (.inl rfl) (pe_lst pa_nil))
        (pss_cons (ps_for PassesOwn.never rfl (pi_tup (pv 1)) (pg_name (i := 3) scStrewn.nd rfl (.inl rfl))
          (pss_one (ps_expr (pe_bm PySem.F.plainAttrs_list PySem.F.slot_list_insert PySem.F.type_list_insert mt_insert (pv 2)
            (pa_cons (pe_call GT hr (by rfl) gT FT.kp bT .nil pass0 (pa_cons (pv 0) (pa_cons (pe_op op_add (pe_callB call_len_seq (by rfl) ml PySem.boot_len (pa_cons (pv 2) pa_nil)) pe_int) pa_nil))) (pa_cons (pv 3) pa_nil))))))
        (pss_one (ps_ret (pv 2)))), ?_⟩
      refine ⟨Nat.zero_le _, fun l nl => ?_⟩
      have npl : p ≠ l := hB.new nl
      refine ⟨.ref a, rfl, a, rfl, ⟨xs, (sameT (same_upd nl) hS)⟩, for_tup (xs := xs) (fun i σ H3 => ∃ y3 ys c', σ = [some (.ref p), some (.ref a), some (.ref l), y3] ∧ ys.Perm (xs.take i) ∧ c ≤ c' ∧ c' ≤ c + i ∧ H3 l = some (.lst ys) ∧ Bx H3 p c' ∧ Oth p H H3) ?_ ?_ ?_ ?_⟩
      · exact ⟨none, [], c, rfl, by simp, by omega, by omega, upd_same, hB.ne npl, (Oth.refl p H).new nl⟩
      · rintro i σ H3 hi ⟨y3, ys, c', rfl, hpm, h1, h2, hl, hb, ho⟩
        exact ho.sqT nap hS
      · rintro i x σ H3 hx ⟨y3, ys, c', rfl, hpm, h1, h2, hl, hb, ho⟩
        have hi : i < xs.length := by
          rcases Nat.lt_or_ge i xs.length with h | h
          · exact h
          · rw [List.getElem?_eq_none h] at hx
            cases hx
        have hyl : ys.length = i := by
          rw [hpm.length_eq, List.length_take]
          omega
        refine ⟨.ref l, rfl, .inl ⟨rfl, _, .inl (.inl hl)⟩, .ref p, rfl, .ref l, rfl, l, ys, rfl, .inl (.inl (.inl hl)), ys.length, 1, rfl, rfl, p, (ys.length : Int) + 1, c', rfl, hb, by omega, by omega, by omega, ?_⟩
        intro r c2 o hr0 hr1 hc0 hc1 hb2
        have hl2 : (upd H3 p o) l = some (.lst ys) := by
          rw [upd_ne npl.symm]
          exact hl
        refine ⟨x, rfl, l, ys, r, x, rfl, rfl, hl2, ?_, hr0, by omega, ?_⟩
        · rw [hyl, PySem.sizeLine_eq]
          omega
        · refine ⟨some x, _, c2, rfl, (ins_perm ys x r.toNat).trans ?_, by omega, by omega, upd_same, hb2.ne npl, (ho.trans Oth.put).new nl⟩
          rw [List.take_add_one, hx]
          exact hpm.append_right _
      · rintro σ H3 ⟨y3, ys, c', rfl, hpm, h1, h2, hl, hb, ho⟩
        rw [List.take_length] at hpm
        exact ⟨.ref l, rfl, q H3 l ys c' nl ho hl hpm hb h1 h2⟩
end
end HF
namespace HF
open PySem PySem.Spec PyProof.Rows L2
/-! ### names: texts of one to six letters -/
def Lt (l : List Nat) : Prop := ∀ c ∈ l, 97 ≤ c ∧ c ≤ 122
def Nm (z : Str) : Prop := 1 ≤ z.cps.toList.length ∧ z.cps.toList.length ≤ 6 ∧ Lt z.cps.toList
abbrev abc : Str := "abcdefghijklmnopqrstuvwxyz"
theorem abc_tl : abc.cps.toList = (List.range 26).map (97 + ·) := by decide +kernel
theorem abc_len : abc.length = 26 := by decide +kernel
theorem abc_at {r : Int} (h0 : 0 ≤ r) (h1 : r < 26) : ∃ c, atI abc.cps.toList r = some c ∧ 97 ≤ c ∧ c ≤ 122 := by
  obtain ⟨n, rfl⟩ := Int.eq_ofNat_of_zero_le h0
  have hn : n < 26 := by omega
  refine ⟨97 + n, atI_nat (j := n) ?_, by omega, by omega⟩
  rw [abc_tl, List.getElem?_map, List.getElem?_range hn]
  rfl
theorem cut5 (z : Str) : cutS z none (some 5) = ⟨(z.cps.toList.take 5).toArray⟩ := by
  unfold cutS
  rw [HT.sIx_none, show HT.sIx z.length z.length (some 5) = min 5 z.length from HT.sIx_nat _ _ 5, List.drop_zero, Nat.sub_zero]
  have e : z.length = z.cps.toList.length := by
    rw [Array.length_toList]
    rfl
  rw [e, Nat.min_comm, ← List.take_take, List.take_of_length_le (l := List.take 5 z.cps.toList) (by
    rw [List.length_take]
    omega)]
theorem join_one (cs : List Nat) : Txt.join "" (cs.map fun c => (⟨#[c]⟩ : Str)) = ⟨cs.toArray⟩ := by
  have h : ∀ l : List Nat, TL.joinL [] (l.map fun c => [c]) = l := by
    intro l
    induction l with
    | nil => rfl
    | cons a r ih =>
      cases r with
      | nil => rfl
      | cons b t =>
        show [a] ++ ([] ++ TL.joinL [] ((b :: t).map fun c => [c])) = a :: b :: t
        rw [ih]
        rfl
  have h2 := SX.join_S [] (cs.map fun c => [c])
  rw [h, List.map_map] at h2
  exact h2
theorem app_tl (a b : Str) : (a ++ b).cps.toList = a.cps.toList ++ b.cps.toList := by
  show (a.cps ++ b.cps).toList = _
  rw [Array.toList_append]
theorem Lt.take {l : List Nat} (h : Lt l) (n : Nat) : Lt (l.take n) := fun c hc => h c (List.mem_of_mem_take hc)
theorem Lt.snoc {l : List Nat} {c : Nat} (h : Lt l) (h1 : 97 ≤ c) (h2 : c ≤ 122) : Lt (l ++ [c]) := fun x hx => by
  rcases List.mem_append.mp hx with q | q
  · exact h x q
  · rw [List.mem_singleton.mp q]
    exact ⟨h1, h2⟩
def cand (z : Str) (c : Nat) : Str := cutS z none (some 5) ++ ⟨#[c]⟩
theorem cand_tl (z : Str) (c : Nat) : (cand z c).cps.toList = z.cps.toList.take 5 ++ [c] := by
  unfold cand
  rw [app_tl, cut5]
theorem cand_nm {z : Str} {c : Nat} (h : Nm z) (h1 : 97 ≤ c) (h2 : c ≤ 122) : Nm (cand z c) := by
  unfold Nm
  rw [cand_tl]
  refine ⟨?_, ?_, (h.2.2.take 5).snoc h1 h2⟩
  · rw [List.length_append]
    show 1 ≤ _ + 1
    omega
  · rw [List.length_append, List.length_take]
    show _ + 1 ≤ 6
    omega
theorem cand_inj {z : Str} {c d : Nat} (h : cand z c = cand z d) : c = d := by
  have e := congrArg (fun x : Str => x.cps.toList) h
  simp only [cand_tl] at e
  have e2 := List.append_cancel_left e
  exact (List.cons.inj e2).1
theorem str_len (z : Str) : z.length = z.cps.toList.length := by
  rw [Array.length_toList]
  rfl
/-- unlike ones among others are no more than these -/
theorem nodup_le {α : Type} [DecidableEq α] : ∀ (l m : List α), l.Nodup → (∀ x ∈ l, x ∈ m) → l.length ≤ m.length
  | [], _, _, _ => Nat.zero_le _
  | a :: r, m, hn, hs => by
    have hn2 := List.nodup_cons.mp hn
    have ha : a ∈ m := hs a (List.mem_cons_self)
    have hr : ∀ x ∈ r, x ∈ m.erase a := fun x hx => by
      have hne : x ≠ a := fun e => hn2.1 (e ▸ hx)
      exact (List.mem_erase_of_ne hne).mpr (hs x (List.mem_cons_of_mem _ hx))
    have := nodup_le r (m.erase a) hn2.2 hr
    rw [List.length_erase_of_mem ha] at this
    have hp : 0 < m.length := List.length_pos_of_mem ha
    show r.length + 1 ≤ m.length
    omega
/-- a name that isn't there yet, of these -/
def cands (z : Str) : List Str := z :: (List.range 26).map fun i => cand z (97 + i)
theorem cands_free (z : Str) (zs : List Str) (h : zs.length < 26) : ∃ y r, (cands z).filter (fun y => decide (y ∉ zs)) = y :: r ∧ y ∈ cands z ∧ y ∉ zs := by
  cases e : (cands z).filter (fun y => decide (y ∉ zs)) with
  | nil =>
    exfalso
    have hall : ∀ y ∈ (List.range 26).map (fun i => cand z (97 + i)), y ∈ zs := fun y hy => by
      have := List.filter_eq_nil_iff.mp e y (List.mem_cons_of_mem _ hy)
      simpa using this
    have hnd : ((List.range 26).map (fun i => cand z (97 + i))).Nodup := by
      refine List.pairwise_map.mpr ((List.nodup_range (n := 26)).imp fun hab q => hab ?_)
      have := cand_inj q
      omega
    have := nodup_le _ _ hnd hall
    rw [List.length_map, List.length_range] at this
    omega
  | cons y r =>
    have hm : y ∈ (cands z).filter (fun y => decide (y ∉ zs)) := by
      rw [e]
      exact List.mem_cons_self
    obtain ⟨h1, h2⟩ := List.mem_filter.mp hm
    exact ⟨y, r, rfl, h1, of_decide_eq_true h2⟩
theorem cands_nm {z y : Str} (h : Nm z) (hy : y ∈ cands z) : Nm y := by
  rcases List.mem_cons.mp hy with q | q
  · rw [q]
    exact h
  · obtain ⟨i, hi, rfl⟩ := List.mem_map.mp q
    have := List.mem_range.mp hi
    exact cand_nm h (by omega) (by omega)
end HF
namespace HF
open PySem PySem.Spec PyProof.Rows L2
abbrev sNames : Stmt := topS 10
abbrev nNames : List Str := ["_law_box_here", "_law_size", "_law_letters", "_law_found", "_law_k", "_law_name", "_law_j", "_law_sign", "_law_maybe"]
theorem scNames : FnScope nNames ["_law_box_here", "_law_size"] (defScope sNames) := ⟨rfl, rfl, rfl, by decide +kernel, rfl, by decide +kernel, by decide +kernel⟩
theorem strs_all {xs : List Str} : (xs.map V.str).all flatV = true := by
  rw [List.all_eq_true]
  intro x hx
  obtain ⟨z, _, rfl⟩ := List.mem_map.mp hx
  rfl
theorem at3 {r : Int} (h0 : 0 ≤ r) (h1 : r < 3) : ∃ j : Nat, atI [V.int 1, V.int 6, V.int 2] r = some (V.int j) ∧ 1 ≤ j ∧ j ≤ 6 := by
  obtain ⟨n, rfl⟩ := Int.eq_ofNat_of_zero_le h0
  match n, h1 with
  | 0, _ => exact ⟨1, atI_nat (j := 0) rfl, by decide, by decide⟩
  | 1, _ => exact ⟨6, atI_nat (j := 1) rfl, by decide, by decide⟩
  | 2, _ => exact ⟨2, atI_nat (j := 2) rfl, by decide, by decide⟩
  | n + 3, h => omega
theorem lt_nil : Lt [] := fun _ h => nomatch h
theorem sz27 (nm : Str) : [V.str nm].length + (List.map V.str (List.map (fun x => cand nm (97 + x)) (List.range abc.cps.size))).length ≤ sizeLine := by
  rw [List.length_map, List.length_map, List.length_range]
  show 1 + abc.cps.size ≤ sizeLine
  decide +kernel
theorem inV_strs (y : Str) (zs : List Str) : inV (.str y) (zs.map V.str) = decide (y ∈ zs) := by
  unfold inV
  rw [List.any_map]
  by_cases h : y ∈ zs
  · rw [decide_eq_true h, List.any_eq_true]
    exact ⟨y, h, by simp [eqV]⟩
  · rw [decide_eq_false h, List.any_eq_false]
    intro z hz e
    have e2 : z = y := by simpa [eqV] using e
    exact h (e2 ▸ hz)
theorem Nm.ok {z : Str} (h : Nm z) : PyData.strOk z = true := by
  unfold PyData.strOk
  rw [← Array.all_toList, List.all_eq_true]
  intro c hc
  have := h.2.2 c hc
  simp
  omega
theorem canLay_strs : ∀ {zs : List Str}, (∀ z ∈ zs, Nm z) → PyData.canLayAll0 (zs.map PyData.str) = true
  | [], _ => rfl
  | z :: r, h => by
    show (PyData.strOk z && PyData.canLayAll0 (r.map PyData.str)) = true
    rw [(h z List.mem_cons_self).ok, canLay_strs fun y hy => h y (List.mem_cons_of_mem _ hy)]
    rfl
theorem depth_strs : ∀ zs : List Str, PyData.depthAll (zs.map PyData.str) = 0
  | [] => rfl
  | z :: r => by
    show max 0 (PyData.depthAll (r.map PyData.str)) = 0
    rw [depth_strs r]
    rfl
theorem shaped_strs {zs : List Str} (h : ∀ z ∈ zs, Nm z) : SeqAt.shaped (.list (zs.map PyData.str)) = true := by
  show (PyData.canLayAll0 (zs.map PyData.str) && decide (PyData.depthAll (zs.map PyData.str) + 1 ≤ 64)) = true
  rw [canLay_strs h, depth_strs]
  rfl
theorem dp_strs {K : PySem.W.Frag} {H : Hp} : ∀ zs : List Str, DpAll K H (zs.map V.str) (zs.map PyData.str)
  | [] => .nil
  | z :: r => .cons (.str z) (dp_strs r)
theorem ones_sum : ∀ cs : List Nat, ((cs.map fun c => (⟨#[c]⟩ : Str)).map (·.length)).sum = cs.length
  | [] => rfl
  | c :: r => by
    show 1 + ((r.map fun c => (⟨#[c]⟩ : Str)).map (·.length)).sum = r.length + 1
    rw [ones_sum r]
    omega
theorem Oth.none {p l : Addr} {H H1 : Hp} {c : Int} (a : Oth p H H1) (hb : Bx H1 p c) (n : H1 l = Option.none) : H l = Option.none := by
  cases e : H l with
  | none => rfl
  | some o =>
    have hl : l ≠ p := fun z => by
      subst z
      obtain ⟨x, y, e2, _⟩ := hb
      rw [e2] at n
      cases n
    rw [a l o e hl] at n
    cases n
section
variable {P : Program} {w : World} {K : PySem.W.Frag} {mg : Str → Option Value} {base : Heap}
def spNames (K : PySem.W.Frag) : Sp := fun vs H Q _ => ∃ (p : Addr) (c : Int) (n : Nat), vs = [.ref p, .int n] ∧ Bx H p c ∧ c < 2 ^ 39 ∧ n ≤ 20 ∧
  ∀ (H' : Hp) (l : Addr) (zs : List Str) (c' : Int), H l = none → Oth p H H' → H' l = some (.lst (zs.map V.str)) → zs.length = n → zs.Nodup → (∀ z ∈ zs, Nm z) → sortedS zs = true → Bx H' p c' → c ≤ c' → c' ≤ c + 10 * n → Q (.ref l) H'
theorem ok_names {f fT : Addr} {fd fdT : FuncData} {k : Nat} (F : Fun K "_law_names" "_law_names" sNames f fd) (FT : Fun K "_law_take" "_law_take" sTake fT fdT) (bT : Binds K fdT ["_law_box_here", "_law_bound"] []) (gT : mg "_law_take" = some (.ref fT)) (mR : mg "range" = none) (mS : mg "sorted" = none) :
    FnOk P w K mg base CX0 (k + 2) f fd ["_law_box_here", "_law_size"] (spNames K) := by
  have GT : FnOk P w K mg base CX0 (k + 1) fT fdT ["_law_box_here", "_law_bound"] spTake := ok_take FT
  refine F.ok scNames (fun vs H Q E h => ?_) (fun cdv A outer s H vs Q E hr h => ?_)
  · obtain ⟨p, c, n, rfl, _⟩ := h
    rfl
  · obtain ⟨p, c, n, rfl, hB, hc, hn, q⟩ := h
    have hBnn := hB.nn
    refine ⟨_, pss_cons (ps_asg (pe_tup (pa_cons pe_str (pa_cons (pe_lst pa_nil) pa_nil))) (pg_tup rfl (pgs_cons (pg_name (i := 2) scNames.nd rfl (.inr rfl)) (pgs_cons (pg_name (i := 3) scNames.nd rfl (.inr rfl)) pgs_nil))))
      (pss_cons (ps_for PassesOwn.never rfl (pi_range1 (by rfl) mR (pa_cons (pv 1) pa_nil)) (pg_name (i := 4) scNames.nd rfl (.inl rfl))
        (pss_cons (ps_set (i := 5) scNames.nd rfl (.inr rfl) (pe_join pe_str (pe_lc (own := [("_law_j", 6)]) (g := gName 6) (tt := tYes) rfl scNames.nd
            (pi_range1 (by rfl) mR (pa_cons (pe_ix ix_list (pe_lst (pa_cons pe_int (pa_cons pe_int (pa_cons pe_int pa_nil)))) (pe_call GT hr (by rfl) gT FT.kp bT .nil pass0 (pa_cons (pv 0) (pa_cons pe_int pa_nil))) (fun _ _ => rfl)) pa_nil))
            (blkOk_by (N := nNames) (sc := defScope sNames) (by decide +kernel)) (fun _ _ _ _ _ => pg_name (i := 6) scNames.nd rfl (Or.inl rfl)) (fun _ _ _ _ _ => pts_nil)
            (fun _ _ _ _ _ => pe_ix ix_str (pv 2) (pe_call GT hr (by rfl) gT FT.kp bT .nil pass0 (pa_cons (pv 0) (pa_cons pe_int pa_nil))) (fun _ _ => rfl)))))
        (pss_cons (ps_if (PW.pt (pw_and (pt_cmpR (op_neD hr.units) (pv 3) (pe_lst pa_nil) (nomark _)) (pw_and1 (pt_cmpR op_eq (pe_call GT hr (by rfl) gT FT.kp bT .nil pass0 (pa_cons (pv 0) (pa_cons pe_int pa_nil))) pe_int (nomark _)))))
          (pss_one (ps_set (i := 5) scNames.nd rfl (.inr rfl) (pe_op op_add_str (pe_slice sl_str (pe_ix ix_list (pv 3) pe_int (fun _ _ => rfl)) po_none (po_some pe_int)) (pe_ix ix_str (pv 2) (pe_call GT hr (by rfl) gT FT.kp bT .nil pass0 (pa_cons (pv 0) (pa_cons pe_int pa_nil))) (fun _ _ => rfl))))) pss_nil)
        (pss_one (ps_expr (pe_bm PySem.F.plainAttrs_list PySem.F.slot_list_append PySem.F.type_list_append mt_append (pv 3) (pa_cons (pe_ix ix_list
          (pe_lc (own := [("_law_maybe", 8)]) (g := gName 8) rfl scNames.nd
            (pi_list (pe_op op_cat (pe_lst (pa_cons (pv 5) pa_nil)) (pe_lc (own := [("_law_sign", 7)]) (g := gName 7) (tt := tYes) rfl scNames.nd (pi_str (pv 2))
              (blkOk_by (N := nNames) (sc := defScope sNames) (by decide +kernel)) (fun _ _ _ _ _ => pg_name (i := 7) scNames.nd rfl (Or.inl rfl)) (fun _ _ _ _ _ => pts_nil)
              (fun _ _ _ _ _ => pe_op op_add_str (pe_slice sl_str (pv 5) po_none (po_some pe_int)) (pv 7)))))
            (blkOk_by (N := nNames) (sc := defScope sNames) (by decide +kernel)) (fun _ _ _ _ _ => pg_name (i := 8) scNames.nd rfl (Or.inl rfl)) (fun _ _ _ _ _ => pts_one (pt_cmpR (r := rIn K true) op_notIn_seq (pv 8) (pv 3) (by rfl)))
            (fun _ _ _ _ _ => pv 8)) pe_int (fun _ _ => rfl)) pa_nil)))))))
      (pss_one (ps_ret (pe_callB cr_sortedS (by rfl) mS (by decide +kernel) (pa_cons (pv 3) pa_nil))))), ?_⟩
    refine ⟨Nat.zero_le _, fun l nl => ⟨(by decide : (2 : Nat) ≤ sizeLine), fun t nt => ⟨t, _, rfl, .inl (.inl upd_same), rfl, _, _, rfl, _, _, rfl, rfl, ?_⟩⟩⟩
    have npl : p ≠ l := hB.new nl
    have hlt : l ≠ t := ne_of_none upd_same nt
    have hB0 : Bx (upd (upd H l (.lst [])) t (.tup [.str abc, .ref l])) p c := (hB.ne npl).ne ((hB.ne npl).new nt)
    have hO0 : Oth p H (upd (upd H l (.lst [])) t (.tup [.str abc, .ref l])) := Oth.of ((same_upd nl).trans (same_upd nt))
    refine ⟨.int n, rfl, n, rfl, by omega, by omega, for_range (lo := 0) (n := n) (fun i σ H3 => ∃ (y4 y5 : Option V) (zs : List Str) (c' : Int), σ = [some (.ref p), some (.int n), some (.str abc), some (.ref l), y4, y5, none, none, none] ∧ zs.length = i ∧ zs.Nodup ∧ (∀ z ∈ zs, Nm z) ∧ c ≤ c' ∧ c' ≤ c + 10 * i ∧ H3 l = some (.lst (zs.map V.str)) ∧ Bx H3 p c' ∧ Oth p H H3) ?_ ?_ ?_⟩
    · refine ⟨none, none, [], c, rfl, rfl, List.nodup_nil, by simp, by omega, by omega, ?_, hB0, hO0⟩
      rw [upd_ne hlt, upd_same]
      rfl
    · rintro i σ H3 hi ⟨y4, y5, zs, c', rfl, hzl, hznd, hznm, h1, h2, hl, hb, ho⟩
      refine ⟨⟨_, rfl⟩, (by decide : (3 : Nat) ≤ sizeLine), fun D0 nD0 => ⟨.ref p, rfl, p, 3, c', rfl, hb.ne (hb.new nD0), by omega, by decide, by decide, ?_⟩⟩
      intro r c2 o hr0 hr1 hc0 hc1 hb2
      obtain ⟨j, hj, hj1, hj6⟩ := at3 hr0 hr1
      have npD0 : D0 ≠ p := (hb.new nD0).symm
      refine ⟨D0, _, r, _, rfl, rfl, .inl (.inl (by rw [upd_ne npD0]; exact upd_same)), hj, j, rfl, by omega, by omega, fun D nD => ?_⟩
      have hlA : (upd (upd H3 D0 (.lst [.int 1, .int 6, .int 2])) p o) l = some (.lst (zs.map V.str)) := by
        rw [upd_ne npl.symm, upd_ne (ne_of_none hl nD0)]
        exact hl
      have hoA : Oth p H (upd (upd H3 D0 (.lst [.int 1, .int 6, .int 2])) p o) := (ho.trans (Oth.of (same_upd nD0))).trans Oth.put
      refine lc_range (lo := 0) (n := j) (fun i H4 => ∃ (cs : List Nat) (c4 : Int), cs.length = i ∧ Lt cs ∧ c2 ≤ c4 ∧ c4 ≤ c2 + i ∧ H4 D = some (.lst ((cs.map fun c => (⟨#[c]⟩ : Str)).map V.str)) ∧ Bx H4 p c4 ∧ Oth p (upd (upd H3 D0 (.lst [.int 1, .int 6, .int 2])) p o) H4) ?_ ?_ ?_
      · exact ⟨[], c2, rfl, lt_nil, by omega, by omega, upd_same, hb2.ne (hb2.new nD), Oth.of (same_upd nD)⟩
      · rintro i2 H4 hi2 ⟨cs, c4, hcl, hcL, hc4, hc5, hD, hb4, ho4⟩
        have npD : D ≠ p := (hb2.new nD).symm
        refine ⟨rfl, ?_⟩
        refine ⟨.str abc, rfl, .ref p, rfl, p, 26, c4, rfl, hb4, by omega, by decide, by decide, ?_⟩
        intro r2 c6 o2 hr20 hr21 hc60 hc61 hb6
        obtain ⟨ch, hch, hch1, hch2⟩ := abc_at hr20 hr21
        refine ⟨abc, r2, ch, rfl, rfl, by rw [abc_len]; decide, hch, _, (by rw [upd_ne npD]; exact hD), ?_, ?_⟩
        · rw [List.length_map, List.length_map, hcl, PySem.sizeLine_eq]
          omega
        · refine ⟨cs ++ [ch], c6, by rw [List.length_append, hcl]; rfl, hcL.snoc hch1 hch2, by omega, by omega, ?_, hb6.ne npD.symm, (ho4.trans Oth.put).new nD⟩
          rw [upd_same, List.map_append, List.map_append]
          rfl
      · rintro H4 ⟨cs, c4, hcl, hcL, hc4, hc5, hD, hb4, ho4⟩
        refine ⟨"", D, _, rfl, rfl, .inl (.inl (.inl hD)), ?_, ?_⟩
        · rw [ones_sum, List.length_map, show ("" : Str).length = 0 by decide]
          omega
        · rw [join_one]
          have hl4 : H4 l = some (.lst (zs.map V.str)) := ho4 _ _ hlA npl.symm
          have hoB : Oth p H H4 := hoA.trans ho4
          have hnm0 : Nm ⟨cs.toArray⟩ := ⟨by show 1 ≤ cs.length; omega, by show cs.length ≤ 6; omega, hcL⟩
          generalize (⟨cs.toArray⟩ : Str) = nm at hnm0
          refine ⟨.ref l, rfl, Nat.zero_le _, fun D1 nD1 => ?_⟩
          have sD1 : Same H4 (upd H4 D1 (.lst [])) := same_upd nD1
          have hl5 := sD1 _ _ hl4
          have hb5 : Bx (upd H4 D1 (.lst [])) p c4 := hb4.ne (hb4.new nD1)
          have hoD : Oth p H (upd H4 D1 (.lst [])) := hoB.trans (Oth.of sD1)
          refine ⟨.list (zs.map PyData.str), .list [], .lst (.inl (.inl hl5)) (dp_strs zs), .lst (.inl (.inl upd_same)) .nil, shaped_strs hznm, rfl, _, rfl, ite2 (fun e => ?_) (fun e => ?_)⟩
          · refine ⟨.ref p, rfl, p, 4, c4, rfl, hb5, by omega, by decide, by decide, ?_⟩
            intro r4 c7 o4 hr40 hr41 hc70 hc71 hb7
            have hl6 : (upd (upd H4 D1 (.lst [])) p o4) l = some (.lst (zs.map V.str)) := by
              rw [upd_ne npl.symm]
              exact hl5
            refine ⟨rfl, _, rfl, ite2 (fun e2 => ?_) (fun e2 => ?_)⟩
            · cases zs with
              | nil => exact absurd e (by decide)
              | cons z0 zr =>
                refine ⟨.ref l, rfl, l, _, 0, .str z0, rfl, rfl, .inl (.inl hl6), atI_nat (j := 0) rfl, 5, rfl, z0, rfl, ?_, .str abc, rfl, .ref p, rfl, p, 26, c7, rfl, hb7, by omega, by decide, by decide, ?_⟩
                · rw [str_len, PySem.sizeLine_eq]
                  have := (hznm z0 List.mem_cons_self).2.1
                  omega
                · intro r5 c8 o5 hr50 hr51 hc80 hc81 hb8
                  obtain ⟨ch, hch, hch1, hch2⟩ := abc_at hr50 hr51
                  refine ⟨abc, r5, ch, rfl, rfl, by rw [abc_len]; decide, hch, _, _, rfl, rfl, ?_, ?_⟩
                  · have e6 : (cutS z0 none (some 5)).length ≤ 5 := by
                      rw [cut5, str_len]
                      show (z0.cps.toList.take 5).length ≤ 5
                      rw [List.length_take]
                      omega
                    have e7 : (⟨#[ch]⟩ : Str).length = 1 := rfl
                    rw [e7, PySem.sizeLine_eq]
                    omega
                  · have hnm := cand_nm (hznm z0 List.mem_cons_self) hch1 hch2
                    have hlC : (upd (upd (upd H4 D1 (.lst [])) p o4) p o5) l = some (.lst ((z0 :: zr).map V.str)) := by
                      rw [upd_ne npl.symm]
                      exact hl6
                    have hbC := hb8
                    have hoC : Oth p H (upd (upd (upd H4 D1 (.lst [])) p o4) p o5) := (hoD.trans Oth.put).trans Oth.put
                    show _
                    generalize hcand : cutS z0 none (some 5) ++ (⟨#[ch]⟩ : Str) = nm at *
                    replace hnm : Nm nm := by rw [← hcand]; exact hnm
                    clear hcand
                    generalize (upd (upd (upd H4 D1 (.lst [])) p o4) p o5) = HC at *
                    generalize hcc : c8 = cc at *
                    generalize (z0 :: zr) = zs at *
                    have fl := str_len nm
                    have hnm6 := hnm.2.1
                    refine ⟨.ref l, rfl, .inl ⟨rfl, _, .inl (.inl hlC)⟩, .str nm, rfl, (by decide : (1 : Nat) ≤ sizeLine), fun L1 nL1 => ?_⟩
                    have nlL1 : l ≠ L1 := ne_of_none hlC nL1
                    refine ⟨.str abc, rfl, abc, rfl, fun D2 nD2 => lc_it (walk_str (z := abc)) (fun j H4 => H4 = upd (upd HC L1 (.lst [.str nm])) D2 (.lst (((List.range j).map fun x => cand nm (97 + x)).map V.str))) rfl (fun _ _ _ _ => trivial) ?_ ?_⟩
                    · rintro j x H4 H5 hj rfl ⟨rfl, ch, hch, rfl⟩
                      have hj26 : j < 26 := hj
                      have ech : ch = 97 + j := by
                        have e1 : abc.cps.toList[j]? = some ch := by
                          rw [Array.getElem?_toList]
                          exact hch
                        rw [abc_tl, List.getElem?_map, List.getElem?_range hj26] at e1
                        exact (Option.some.inj e1).symm
                      subst ech
                      refine ⟨rfl, ?_⟩
                      refine ⟨.str nm, rfl, 5, rfl, nm, rfl, by rw [PySem.sizeLine_eq]; omega, .str ⟨#[97 + j]⟩, rfl, _, _, rfl, rfl, ?_, _, upd_same, ?_, ?_⟩
                      · have e5 := congrArg (fun x : Str => x.length) (cut5 nm)
                        have e6 : (cutS nm none (some 5)).length ≤ 5 := by
                          rw [cut5, str_len]
                          show (nm.cps.toList.take 5).length ≤ 5
                          rw [List.length_take]
                          omega
                        have e7 : (⟨#[97 + j]⟩ : Str).length = 1 := rfl
                        rw [e7, PySem.sizeLine_eq]
                        omega
                      · rw [List.length_map, List.length_map, List.length_range, PySem.sizeLine_eq]
                        omega
                      · rw [upd_upd, List.range_succ, List.map_append, List.map_append]
                        rfl
                    · rintro H4 rfl
                      have hL1 : (upd (upd HC L1 (.lst [.str nm])) D2 (.lst (((List.range abc.cps.size).map fun x => cand nm (97 + x)).map V.str))) L1 = some (.lst [.str nm]) := by
                        rw [upd_ne (ne_of_none upd_same nD2), upd_same]
                      refine ⟨L1, D2, _, _, rfl, rfl, hL1, upd_same, sz27 nm, fun L3 nL3 => ?_⟩
                      have hlE : (upd (upd (upd HC L1 (.lst [.str nm])) D2 (.lst (((List.range abc.cps.size).map fun x => cand nm (97 + x)).map V.str))) L3 (.lst ((cands nm).map V.str))) l = some (.lst (zs.map V.str)) := by
                        have hl1 : (upd HC L1 (.lst [.str nm])) l = some (.lst (zs.map V.str)) := by
                          rw [upd_ne nlL1]
                          exact hlC
                        have hl2 : (upd (upd HC L1 (.lst [.str nm])) D2 (.lst (((List.range abc.cps.size).map fun x => cand nm (97 + x)).map V.str))) l = some (.lst (zs.map V.str)) := by
                          rw [upd_ne (ne_of_none hl1 nD2)]
                          exact hl1
                        rw [upd_ne (ne_of_none hl2 nL3)]
                        exact hl2
                      have sE : Same HC (upd (upd (upd HC L1 (.lst [.str nm])) D2 (.lst (((List.range abc.cps.size).map fun x => cand nm (97 + x)).map V.str))) L3 (.lst ((cands nm).map V.str))) := ((same_upd nL1).trans (same_upd nD2)).trans (same_upd nL3)
                      have hL3 : (upd (upd (upd HC L1 (.lst [.str nm])) D2 (.lst (((List.range abc.cps.size).map fun x => cand nm (97 + x)).map V.str))) L3 (.lst ((cands nm).map V.str))) L3 = some (.lst ((cands nm).map V.str)) := upd_same
                      generalize hHE : (upd (upd (upd HC L1 (.lst [.str nm])) D2 (.lst (((List.range abc.cps.size).map fun x => cand nm (97 + x)).map V.str))) L3 (.lst ((cands nm).map V.str))) = HE at hlE sE hL3
                      refine ⟨L3, rfl, ⟨(cands nm).map V.str, .inl (.inl upd_same)⟩, fun D4 nD4 => ?_⟩
                      have eHE : (upd (upd (upd HC L1 (.lst [.str nm])) D2 (.lst (((List.range abc.cps.size).map fun x => cand nm (97 + x)).map V.str))) L3 (.lst ([V.str nm] ++ (((List.range abc.cps.size).map fun x => cand nm (97 + x)).map V.str)))) = HE := hHE
                      rw [eHE] at nD4
                      rw [eHE]
                      refine lc_list (xs := (cands nm).map V.str) (fun j H4 => H4 = upd HE D4 (.lst ((((cands nm).take j).filter (fun y => decide (y ∉ zs))).map V.str))) rfl ?_ ?_ ?_
                      · rintro j H4 hj rfl
                        refine .inl (.inl ?_)
                        rw [upd_ne (ne_of_none hL3 nD4)]
                        exact hL3
                      · rintro j x H4 hx rfl
                        rw [List.getElem?_map] at hx
                        obtain ⟨y, hy, rfl⟩ := Option.map_eq_some_iff.mp hx
                        have hl4 : (upd HE D4 (.lst ((((cands nm).take j).filter (fun y => decide (y ∉ zs))).map V.str))) l = some (.lst (zs.map V.str)) := by
                          rw [upd_ne (ne_of_none hlE nD4)]
                          exact hlE
                        refine ⟨rfl, .str y, rfl, .ref l, rfl, l, _, rfl, .inl (.inl (.inl hl4)), rfl, strs_all, _, rfl, ?_⟩
                        have eT : (if true = true then !inV (.str y) (zs.map V.str) else inV (.str y) (zs.map V.str)) = decide (y ∉ zs) := by
                          rw [if_pos rfl, inV_strs]
                          simp
                        rw [eT]
                        refine ite2 (fun e => ?_) (fun e => ?_)
                        · refine ⟨.str y, rfl, _, upd_same, ?_, ?_⟩
                          · rw [List.length_map, PySem.sizeLine_eq]
                            have h1 := List.length_filter_le (fun y => decide (y ∉ zs)) ((cands nm).take j)
                            have h2 : ((cands nm).take j).length ≤ (cands nm).length := List.length_take_le' _ _
                            have h3 : (cands nm).length = 27 := by simp [cands]
                            omega
                          · rw [upd_upd, List.take_add_one, hy, List.filter_append]
                            show _ = upd HE D4 (.lst ((_ ++ [y].filter _).map V.str))
                            rw [show [y].filter (fun y => decide (y ∉ zs)) = [y] from List.filter_cons_of_pos (p := fun y => decide (y ∉ zs)) e, List.map_append]
                            rfl
                        · rw [List.take_add_one, hy, List.filter_append]
                          show _ = upd HE D4 (.lst ((_ ++ [y].filter _).map V.str))
                          rw [show [y].filter (fun y => decide (y ∉ zs)) = [] from List.filter_cons_of_neg (p := fun y => decide (y ∉ zs)) e, List.append_nil]
                      · rintro H4 rfl
                        obtain ⟨y, r, hyr, hyc, hyz⟩ := cands_free nm zs (by omega)
                        rw [List.length_map, List.take_length, hyr]
                        have hl4 : (upd HE D4 (.lst ((y :: r).map V.str))) l = some (.lst (zs.map V.str)) := by
                          rw [upd_ne (ne_of_none hlE nD4)]
                          exact hlE
                        refine ⟨D4, _, 0, .str y, rfl, rfl, .inl (.inl upd_same), atI_nat (j := 0) rfl, l, _, _, rfl, rfl, hl4, ?_, ?_⟩
                        · rw [List.length_map, PySem.sizeLine_eq]
                          omega
                        · have s4 : Same HC (upd HE D4 (.lst ((y :: r).map V.str))) := sE.trans (same_upd nD4)
                          have hb4 : Bx (upd HE D4 (.lst ((y :: r).map V.str))) p cc := by
                            obtain ⟨x1, x2, e1, e2⟩ := hbC
                            exact ⟨x1, x2, s4 _ _ e1, e2⟩
                          refine ⟨_, _, zs ++ [y], cc, rfl, by rw [List.length_append, hzl]; rfl, ?_, ?_, by omega, by omega, ?_, hb4.ne npl, (hoC.trans (Oth.of s4)).new nl⟩
                          · refine List.nodup_append.mpr ⟨hznd, by simp, ?_⟩
                            intro a ha b hb e
                            rw [List.mem_singleton] at hb
                            subst hb
                            subst e
                            exact hyz ha
                          · intro z hz
                            rcases List.mem_append.mp hz with h | h
                            · exact hznm z h
                            · rw [List.mem_singleton.mp h]
                              exact cands_nm hnm hyc
                          · rw [upd_same, List.map_append]
                            rfl
            · have hnm := hnm0
              have hlC := hl6
              have hbC := hb7
              have hoC : Oth p H (upd (upd H4 D1 (.lst [])) p o4) := hoD.trans Oth.put
              generalize (upd (upd H4 D1 (.lst [])) p o4) = HC at *
              generalize hcc : c7 = cc at *
              have fl := str_len nm
              have hnm6 := hnm.2.1
              refine ⟨.ref l, rfl, .inl ⟨rfl, _, .inl (.inl hlC)⟩, .str nm, rfl, (by decide : (1 : Nat) ≤ sizeLine), fun L1 nL1 => ?_⟩
              have nlL1 : l ≠ L1 := ne_of_none hlC nL1
              refine ⟨.str abc, rfl, abc, rfl, fun D2 nD2 => lc_it (walk_str (z := abc)) (fun j H4 => H4 = upd (upd HC L1 (.lst [.str nm])) D2 (.lst (((List.range j).map fun x => cand nm (97 + x)).map V.str))) rfl (fun _ _ _ _ => trivial) ?_ ?_⟩
              · rintro j x H4 H5 hj rfl ⟨rfl, ch, hch, rfl⟩
                have hj26 : j < 26 := hj
                have ech : ch = 97 + j := by
                  have e1 : abc.cps.toList[j]? = some ch := by
                    rw [Array.getElem?_toList]
                    exact hch
                  rw [abc_tl, List.getElem?_map, List.getElem?_range hj26] at e1
                  exact (Option.some.inj e1).symm
                subst ech
                refine ⟨rfl, ?_⟩
                refine ⟨.str nm, rfl, 5, rfl, nm, rfl, by rw [PySem.sizeLine_eq]; omega, .str ⟨#[97 + j]⟩, rfl, _, _, rfl, rfl, ?_, _, upd_same, ?_, ?_⟩
                · have e5 := congrArg (fun x : Str => x.length) (cut5 nm)
                  have e6 : (cutS nm none (some 5)).length ≤ 5 := by
                    rw [cut5, str_len]
                    show (nm.cps.toList.take 5).length ≤ 5
                    rw [List.length_take]
                    omega
                  have e7 : (⟨#[97 + j]⟩ : Str).length = 1 := rfl
                  rw [e7, PySem.sizeLine_eq]
                  omega
                · rw [List.length_map, List.length_map, List.length_range, PySem.sizeLine_eq]
                  omega
                · rw [upd_upd, List.range_succ, List.map_append, List.map_append]
                  rfl
              · rintro H4 rfl
                have hL1 : (upd (upd HC L1 (.lst [.str nm])) D2 (.lst (((List.range abc.cps.size).map fun x => cand nm (97 + x)).map V.str))) L1 = some (.lst [.str nm]) := by
                  rw [upd_ne (ne_of_none upd_same nD2), upd_same]
                refine ⟨L1, D2, _, _, rfl, rfl, hL1, upd_same, sz27 nm, fun L3 nL3 => ?_⟩
                have hlE : (upd (upd (upd HC L1 (.lst [.str nm])) D2 (.lst (((List.range abc.cps.size).map fun x => cand nm (97 + x)).map V.str))) L3 (.lst ((cands nm).map V.str))) l = some (.lst (zs.map V.str)) := by
                  have hl1 : (upd HC L1 (.lst [.str nm])) l = some (.lst (zs.map V.str)) := by
                    rw [upd_ne nlL1]
                    exact hlC
                  have hl2 : (upd (upd HC L1 (.lst [.str nm])) D2 (.lst (((List.range abc.cps.size).map fun x => cand nm (97 + x)).map V.str))) l = some (.lst (zs.map V.str)) := by
                    rw [upd_ne (ne_of_none hl1 nD2)]
                    exact hl1
                  rw [upd_ne (ne_of_none hl2 nL3)]
                  exact hl2
                have sE : Same HC (upd (upd (upd HC L1 (.lst [.str nm])) D2 (.lst (((List.range abc.cps.size).map fun x => cand nm (97 + x)).map V.str))) L3 (.lst ((cands nm).map V.str))) := ((same_upd nL1).trans (same_upd nD2)).trans (same_upd nL3)
                have hL3 : (upd (upd (upd HC L1 (.lst [.str nm])) D2 (.lst (((List.range abc.cps.size).map fun x => cand nm (97 + x)).map V.str))) L3 (.lst ((cands nm).map V.str))) L3 = some (.lst ((cands nm).map V.str)) := upd_same
                generalize hHE : (upd (upd (upd HC L1 (.lst [.str nm])) D2 (.lst (((List.range abc.cps.size).map fun x => cand nm (97 + x)).map V.str))) L3 (.lst ((cands nm).map V.str))) = HE at hlE sE hL3
                refine ⟨L3, rfl, ⟨(cands nm).map V.str, .inl (.inl upd_same)⟩, fun D4 nD4 => ?_⟩
                have eHE : (upd (upd (upd HC L1 (.lst [.str nm])) D2 (.lst (((List.range abc.cps.size).map fun x => cand nm (97 + x)).map V.str))) L3 (.lst ([V.str nm] ++ (((List.range abc.cps.size).map fun x => cand nm (97 + x)).map V.str)))) = HE := hHE
                rw [eHE] at nD4
                rw [eHE]
                refine lc_list (xs := (cands nm).map V.str) (fun j H4 => H4 = upd HE D4 (.lst ((((cands nm).take j).filter (fun y => decide (y ∉ zs))).map V.str))) rfl ?_ ?_ ?_
                · rintro j H4 hj rfl
                  refine .inl (.inl ?_)
                  rw [upd_ne (ne_of_none hL3 nD4)]
                  exact hL3
                · rintro j x H4 hx rfl
                  rw [List.getElem?_map] at hx
                  obtain ⟨y, hy, rfl⟩ := Option.map_eq_some_iff.mp hx
                  have hl4 : (upd HE D4 (.lst ((((cands nm).take j).filter (fun y => decide (y ∉ zs))).map V.str))) l = some (.lst (zs.map V.str)) := by
                    rw [upd_ne (ne_of_none hlE nD4)]
                    exact hlE
                  refine ⟨rfl, .str y, rfl, .ref l, rfl, l, _, rfl, .inl (.inl (.inl hl4)), rfl, strs_all, _, rfl, ?_⟩
                  have eT : (if true = true then !inV (.str y) (zs.map V.str) else inV (.str y) (zs.map V.str)) = decide (y ∉ zs) := by
                    rw [if_pos rfl, inV_strs]
                    simp
                  rw [eT]
                  refine ite2 (fun e => ?_) (fun e => ?_)
                  · refine ⟨.str y, rfl, _, upd_same, ?_, ?_⟩
                    · rw [List.length_map, PySem.sizeLine_eq]
                      have h1 := List.length_filter_le (fun y => decide (y ∉ zs)) ((cands nm).take j)
                      have h2 : ((cands nm).take j).length ≤ (cands nm).length := List.length_take_le' _ _
                      have h3 : (cands nm).length = 27 := by simp [cands]
                      omega
                    · rw [upd_upd, List.take_add_one, hy, List.filter_append]
                      show _ = upd HE D4 (.lst ((_ ++ [y].filter _).map V.str))
                      rw [show [y].filter (fun y => decide (y ∉ zs)) = [y] from List.filter_cons_of_pos (p := fun y => decide (y ∉ zs)) e, List.map_append]
                      rfl
                  · rw [List.take_add_one, hy, List.filter_append]
                    show _ = upd HE D4 (.lst ((_ ++ [y].filter _).map V.str))
                    rw [show [y].filter (fun y => decide (y ∉ zs)) = [] from List.filter_cons_of_neg (p := fun y => decide (y ∉ zs)) e, List.append_nil]
                · rintro H4 rfl
                  obtain ⟨y, r, hyr, hyc, hyz⟩ := cands_free nm zs (by omega)
                  rw [List.length_map, List.take_length, hyr]
                  have hl4 : (upd HE D4 (.lst ((y :: r).map V.str))) l = some (.lst (zs.map V.str)) := by
                    rw [upd_ne (ne_of_none hlE nD4)]
                    exact hlE
                  refine ⟨D4, _, 0, .str y, rfl, rfl, .inl (.inl upd_same), atI_nat (j := 0) rfl, l, _, _, rfl, rfl, hl4, ?_, ?_⟩
                  · rw [List.length_map, PySem.sizeLine_eq]
                    omega
                  · have s4 : Same HC (upd HE D4 (.lst ((y :: r).map V.str))) := sE.trans (same_upd nD4)
                    have hb4 : Bx (upd HE D4 (.lst ((y :: r).map V.str))) p cc := by
                      obtain ⟨x1, x2, e1, e2⟩ := hbC
                      exact ⟨x1, x2, s4 _ _ e1, e2⟩
                    refine ⟨_, _, zs ++ [y], cc, rfl, by rw [List.length_append, hzl]; rfl, ?_, ?_, by omega, by omega, ?_, hb4.ne npl, (hoC.trans (Oth.of s4)).new nl⟩
                    · refine List.nodup_append.mpr ⟨hznd, by simp, ?_⟩
                      intro a ha b hb e
                      rw [List.mem_singleton] at hb
                      subst hb
                      subst e
                      exact hyz ha
                    · intro z hz
                      rcases List.mem_append.mp hz with h | h
                      · exact hznm z h
                      · rw [List.mem_singleton.mp h]
                        exact cands_nm hnm hyc
                    · rw [upd_same, List.map_append]
                      rfl
          · refine iteF ?_
            have hnm := hnm0
            have hlC := hl5
            have hbC := hb5
            have hoC := hoD
            generalize (upd H4 D1 (.lst [])) = HC at *
            generalize hcc : c4 = cc at *
            have fl := str_len nm
            have hnm6 := hnm.2.1
            refine ⟨.ref l, rfl, .inl ⟨rfl, _, .inl (.inl hlC)⟩, .str nm, rfl, (by decide : (1 : Nat) ≤ sizeLine), fun L1 nL1 => ?_⟩
            have nlL1 : l ≠ L1 := ne_of_none hlC nL1
            refine ⟨.str abc, rfl, abc, rfl, fun D2 nD2 => lc_it (walk_str (z := abc)) (fun j H4 => H4 = upd (upd HC L1 (.lst [.str nm])) D2 (.lst (((List.range j).map fun x => cand nm (97 + x)).map V.str))) rfl (fun _ _ _ _ => trivial) ?_ ?_⟩
            · rintro j x H4 H5 hj rfl ⟨rfl, ch, hch, rfl⟩
              have hj26 : j < 26 := hj
              have ech : ch = 97 + j := by
                have e1 : abc.cps.toList[j]? = some ch := by
                  rw [Array.getElem?_toList]
                  exact hch
                rw [abc_tl, List.getElem?_map, List.getElem?_range hj26] at e1
                exact (Option.some.inj e1).symm
              subst ech
              refine ⟨rfl, ?_⟩
              refine ⟨.str nm, rfl, 5, rfl, nm, rfl, by rw [PySem.sizeLine_eq]; omega, .str ⟨#[97 + j]⟩, rfl, _, _, rfl, rfl, ?_, _, upd_same, ?_, ?_⟩
              · have e5 := congrArg (fun x : Str => x.length) (cut5 nm)
                have e6 : (cutS nm none (some 5)).length ≤ 5 := by
                  rw [cut5, str_len]
                  show (nm.cps.toList.take 5).length ≤ 5
                  rw [List.length_take]
                  omega
                have e7 : (⟨#[97 + j]⟩ : Str).length = 1 := rfl
                rw [e7, PySem.sizeLine_eq]
                omega
              · rw [List.length_map, List.length_map, List.length_range, PySem.sizeLine_eq]
                omega
              · rw [upd_upd, List.range_succ, List.map_append, List.map_append]
                rfl
            · rintro H4 rfl
              have hL1 : (upd (upd HC L1 (.lst [.str nm])) D2 (.lst (((List.range abc.cps.size).map fun x => cand nm (97 + x)).map V.str))) L1 = some (.lst [.str nm]) := by
                rw [upd_ne (ne_of_none upd_same nD2), upd_same]
              refine ⟨L1, D2, _, _, rfl, rfl, hL1, upd_same, sz27 nm, fun L3 nL3 => ?_⟩
              have hlE : (upd (upd (upd HC L1 (.lst [.str nm])) D2 (.lst (((List.range abc.cps.size).map fun x => cand nm (97 + x)).map V.str))) L3 (.lst ((cands nm).map V.str))) l = some (.lst (zs.map V.str)) := by
                have hl1 : (upd HC L1 (.lst [.str nm])) l = some (.lst (zs.map V.str)) := by
                  rw [upd_ne nlL1]
                  exact hlC
                have hl2 : (upd (upd HC L1 (.lst [.str nm])) D2 (.lst (((List.range abc.cps.size).map fun x => cand nm (97 + x)).map V.str))) l = some (.lst (zs.map V.str)) := by
                  rw [upd_ne (ne_of_none hl1 nD2)]
                  exact hl1
                rw [upd_ne (ne_of_none hl2 nL3)]
                exact hl2
              have sE : Same HC (upd (upd (upd HC L1 (.lst [.str nm])) D2 (.lst (((List.range abc.cps.size).map fun x => cand nm (97 + x)).map V.str))) L3 (.lst ((cands nm).map V.str))) := ((same_upd nL1).trans (same_upd nD2)).trans (same_upd nL3)
              have hL3 : (upd (upd (upd HC L1 (.lst [.str nm])) D2 (.lst (((List.range abc.cps.size).map fun x => cand nm (97 + x)).map V.str))) L3 (.lst ((cands nm).map V.str))) L3 = some (.lst ((cands nm).map V.str)) := upd_same
              generalize hHE : (upd (upd (upd HC L1 (.lst [.str nm])) D2 (.lst (((List.range abc.cps.size).map fun x => cand nm (97 + x)).map V.str))) L3 (.lst ((cands nm).map V.str))) = HE at hlE sE hL3
              refine ⟨L3, rfl, ⟨(cands nm).map V.str, .inl (.inl upd_same)⟩, fun D4 nD4 => ?_⟩
              have eHE : (upd (upd (upd HC L1 (.lst [.str nm])) D2 (.lst (((List.range abc.cps.size).map fun x => cand nm (97 + x)).map V.str))) L3 (.lst ([V.str nm] ++ (((List.range abc.cps.size).map fun x => cand nm (97 + x)).map V.str)))) = HE := hHE
              rw [eHE] at nD4
              rw [eHE]
              refine lc_list (xs := (cands nm).map V.str) (fun j H4 => H4 = upd HE D4 (.lst ((((cands nm).take j).filter (fun y => decide (y ∉ zs))).map V.str))) rfl ?_ ?_ ?_
              · rintro j H4 hj rfl
                refine .inl (.inl ?_)
                rw [upd_ne (ne_of_none hL3 nD4)]
                exact hL3
              · rintro j x H4 hx rfl
                rw [List.getElem?_map] at hx
                obtain ⟨y, hy, rfl⟩ := Option.map_eq_some_iff.mp hx
                have hl4 : (upd HE D4 (.lst ((((cands nm).take j).filter (fun y => decide (y ∉ zs))).map V.str))) l = some (.lst (zs.map V.str)) := by
                  rw [upd_ne (ne_of_none hlE nD4)]
                  exact hlE
                refine ⟨rfl, .str y, rfl, .ref l, rfl, l, _, rfl, .inl (.inl (.inl hl4)), rfl, strs_all, _, rfl, ?_⟩
                have eT : (if true = true then !inV (.str y) (zs.map V.str) else inV (.str y) (zs.map V.str)) = decide (y ∉ zs) := by
                  rw [if_pos rfl, inV_strs]
                  simp
                rw [eT]
                refine ite2 (fun e => ?_) (fun e => ?_)
                · refine ⟨.str y, rfl, _, upd_same, ?_, ?_⟩
                  · rw [List.length_map, PySem.sizeLine_eq]
                    have h1 := List.length_filter_le (fun y => decide (y ∉ zs)) ((cands nm).take j)
                    have h2 : ((cands nm).take j).length ≤ (cands nm).length := List.length_take_le' _ _
                    have h3 : (cands nm).length = 27 := by simp [cands]
                    omega
                  · rw [upd_upd, List.take_add_one, hy, List.filter_append]
                    show _ = upd HE D4 (.lst ((_ ++ [y].filter _).map V.str))
                    rw [show [y].filter (fun y => decide (y ∉ zs)) = [y] from List.filter_cons_of_pos (p := fun y => decide (y ∉ zs)) e, List.map_append]
                    rfl
                · rw [List.take_add_one, hy, List.filter_append]
                  show _ = upd HE D4 (.lst ((_ ++ [y].filter _).map V.str))
                  rw [show [y].filter (fun y => decide (y ∉ zs)) = [] from List.filter_cons_of_neg (p := fun y => decide (y ∉ zs)) e, List.append_nil]
              · rintro H4 rfl
                obtain ⟨y, r, hyr, hyc, hyz⟩ := cands_free nm zs (by omega)
                rw [List.length_map, List.take_length, hyr]
                have hl4 : (upd HE D4 (.lst ((y :: r).map V.str))) l = some (.lst (zs.map V.str)) := by
                  rw [upd_ne (ne_of_none hlE nD4)]
                  exact hlE
                refine ⟨D4, _, 0, .str y, rfl, rfl, .inl (.inl upd_same), atI_nat (j := 0) rfl, l, _, _, rfl, rfl, hl4, ?_, ?_⟩
                · rw [List.length_map, PySem.sizeLine_eq]
                  omega
                · have s4 : Same HC (upd HE D4 (.lst ((y :: r).map V.str))) := sE.trans (same_upd nD4)
                  have hb4 : Bx (upd HE D4 (.lst ((y :: r).map V.str))) p cc := by
                    obtain ⟨x1, x2, e1, e2⟩ := hbC
                    exact ⟨x1, x2, s4 _ _ e1, e2⟩
                  refine ⟨_, _, zs ++ [y], cc, rfl, by rw [List.length_append, hzl]; rfl, ?_, ?_, by omega, by omega, ?_, hb4.ne npl, (hoC.trans (Oth.of s4)).new nl⟩
                  · refine List.nodup_append.mpr ⟨hznd, by simp, ?_⟩
                    intro a ha b hb e
                    rw [List.mem_singleton] at hb
                    subst hb
                    subst e
                    exact hyz ha
                  · intro z hz
                    rcases List.mem_append.mp hz with h | h
                    · exact hznm z h
                    · rw [List.mem_singleton.mp h]
                      exact cands_nm hnm hyc
                  · rw [upd_same, List.map_append]
                    rfl
    · rintro σ H3 ⟨y4, y5, zs, c', rfl, hzl, hznd, hznm, h1, h2, hl, hb, ho⟩
      refine ⟨.ref l, rfl, l, zs, rfl, .inl (.inl hl), by omega, fun ys l2 hperm hsrt nl2 => ?_⟩
      exact q _ l2 ys c' (ho.none hb nl2) (ho.trans (Oth.of (same_upd nl2))) upd_same (hperm.length_eq.trans hzl) (hperm.nodup_iff.mpr hznd) (fun z hz => hznm z (hperm.mem_iff.mp hz)) hsrt (hb.ne (hb.new nl2)) h1 h2
end
end HF
/-! rules of my own over the hand layer -/
namespace HF
open PySem PySem.Spec PyProof.Rows L2
/-- a tuple whose object is known: a plain one -/
def Tp (H : Hp) (a : Addr) (xs : List V) : Prop := ∃ ob : Obj, H a = some (.frz ob (.tup xs)) ∧ ob.cls = .type "tuple" ∧ ob.dict = none
theorem Tp.sq {K : PySem.W.Frag} {H : Hp} {a : Addr} {xs : List V} (h : Tp H a xs) : SqT K H a xs := by
  obtain ⟨ob, e, _⟩ := h
  exact .inl (.inr ⟨ob, e⟩)
theorem Tp.oth {p a : Addr} {H H' : Hp} {xs : List V} (h : Tp H a xs) (o : Oth p H H') (n : a ≠ p) : Tp H' a xs := by
  obtain ⟨ob, e, r⟩ := h
  exact ⟨ob, o _ _ e n, r⟩
theorem Tp.same {a : Addr} {H H' : Hp} {xs : List V} (h : Tp H a xs) (o : Same H H') : Tp H' a xs := by
  obtain ⟨ob, e, r⟩ := h
  exact ⟨ob, o _ _ e, r⟩
section
variable {X : Cx}
theorem call_tupleF : CallR X (.type "tuple") (fun us H Q => ∃ p ys, us = [.ref p] ∧ SqL X.K H p ys ∧ ∀ l ob, H l = none → ob.cls = .type "tuple" → ob.dict = none → Q (.ref l) (upd H l (.frz ob (.tup ys)))) := by
  intro pins st σ H xs ws Q I rel hyp
  obtain ⟨p, ys, rfl, hq, q⟩ := hyp
  obtain ⟨wv, rfl, rw1⟩ := vals1 rel
  cases rw1
  obtain ⟨its, rI, isl, hsz⟩ := I.list hq
  have hle := rI.length
  refine call_tuple_list isl.isList (fun h1 kp1 => ?_) (by simp only [List.size_toArray] <;> omega)
  have J : Inv X pins σ H { st with heap := h1 } := I.kept (t' := st.toks) kp1
  let ob : Obj := { cls := .type "tuple", data := .seq its.toArray }
  have J2 : Inv X pins σ (upd H h1.objs.size (.frz ob (.tup ys))) { st with heap := h1.push ob } :=
    J.laid (t' := st.toks) (fun b o e => Heap.get?_push_of_some _ e) (Nat.le_refl _) ⟨Heap.get?_push_size _ rfl, hsz, its, rI, IsTup.new _ _⟩
  exact ⟨.ref h1.objs.size, _, J2, rfl, q _ ob (J.hok.fresh (Nat.le_refl _)) rfl rfl⟩
/-- a method of such a tuple, with arguments -/
def tTM (r : V → List V → Hp → VK → Prop) (tob : TE) (targs : TA) : TE := fun σ H Q => tob σ H fun x H1 => (∃ p ys, x = .ref p ∧ Tp H1 p ys) ∧ targs σ H1 fun xs H2 => r x xs H2 Q
theorem pe_bmT {ob e : Expr} {es : List Expr} {tob : TE} {targs : TA} {name : Str} {apos cpos : Pos} {id : String} {r : V → List V → Hp → VK → Prop} (slot : Slot "tuple" name id) (hty : typeOf (.builtin id) = pure (.type "method_descriptor")) (hm : MtR X id r) (ho : PE X ob tob) (ha : PA X (e :: es) targs)
    (hbase : attributeBase ob name X.env (eval ob X.env) = eval ob X.env := by rfl)
    (hfew : ((backTo cpos (starEach (e :: es) X.env)).all (fun x => !x.1) && (backToKw cpos (keywordEach [] X.env)).all (fun x => x.1.isSome) && decide ((e :: es).length + ([] : List Keyword).length + (if ([] : List Keyword).isEmpty then 0 else 1) < 30)) = true := by rfl)
    (hline : (apos.endLine == cpos.line) = true := by rfl) (hs : starEach (e :: es) X.env = (false, eval e X.env) :: starEach es X.env := by rfl) (hpl : (backTo cpos (starEach es X.env)).any (·.1) = false := by rfl) :
    PE X (.Call (.Attribute ob name apos) (e :: es) [] cpos) (tTM r tob targs) := by
  refine ⟨fun pins st σ H Q I hyp => wpAny_Call_method_late hbase hfew hline rfl (thn (ho.run pins st σ H _ I hyp) ?_)⟩
  rintro vv s1 ⟨x, H1, I1, r1, ⟨p, ys, rfl, od, e1, e2, e3⟩, q1⟩
  cases r1
  have hob : s1.heap.get? p = some od := (I1.hok p _ e1).1
  refine ⟨"tuple", id, PySem.F.plainAttrs_tuple, slot, hty, ⟨od, hob, e2⟩, fun a ea => by cases ea; exact ⟨od, hob, e3⟩, ?_⟩
  have run := ha.run cpos pins s1 σ H1 _ I1 q1
  rw [hs] at run ⊢
  exact Calls.callWith_builtin (by show (false || (backTo cpos (starEach es X.env)).any (·.1)) = false; rw [hpl] <;> rfl) (Calls.evalArgs_plain (thn run fun us s2 ⟨vs, H2, I2, r2, q2⟩ => hm pins s2 σ H2 (.ref p) vs (.ref p) us Q I2 rfl r2 q2))
/-- repr of data, where no repr is under way -/
theorem call_reprD (hg : X.A.guards = some []) (hu : X.A.units + 64 < cLine) : CallR X (.builtin "repr") (fun us H Q => ∃ (a : Addr) (d : PyData), us = [.ref a] ∧ Dp X.K H (.ref a) d ∧ d.showable = true ∧ d.hasDict = false ∧ d.depth < 60 ∧ d.shown.length ≤ sizeLine ∧ Q (.str d.shown) H) := by
  intro pins st σ H xs ws Q I rel hyp
  obtain ⟨a, d, rfl, hd, hs, hn, hdep, hz, q⟩ := hyp
  obtain ⟨wv, rfl, rw1⟩ := vals1 rel
  cases rw1
  obtain ⟨as, rd⟩ := Dp.reads I d (.ref a) (.ref a) hd rfl
  exact repr_of_reads' rd hs (fun z => by rw [hn] at z; cases z) hg (by omega) (fun _ _ e => e) (fun h1 u tk kp => ⟨.str _, H, I.kept (t' := tk) kp, ⟨u, rfl⟩, q⟩) hz
end
end HF
/-! defs that ask repr: their promise holds where no repr is under way -/
namespace HF
open PySem PySem.Spec PyProof.Rows L2
structure FnG (P : Program) (w : World) (K : PySem.W.Frag) (mg : Str → Option Value) (base : Heap) (CX : CXT) (k : Nat) (f : Addr) (fd : FuncData) (ps : List Str) (sp : Sp) : Prop where
  many : ∀ vs H Q E, sp vs H Q E → vs.length = ps.length
  goes : ∀ (A : Around) (outer : List Env) (st : Shared) (H : Hp) (args : Args) (us : List Value) (vs : List V) (Q : VK) (E : XK), A.guards = some [] → Room k A → Env0 P w K mg base A outer st H → BindsTo st fd args (ps.zip us) → Vals vs us → sp vs H Q E →
    codeAny (model P w) A (.call (.ref f) args) (CR CX outer P w H st Q E) st
theorem FnG.of {P : Program} {w : World} {K : PySem.W.Frag} {mg : Str → Option Value} {base : Heap} {CX : CXT} {k : Nat} {f : Addr} {fd : FuncData} {ps : List Str} {sp : Sp} (F : FnOk P w K mg base CX k f fd ps sp) : FnG P w K mg base CX k f fd ps sp :=
  ⟨F.len, fun A outer st H args us vs Q E _ => F.run A outer st H args us vs Q E⟩
section
variable {P : Program} {w : World} {K : PySem.W.Frag} {mg : Str → Option Value} {base : Heap}
theorem okG {x qual : Str} {st : Stmt} {f : Addr} {fd : FuncData} {N ps : List Str} {k : Nat} {sp : Sp} (F : Fun K x qual st f fd) (S : FnScope N ps (defScope st)) (len : ∀ vs H Q E, sp vs H Q E → vs.length = ps.length)
    (body : ∀ (cdv : Value) (A : Around) (outer : List Env) (t : Shared) (H : Hp) (vs : List V) (Q : VK) (E : XK), A.guards = some [] → Room k (A.deeper (envOfC qual (defScope st) t.heap.objs.size f cdv)) → sp vs H Q E →
      ∃ rd, PSs (cxOf CX0 P w K mg base N qual (defScope st) f cdv A outer t H E).nox (defBody st) rd ∧ rd { nx := fun _ H' => Q .non H', rt := Q } (start N vs) H) : FnG P w K mg base CX0 (k + 1) f fd ps sp := by
  obtain ⟨oc, od, kV, doc, pm, an, cdv, ct, osl, rfl, found, code⟩ := F.ex
  refine ⟨len, fun A outer t H args us vs Q E gd room env bd rel want => ?_⟩
  have many := len _ _ _ _ want
  have kin : K.In t.heap := env.mod.kin.keeps fun b o e => (env.bs b o e).1
  have lim : t.heap.NoLimit := env.mod.nolimit.keeps fun b o e => (env.bs b o e).1
  have kinds : ∀ y ∈ ps.zip us, (defScope st).names.lookup y.1 = some .local ∨ ((defScope st).names.lookup y.1 = some .cell ∧ ((cellsFrom (t.heap.objs.size + 1) (defScope st).names []).lookup y.1).isSome = true) := by
    rintro ⟨nm, v⟩ hy
    exact (S.par nm (List.of_mem_zip hy).1).imp id fun z => ⟨z, PySem.W.cellsFrom_some _ _ _ (.inl z)⟩
  refine codeAny_call_function room.depth (kin _ _ found) rfl S.co S.gen rfl (PySem.W.codeRec_of kin code) (bd _ _ _ _ (wpAny_newFunctionEnv_cells S.kind kinds ?_))
  rintro env1 rfl t1 inC
  refine ⟨lim.keeps inC.toInCall.keep, codeAny_func ?_⟩
  obtain ⟨rd, hps, hrd⟩ := body cdv A outer t H vs Q E gd (room.deeper _) want
  have J : Inv (cxOf CX0 P w K mg base N qual (defScope st) f cdv A outer t H E) [] (start N vs) H t1 := inv_start S room.hd env many rel inC
  refine wpAny_mono (hps.nox.run [] t1 (start N vs) H _ J hrd) (fun fl t2 res => ?_) fun _ _ z => z
  cases fl with
  | ret u =>
    obtain ⟨v, σ2, H2, J2, rv, q2⟩ := res
    exact ⟨v, H2, J2.os, J2.bare, J2.base, J2.hok, rv, q2⟩
  | next =>
    obtain ⟨σ2, H2, J2, q2⟩ := res
    exact ⟨.non, H2, J2.os, J2.bare, J2.base, J2.hok, rfl, q2⟩
  | brk => exact res.elim fun _ z => z.elim fun _ z => z.2.elim
  | cont => exact res.elim fun _ z => z.elim fun _ z => z.2.elim
end
section
variable {X : Cx} {CX : CXT} {k : Nat} {f : Addr} {fd : FuncData} {ps : List Str} {sp : Sp} {E : XK} {x : Str} {p pos : Pos} {e : Expr} {es : List Expr} {ts : TA}
theorem pe_callG (F : FnG X.prog X.w X.K X.mg X.base CX k f fd ps sp) (gd : X.A.guards = some []) (room : Room k X.A) (hgl : Gl X x) (hmg : X.mg x = some (.ref f)) (hkp : PySem.W.keepIn X.K (.ref f) = true) (hbd : Binds X.K fd ps []) (hps : Passes CX X E)
    (ha : PA X (e :: es) ts) (hdb : (x == ("__debug__" : Str)) = false := by decide) (hst : starEach (e :: es) X.env = (false, eval e X.env) :: starEach es X.env := by rfl) (hpl : (backTo pos (starEach es X.env)).any (·.1) = false := by rfl) :
    PE X (.Call (.Name x p) (e :: es) [] pos) (tCall sp [] E ts) := by
  refine ⟨fun pins st σ H Q I want => wpAny_Call_Name_kw (ld_glob I hgl hmg (PySem.W.callWith_K (h₀ := X.base) I.ok.mod.kin hkp (thn (ha.run pos pins st σ H _ I want) ?_) hst hpl) hdb)⟩
  rintro us s1 ⟨vs, H1, J, rel, q⟩
  rw [List.append_nil] at q
  have hl : us.length = ps.length := rel.length.symm.trans (F.many _ _ _ _ q)
  have bd := hbd s1 us J.kIn (by rw [List.append_nil]; exact hl)
  rw [List.append_nil] at bd
  refine ⟨J.kIn, wpAny_call (codeAny_mono (F.goes X.A X.stack s1 H1 ⟨us, []⟩ us vs Q E gd room J.env0 bd rel q) fun res s2 hq => ?_)⟩
  cases res with
  | error er => exact hps pins σ H1 s1 er s2 J hq
  | ok fl =>
    cases fl with
    | ret u => exact J.after hq
    | next => exact hq.elim
    | brk => exact hq.elim
    | cont => exact hq.elim
end
/-- the law's own call, from its promise where no repr is under way -/
theorem law_callG {P : Program} {w : World} {K : PySem.W.Frag} {mg mb : Str → Option Value} {k : Nat} {fa a : Addr} {fd : FuncData} {x : Str} {sp : Sp} {t : Shared} {us : List Value} {ns : List Int}
    (kin : K.In t.heap) (gl : t.heap.Ns mainGlobals mg) (bl : t.heap.Ns builtinsNs mb) (bb : ∀ y : Str, y ≠ "__name__" → mb y = bootBuiltins y) (lim : t.heap.NoLimit) (gens : t.gens = #[])
    (scr : t.heap.get? a = some { cls := .type "list", data := .seq us.toArray }) (nsv : IntsAre us ns) (few : ns.length ≤ sizeLine) (room : Room k callerA)
    (F : ∀ base : Heap, K.In base → base.Ns mainGlobals mg → FnG P w K mg base CX0 k fa fd [x] sp) (bd : ∀ (st : Shared) (u : Value), BindsTo st fd ⟨[u], []⟩ [(x, u)])
    (want : ∀ H : Hp, Only H → SqL K H a (ns.map V.int) → sp [.ref a] H (fun v _ => v = .bl true) fun _ _ _ => False) :
    codeAny (model P w) callerA (.call (.ref fa) ⟨[.ref a], []⟩) (fun r t' => r = .ok (.ret (.bool true)) ∧ OldK t.heap t'.heap ∧ t'.os = t.os ∧ AllBare t'.gens) t := by
  have rel := vals_ints nsv
  have main : ∀ H : Hp, Only H → SqL K H a (ns.map V.int) → HOk P w H t.heap → (∀ b, H b ≠ none → b = a ∧ K.lookup a = none) →
      codeAny (model P w) callerA (.call (.ref fa) ⟨[.ref a], []⟩) (fun r t' => r = .ok (.ret (.bool true)) ∧ OldK t.heap t'.heap ∧ t'.os = t.os ∧ AllBare t'.gens) t := by
    intro H only seq ok alone
    have none_of : ∀ b, (b = a → K.lookup a ≠ none) → H b = none := fun b h => by
      cases e : H b with
      | none => rfl
      | some u =>
        have z := alone b (by rw [e]; simp)
        exact absurd z.2 (h z.1)
    have spaces : ∀ {b : Addr} {m : Str → Option Value}, t.heap.Ns b m → (hidT t.heap H).Ns b m := by
      rintro b m ⟨o, es, ep, e, d, r⟩
      refine ⟨o, es, ep, hidT_get e ?_, d, r⟩
      cases e2 : H b with
      | none => rfl
      | some u =>
        have z := (alone b (by rw [e2]; simp)).1
        subst z
        rw [scr] at e
        cases e
        exact nomatch (show Data.seq us.toArray _ = Data.dict es ep from d)
    have kin2 : K.In (hidT t.heap H) := fun b o e => hidT_get (kin b o e) (none_of b fun z => by rw [← z, e]; simp)
    obtain ⟨mc, c1, c2⟩ := lim
    have env : Env0 P w K mg (hidT t.heap H) callerA [] t H :=
      ⟨rfl, ⟨kin2, spaces gl, ⟨mb, spaces bl, bb⟩, ⟨mc, spaces c1, c2⟩⟩, fun b o e => of_hidT e, Nat.le_of_eq (hidT_size _ _), trivial, fun b hb => absurd (show b ∈ ([] : List Addr) from hb) (by simp), ok, .of_eq gens⟩
    refine codeAny_mono ((F _ kin2 (spaces gl)).goes callerA [] t H ⟨[.ref a], []⟩ [.ref a] [.ref a] _ _ rfl room env (bd t (.ref a)) (.cons rfl .nil) (want H only seq)) fun res t2 h => ?_
    cases res with
    | error er => exact h.elim
    | ok fl =>
      cases fl with
      | next => exact h.elim
      | brk => exact h.elim
      | cont => exact h.elim
      | ret u =>
        obtain ⟨v, H2, os, bare, un, ok2, rv, q⟩ := h
        cases (show v = .bl true from q)
        cases (show u = Value.bool true from rv)
        refine ⟨rfl, OldK.of_keep fun b o e => ?_, os, bare⟩
        cases e2 : H b with
        | none => exact un.keep b o e e2 (fun z => absurd (show b ∈ ([] : List Addr) from z) (by simp)) (by simp)
        | some u =>
          rcases only b with z | ⟨ob, xs, z⟩
          · rw [e2] at z
            cases z
          · have o1 := (ok b _ z).1
            have o2 := (ok2 b _ (un.frzs b ob _ z)).1
            rw [e] at o1
            cases o1
            exact o2
  cases there : K.lookup a with
  | some o =>
    have e := kin a o there
    rw [scr] at e
    cases e
    exact main (fun _ => none) (fun _ => .inl rfl) (.inr ⟨_, us.toArray, _, there, rfl, rfl, rfl, by rw [List.size_toArray, nsv.length]; exact few, by simpa using rel⟩) (fun b u z => nomatch (show (none : Option HO) = some u from z)) (fun b z => absurd rfl z)
  | none =>
    refine main (upd (fun _ => none) a (.frz { cls := .type "list", data := .seq us.toArray } (.lst (ns.map V.int)))) (fun b => ?_) (.inl (.inr ⟨_, upd_same⟩)) (fun b u z => ?_) (fun b z => ?_)
    · by_cases hb : b = a
      · rw [hb]
        exact .inr ⟨_, _, upd_same⟩
      · exact .inl (upd_ne hb)
    · by_cases hb : b = a
      · subst hb
        rw [upd_same] at z
        cases z
        exact ⟨scr, by rw [List.length_map]; exact few, us, _, rel, scr⟩
      · rw [upd_ne hb] at z
        cases z
    · by_cases hb : b = a
      · exact ⟨hb, there⟩
      · exact absurd (upd_ne hb) z
theorem walkG {l : PySem.W.OpenLaw} {n k : Nat} {q : Program} {loose : List Str} {XP : (Str → Option Value) → Heap → Prop} {YP : World → Heap → Prop} {d : DefRec} {K : Params → PySem.W.Frag} {sp : PySem.W.Frag → Sp} {x : Str}
    (most : l.most = some n) (few : n ≤ sizeLine) (nodef : d.params.defaults = []) (room : Room k callerA) (top : ∀ (w : World) (h : Heap), YP w h → (K w.params).In h)
    (F : ∀ (w : World) (mg : Str → Option Value) (fa : Addr) (h : Heap), (K w.params).In h → h.Ns mainGlobals mg → mg d.name = some (.ref fa) →
      ∃ fd : FuncData, (∀ (st : Shared) (u : Value), BindsTo st fd ⟨[u], []⟩ [(x, u)]) ∧ ∀ base : Heap, (K w.params).In base → base.Ns mainGlobals mg → FnG l.prog w (K w.params) mg base CX0 k fa fd [x] (sp (K w.params)))
    (want : ∀ (K : PySem.W.Frag) (H : Hp) (a : Addr) (ns : List Int), ns.length ≤ n → Only H → SqL K H a (ns.map V.int) → sp K [.ref a] H (fun v _ => v = .bl true) fun _ _ _ => False) :
    PySem.W.WalkO q loose XP YP l.row.toRowW d [] (fun f vs => PySem.call f vs) := by
  refine Att.attach_call most nodef fun w s0 t mg mb fa o pm cd doc a us ns G Y _ _ _ hmg scr nsv hlen gens => ?_
  obtain ⟨fd, bd, hF⟩ := F w mg fa _ (top w _ Y) G.T.g hmg
  exact law_callG (top w _ Y) G.T.g G.T.b G.T.builtins G.T.nolimit gens scr nsv (Nat.le_trans hlen few) room hF bd fun H only seq => want _ H a ns hlen only seq
end HF
namespace HF
open PySem PySem.Spec PyProof.Rows L2
/-! ### places -/
def pos (x : Str) : List Str → Nat
  | [] => 0
  | z :: r => if z = x then 0 else pos x r + 1
theorem pos_get {x : Str} : ∀ {zs : List Str}, x ∈ zs → zs[pos x zs]? = some x
  | z :: r, h => by
    unfold pos
    by_cases e : z = x
    · rw [if_pos e, e]
      rfl
    · rw [if_neg e, List.getElem?_cons_succ]
      exact pos_get ((List.mem_cons.mp h).resolve_left fun q => e q.symm)
theorem pos_first {x : Str} : ∀ {zs : List Str} {m : Nat}, m < pos x zs → zs[m]? ≠ some x
  | [], m, h => by simp
  | z :: r, m, h => by
    unfold pos at h
    by_cases e : z = x
    · rw [if_pos e] at h
      omega
    · rw [if_neg e] at h
      cases m with
      | zero =>
        intro q
        exact e (Option.some.inj q)
      | succ m =>
        rw [List.getElem?_cons_succ]
        exact pos_first (by omega)
theorem pos_inj {x y : Str} {zs : List Str} (hx : x ∈ zs) (hy : y ∈ zs) (h : pos x zs = pos y zs) : x = y := by
  have h1 := pos_get hx
  rw [h, pos_get hy] at h1
  exact (Option.some.inj h1).symm
abbrev sLies : Stmt := topS 1
abbrev sAbove : Stmt := topS 12
theorem scLies : FnScope ["heap", "one", "other"] ["heap", "one", "other"] (defScope sLies) := ⟨rfl, rfl, rfl, by decide +kernel, rfl, by decide +kernel, by decide +kernel⟩
theorem scAbove : FnScope ["_law_stack", "_law_mine", "_law_its"] ["_law_stack", "_law_mine", "_law_its"] (defScope sAbove) := ⟨rfl, rfl, rfl, by decide +kernel, rfl, by decide +kernel, by decide +kernel⟩
def Hq (K : PySem.W.Frag) (H : Hp) (a : Addr) (zs : List Str) : Prop := SqL K H a (zs.map V.str) ∨ Tp H a (zs.map V.str)
theorem Hq.same {K : PySem.W.Frag} {a : Addr} {H H' : Hp} {zs : List Str} (h : Hq K H a zs) (o : Same H H') : Hq K H' a zs := h.imp (fun z => o.seq z) fun z => z.same o
theorem sameQ {K : PySem.W.Frag} {a : Addr} {H H' : Hp} {xs : List V} (o : Same H H') (h : Sq K H a xs) : Sq K H' a xs := h.imp (fun z => o.seq z) fun z => sameT o z
theorem strs_at {zs : List Str} {i : Nat} {z : Str} (h : zs[i]? = some z) : (zs.map V.str)[i]? = some (.str z) := by
  rw [List.getElem?_map, h]
  rfl
theorem strs_first {zs : List Str} {x : Str} : ∀ (m : Nat) (z : V), m < pos x zs → (zs.map V.str)[m]? = some z → eqV z (.str x) = false := by
  intro m z hm hz
  rw [List.getElem?_map] at hz
  obtain ⟨y, hy, rfl⟩ := Option.map_eq_some_iff.mp hz
  have hne : y ≠ x := fun e => pos_first hm (e ▸ hy)
  simpa [eqV] using hne
section
variable {P : Program} {w : World} {K : PySem.W.Frag} {mg : Str → Option Value} {base : Heap}
def spLies (K : PySem.W.Frag) : Sp := fun vs H Q _ => ∃ (a : Addr) (zs : List Str) (x y : Str), vs = [.ref a, .str x, .str y] ∧ Hq K H a zs ∧ x ∈ zs ∧ y ∈ zs ∧ Q (.bl (decide ((pos x zs : Int) < (pos y zs : Int)))) H
theorem ok_Lies {f : Addr} {fd : FuncData} {k : Nat} (F : Fun K "lies_above" "lies_above" sLies f fd) : FnOk P w K mg base CX0 (k + 1) f fd ["heap", "one", "other"] (spLies K) := by
  refine F.ok scLies (fun vs H Q E h => ?_) (fun cdv A outer s H vs Q E hr h => ?_)
  · obtain ⟨a, zs, x, y, rfl, _⟩ := h
    rfl
  · obtain ⟨a, zs, x, y, rfl, hq, hx, hy, q⟩ := h
    rcases hq with hq | hq
    · refine ⟨_, pss_one (ps_ret (pe_cmpR op_lt (pe_bm PySem.F.plainAttrs_list PySem.F.slot_list_index PySem.F.type_list_index mt_index (pv 0) (pa_cons (pv 1) pa_nil)) (pe_bm PySem.F.plainAttrs_list PySem.F.slot_list_index PySem.F.type_list_index mt_index (pv 0) (pa_cons (pv 2) pa_nil)) (nomark _))), ?_⟩
      exact ⟨.ref a, rfl, .inl ⟨rfl, _, hq⟩, .str x, rfl, a, _, .str x, pos x zs, .str x, rfl, rfl, hq, rfl, strs_all, strs_at (pos_get hx), (by simp [eqV]), strs_first, .ref a, rfl, .inl ⟨rfl, _, hq⟩, .str y, rfl, a, _, .str y, pos y zs, .str y, rfl, rfl, hq, rfl, strs_all, strs_at (pos_get hy), (by simp [eqV]), strs_first, _, _, rfl, rfl, q⟩
    · refine ⟨_, pss_one (ps_ret (pe_cmpR op_lt (pe_bmT PySem.F.slot_tuple_index PySem.F.type_tuple_index mt_tup_index (pv 0) (pa_cons (pv 1) pa_nil)) (pe_bmT PySem.F.slot_tuple_index PySem.F.type_tuple_index mt_tup_index (pv 0) (pa_cons (pv 2) pa_nil)) (nomark _))), ?_⟩
      exact ⟨.ref a, rfl, ⟨a, _, rfl, hq⟩, .str x, rfl, a, zs, x, pos x zs, rfl, rfl, hq.sq, pos_get hx, fun m hm => pos_first hm, .ref a, rfl, ⟨a, _, rfl, hq⟩, .str y, rfl, a, zs, y, pos y zs, rfl, rfl, hq.sq, pos_get hy, fun m hm => pos_first hm, _, _, rfl, rfl, q⟩
theorem ok_Above {f : Addr} {fd : FuncData} {k : Nat} (F : Fun K "_law_above" "_law_above" sAbove f fd) : FnOk P w K mg base CX0 (k + 1) f fd ["_law_stack", "_law_mine", "_law_its"] (spLies K) := by
  refine F.ok scAbove (fun vs H Q E h => ?_) (fun cdv A outer s H vs Q E hr h => ?_)
  · obtain ⟨a, zs, x, y, rfl, _⟩ := h
    rfl
  · obtain ⟨a, zs, x, y, rfl, hq, hx, hy, q⟩ := h
    rcases hq with hq | hq
    · refine ⟨_, pss_one (ps_ret (pe_cmpR op_lt (pe_bm PySem.F.plainAttrs_list PySem.F.slot_list_index PySem.F.type_list_index mt_index (pv 0) (pa_cons (pv 1) pa_nil)) (pe_bm PySem.F.plainAttrs_list PySem.F.slot_list_index PySem.F.type_list_index mt_index (pv 0) (pa_cons (pv 2) pa_nil)) (nomark _))), ?_⟩
      exact ⟨.ref a, rfl, .inl ⟨rfl, _, hq⟩, .str x, rfl, a, _, .str x, pos x zs, .str x, rfl, rfl, hq, rfl, strs_all, strs_at (pos_get hx), (by simp [eqV]), strs_first, .ref a, rfl, .inl ⟨rfl, _, hq⟩, .str y, rfl, a, _, .str y, pos y zs, .str y, rfl, rfl, hq, rfl, strs_all, strs_at (pos_get hy), (by simp [eqV]), strs_first, _, _, rfl, rfl, q⟩
    · refine ⟨_, pss_one (ps_ret (pe_cmpR op_lt (pe_bmT PySem.F.slot_tuple_index PySem.F.type_tuple_index mt_tup_index (pv 0) (pa_cons (pv 1) pa_nil)) (pe_bmT PySem.F.slot_tuple_index PySem.F.type_tuple_index mt_tup_index (pv 0) (pa_cons (pv 2) pa_nil)) (nomark _))), ?_⟩
      exact ⟨.ref a, rfl, ⟨a, _, rfl, hq⟩, .str x, rfl, a, zs, x, pos x zs, rfl, rfl, hq.sq, pos_get hx, fun m hm => pos_first hm, .ref a, rfl, ⟨a, _, rfl, hq⟩, .str y, rfl, a, zs, y, pos y zs, rfl, rfl, hq.sq, pos_get hy, fun m hm => pos_first hm, _, _, rfl, rfl, q⟩
end
/-! ### the program's pairs round a ring, and how many go up -/
abbrev sRt : Stmt := topS 3
abbrev sRn : Stmt := topS 4
abbrev sNum : Stmt := topS 13
theorem scRt : FnScope ["ring", "at"] ["ring"] (defScope sRt) := ⟨rfl, rfl, rfl, by decide +kernel, rfl, by decide +kernel, by decide +kernel⟩
theorem scRn : FnScope ["heap", "ring", "book", "friend"] ["heap", "ring"] (defScope sRn) := ⟨rfl, rfl, rfl, by decide +kernel, rfl, by decide +kernel, by decide +kernel⟩
theorem scNum : FnScope ["_law_stack", "_law_loop", "_law_mine", "_law_its"] ["_law_stack", "_law_loop"] (defScope sNum) := ⟨rfl, rfl, rfl, by decide +kernel, rfl, by decide +kernel, by decide +kernel⟩
def TsAt (H : Hp) (ts : List Addr) (ps : List (V × V)) : Prop := ∀ (i : Nat) (t : Addr) (q : V × V), ts[i]? = some t → ps[i]? = some q → H t = some (.tup [q.1, q.2])
theorem prev_at {ms : List V} {y : V} {i : Nat} (hi : i < (ms ++ [y]).length) : ∃ u v, atI (ms ++ [y]) ((0 + (i : Int)) - 1) = some u ∧ atI (ms ++ [y]) (0 + (i : Int)) = some v ∧ ((y :: (ms ++ [y])).zip (ms ++ [y]))[i]? = some (u, v) := by
  have hv : (ms ++ [y])[i]? = some (ms ++ [y])[i] := List.getElem?_eq_getElem hi
  have h2 : atI (ms ++ [y]) (0 + (i : Int)) = some (ms ++ [y])[i] := by
    rw [Int.zero_add]
    exact atI_nat hv
  cases i with
  | zero =>
    refine ⟨y, _, ?_, h2, ?_⟩
    · exact atI_last ms y
    · rw [List.getElem?_zip_eq_some]
      exact ⟨rfl, hv⟩
  | succ j =>
    have hj : j < (ms ++ [y]).length := by omega
    have hu : (ms ++ [y])[j]? = some (ms ++ [y])[j] := List.getElem?_eq_getElem hj
    refine ⟨(ms ++ [y])[j], _, ?_, h2, ?_⟩
    · rw [show (0 + ((j + 1 : Nat) : Int)) - 1 = (j : Int) by omega]
      exact atI_nat hu
    · rw [List.getElem?_zip_eq_some]
      exact ⟨hu, hv⟩
def up (zs : List Str) (q : Str × Str) : Bool := decide ((pos q.2 zs : Int) < (pos q.1 zs : Int))
def num (zs : List Str) (ps : List (Str × Str)) : Nat := (ps.filter (up zs)).length
section
variable {P : Program} {w : World} {K : PySem.W.Frag} {mg : Str → Option Value} {base : Heap}
def spRt (K : PySem.W.Frag) : Sp := fun vs H Q _ => ∃ (a : Addr) (ms : List V) (y : V), vs = [.ref a] ∧ Sq K H a (ms ++ [y]) ∧ ms.length ≤ 1000 ∧
  ∀ (H' : Hp) (D : Addr) (ts : List Addr), Same H H' → H D = none → H' D = some (.lst (ts.map V.ref)) → ts.length = (ms ++ [y]).length → TsAt H' ts ((y :: (ms ++ [y])).zip (ms ++ [y])) → Q (.ref D) H'
theorem ok_rt {f : Addr} {fd : FuncData} {k : Nat} (F : Fun K "ring_ties" "ring_ties" sRt f fd) (mR : mg "range" = none) (ml : mg "len" = none) : FnOk P w K mg base CX0 (k + 1) f fd ["ring"] (spRt K) := by
  refine F.ok scRt (fun vs H Q E h => ?_) (fun cdv A outer s H vs Q E hr h => ?_)
  · obtain ⟨a, ms, y, rfl, _⟩ := h
    rfl
  · obtain ⟨a, ms, y, rfl, hS, hlen, q⟩ := h
    rcases hS with hS | hS
    · refine ⟨_, pss_one (ps_ret (pe_lc (own := [("at", 1)]) (g := gName 1) (tt := tYes) rfl scRt.nd (pi_range1 (by rfl) mR (pa_cons (pe_callB call_len_seq (by rfl) ml PySem.boot_len (pa_cons (pv 0) pa_nil)) pa_nil))
        (blkOk_by (N := ["ring", "at"]) (sc := defScope sRt) (by decide +kernel)) (fun _ _ _ _ _ => pg_name (i := 1) scRt.nd rfl (Or.inl rfl)) (fun _ _ _ _ _ => pts_nil)
        (fun _ _ _ _ _ => pe_tup (pa_cons (pe_ix (r := rIxL K) ix_list (pv 0) (pe_op op_sub (pv 1) pe_int) (fun _ _ => rfl)) (pa_cons (pe_ix (r := rIxL K) ix_list (pv 0) (pv 1) (fun _ _ => rfl)) pa_nil))))), ?_⟩
      refine ⟨.ref a, rfl, a, _, rfl, .inl hS, _, rfl, ?_, ?_, fun D nD => lc_range (lo := 0) (n := (ms ++ [y]).length) (fun i H4 => ∃ ts : List Addr, ts.length = i ∧ H4 D = some (.lst (ts.map V.ref)) ∧ Same H H4 ∧ TsAt H4 ts ((y :: (ms ++ [y])).zip (ms ++ [y]))) ?_ ?_ ?_⟩
      · omega
      · rw [List.length_append]
        show ((ms.length + 1 : Nat) : Int) < 2 ^ 62
        omega
      · exact ⟨[], rfl, upd_same, same_upd nD, fun i t q h => by simp at h⟩
      · rintro i H4 hi ⟨ts, htl, hD, sm, hts⟩
        obtain ⟨u, v, hu, hv, huv⟩ := prev_at hi
        have hS4 := sm.seq hS
        refine ⟨rfl, .ref a, rfl, .int (0 + (i : Int)), rfl, 0 + (i : Int), 1, rfl, rfl, a, _, _, u, rfl, rfl, hS4, hu, .ref a, rfl, .int (0 + (i : Int)), rfl, a, _, _, v, rfl, rfl, hS4, hv, (by decide : (2 : Nat) ≤ sizeLine), fun T nT => ?_⟩
        have nDT : D ≠ T := ne_of_none hD nT
        refine ⟨_, (by rw [upd_ne nDT]; exact hD), ?_, ts ++ [T], by rw [List.length_append, htl]; rfl, ?_, ?_, ?_⟩
        · rw [List.length_map, htl, PySem.sizeLine_eq]
          rw [List.length_append] at hi
          simp at hi
          omega
        · rw [upd_same, List.map_append]
          rfl
        · intro b o e
          rw [upd_ne (ne_of_none e nD)]
          exact same_upd nT _ _ (sm _ _ e)
        · intro j t qq ht hq
          by_cases hj : j < ts.length
          · rw [List.getElem?_append_left hj] at ht
            have h5 := hts j t qq ht hq
            rw [upd_ne (ne_of h5 hD (by intro z; cases z)), upd_ne (ne_of_none h5 nT)]
            exact h5
          · rw [List.getElem?_append_right (by omega)] at ht
            have hjl : j = ts.length := by
              rcases Nat.lt_or_ge 0 (j - ts.length) with h6 | h6
              · rw [List.getElem?_eq_none (by simp; omega)] at ht
                cases ht
              · omega
            subst hjl
            rw [Nat.sub_self] at ht
            cases ht
            rw [htl, huv] at hq
            cases hq
            rw [upd_ne nDT.symm, upd_same]
      · rintro H4 ⟨ts, htl, hD, sm, hts⟩
        exact q H4 D ts sm nD hD htl hts
    · refine ⟨_, pss_one (ps_ret (pe_lc (own := [("at", 1)]) (g := gName 1) (tt := tYes) rfl scRt.nd (pi_range1 (by rfl) mR (pa_cons (pe_callB call_len_seq (by rfl) ml PySem.boot_len (pa_cons (pv 0) pa_nil)) pa_nil))
        (blkOk_by (N := ["ring", "at"]) (sc := defScope sRt) (by decide +kernel)) (fun _ _ _ _ _ => pg_name (i := 1) scRt.nd rfl (Or.inl rfl)) (fun _ _ _ _ _ => pts_nil)
        (fun _ _ _ _ _ => pe_tup (pa_cons (pe_ix (r := rIxT K) ix_tup (pv 0) (pe_op op_sub (pv 1) pe_int) (fun _ _ => rfl)) (pa_cons (pe_ix (r := rIxT K) ix_tup (pv 0) (pv 1) (fun _ _ => rfl)) pa_nil))))), ?_⟩
      refine ⟨.ref a, rfl, a, _, rfl, .inr hS, _, rfl, ?_, ?_, fun D nD => lc_range (lo := 0) (n := (ms ++ [y]).length) (fun i H4 => ∃ ts : List Addr, ts.length = i ∧ H4 D = some (.lst (ts.map V.ref)) ∧ Same H H4 ∧ TsAt H4 ts ((y :: (ms ++ [y])).zip (ms ++ [y]))) ?_ ?_ ?_⟩
      · omega
      · rw [List.length_append]
        show ((ms.length + 1 : Nat) : Int) < 2 ^ 62
        omega
      · exact ⟨[], rfl, upd_same, same_upd nD, fun i t q h => by simp at h⟩
      · rintro i H4 hi ⟨ts, htl, hD, sm, hts⟩
        obtain ⟨u, v, hu, hv, huv⟩ := prev_at hi
        have hS4 := sameT sm hS
        refine ⟨rfl, .ref a, rfl, .int (0 + (i : Int)), rfl, 0 + (i : Int), 1, rfl, rfl, a, _, _, u, rfl, rfl, hS4, hu, .ref a, rfl, .int (0 + (i : Int)), rfl, a, _, _, v, rfl, rfl, hS4, hv, (by decide : (2 : Nat) ≤ sizeLine), fun T nT => ?_⟩
        have nDT : D ≠ T := ne_of_none hD nT
        refine ⟨_, (by rw [upd_ne nDT]; exact hD), ?_, ts ++ [T], by rw [List.length_append, htl]; rfl, ?_, ?_, ?_⟩
        · rw [List.length_map, htl, PySem.sizeLine_eq]
          rw [List.length_append] at hi
          simp at hi
          omega
        · rw [upd_same, List.map_append]
          rfl
        · intro b o e
          rw [upd_ne (ne_of_none e nD)]
          exact same_upd nT _ _ (sm _ _ e)
        · intro j t qq ht hq
          by_cases hj : j < ts.length
          · rw [List.getElem?_append_left hj] at ht
            have h5 := hts j t qq ht hq
            rw [upd_ne (ne_of h5 hD (by intro z; cases z)), upd_ne (ne_of_none h5 nT)]
            exact h5
          · rw [List.getElem?_append_right (by omega)] at ht
            have hjl : j = ts.length := by
              rcases Nat.lt_or_ge 0 (j - ts.length) with h6 | h6
              · rw [List.getElem?_eq_none (by simp; omega)] at ht
                cases ht
              · omega
            subst hjl
            rw [Nat.sub_self] at ht
            cases ht
            rw [htl, huv] at hq
            cases hq
            rw [upd_ne nDT.symm, upd_same]
      · rintro H4 ⟨ts, htl, hD, sm, hts⟩
        exact q H4 D ts sm nD hD htl hts
def spRn (K : PySem.W.Frag) : Sp := fun vs H Q _ => ∃ (h a : Addr) (zs ms : List Str) (y : Str), vs = [.ref h, .ref a] ∧ Hq K H h zs ∧ Sq K H a ((ms ++ [y]).map V.str) ∧ (∀ x ∈ ms ++ [y], x ∈ zs) ∧ ms.length ≤ 1000 ∧
  ∀ H' : Hp, Same H H' → Q (.int (num zs ((y :: (ms ++ [y])).zip (ms ++ [y])) : Nat)) H'
theorem ok_rn {f fR fA : Addr} {fd fdR fdA : FuncData} {k : Nat} (F : Fun K "ring_number" "ring_number" sRn f fd) (FR : Fun K "ring_ties" "ring_ties" sRt fR fdR) (FA : Fun K "lies_above" "lies_above" sLies fA fdA)
    (bR : Binds K fdR ["ring"] []) (bA : Binds K fdA ["heap", "one", "other"] []) (gR : mg "ring_ties" = some (.ref fR)) (gA : mg "lies_above" = some (.ref fA)) (mR : mg "range" = none) (ml : mg "len" = none) :
    FnOk P w K mg base CX0 (k + 2) f fd ["heap", "ring"] (spRn K) := by
  have GR : FnOk P w K mg base CX0 (k + 1) fR fdR ["ring"] (spRt K) := ok_rt FR mR ml
  have GA : FnOk P w K mg base CX0 (k + 1) fA fdA ["heap", "one", "other"] (spLies K) := ok_Lies FA
  refine F.ok scRn (fun vs H Q E h => ?_) (fun cdv A outer s H vs Q E hr h => ?_)
  · obtain ⟨h, a, zs, ms, y, rfl, _⟩ := h
    rfl
  · obtain ⟨h, a, zs, ms, y, rfl, hq, hS, hin, hlen, q⟩ := h
    refine ⟨_, pss_one (ps_ret (pe_callB call_len_seq (by rfl) ml PySem.boot_len (pa_cons (pe_lc (own := [("book", 2), ("friend", 3)]) (g := gTup K 2 (gCons (gName 2) (gCons (gName 3) gNil))) rfl scRn.nd
        (pi_list (pe_call GR hr (by rfl) gR FR.kp bR .nil pass0 (pa_cons (pv 1) pa_nil)))
        (blkOk_by (N := ["heap", "ring", "book", "friend"]) (sc := defScope sRn) (by decide +kernel)) (fun _ _ _ _ _ => pg_tup rfl (pgs_cons (pg_name (i := 2) scRn.nd rfl (.inl rfl)) (pgs_cons (pg_name (i := 3) scRn.nd rfl (.inl rfl)) pgs_nil)))
        (fun _ _ _ _ _ => pts_one (pt_val (pe_call GA hr (by rfl) gA FA.kp bA .nil pass0 (pa_cons (pv 0) (pa_cons (pv 3) (pa_cons (pv 2) pa_nil)))))) (fun _ _ _ _ _ => pv 2)) pa_nil))), ?_⟩
    rw [List.map_append] at hS
    refine ⟨.ref a, rfl, a, ms.map V.str, .str y, rfl, hS, by rw [List.length_map]; exact hlen, fun H1 D ts sm1 nD hD htl hts => ?_⟩
    have hzip : ((V.str y :: (ms.map V.str ++ [V.str y])).zip (ms.map V.str ++ [V.str y])) = ((y :: (ms ++ [y])).zip (ms ++ [y])).map fun q => (V.str q.1, V.str q.2) := by
      have e1 : ms.map V.str ++ [V.str y] = (ms ++ [y]).map V.str := by
        rw [List.map_append]
        rfl
      rw [e1, show V.str y :: (ms ++ [y]).map V.str = (y :: (ms ++ [y])).map V.str from rfl, List.zip_map]
      rfl
    rw [hzip] at hts
    have hzl : ((y :: (ms ++ [y])).zip (ms ++ [y])).length = ts.length := by
      rw [List.length_zip, htl]
      simp
    have hmem : ∀ qq ∈ (y :: (ms ++ [y])).zip (ms ++ [y]), qq.1 ∈ zs ∧ qq.2 ∈ zs := fun qq hqq => by
      have hm := List.of_mem_zip hqq
      refine ⟨?_, hin _ hm.2⟩
      rcases List.mem_cons.mp hm.1 with e | e
      · rw [e]
        exact hin _ (by simp)
      · exact hin _ e
    generalize (y :: (ms ++ [y])).zip (ms ++ [y]) = pp at *
    refine ⟨D, rfl, ⟨_, .inl (.inl hD)⟩, fun D2 nD2 => lc_list (xs := ts.map V.ref) (fun i H4 => ∃ acc : List V, acc.length = num zs (pp.take i) ∧ H4 D2 = some (.lst acc) ∧ Same H1 H4) ?_ ?_ ?_ ?_⟩
    · exact ⟨[], rfl, upd_same, same_upd nD2⟩
    · rintro i H4 hi ⟨acc, hacc, hD2, sm2⟩
      exact sm2.seq (.inl (.inl hD))
    · rintro i x H4 hx ⟨acc, hacc, hD2, sm2⟩
      rw [List.getElem?_map] at hx
      obtain ⟨t, ht, rfl⟩ := Option.map_eq_some_iff.mp hx
      have hil : i < pp.length := by
        rw [hzl]
        exact (List.getElem?_eq_some_iff.mp ht).1
      have hpi : pp[i]? = some pp[i] := List.getElem?_eq_getElem hil
      have htup : H1 t = some (.tup [V.str pp[i].1, V.str pp[i].2]) := hts i t _ ht (by rw [List.getElem?_map, hpi]; rfl)
      have hm := hmem pp[i] (List.getElem_mem hil)
      have hacl : acc.length ≤ i := by
        rw [hacc]
        refine Nat.le_trans (List.length_filter_le _ _) ?_
        rw [List.length_take]
        omega
      refine ⟨t, _, rfl, .inl (.inl (sm2 _ _ htup)), rfl, _, _, rfl, _, _, rfl, rfl, rfl, ?_⟩
      refine ⟨.ref h, rfl, .str pp[i].2, rfl, .str pp[i].1, rfl, h, zs, pp[i].2, pp[i].1, rfl, (hq.same sm1).same sm2, hm.2, hm.1, _, rfl, ?_⟩
      have hstep : num zs (pp.take (i + 1)) = num zs (pp.take i) + (if up zs pp[i] = true then 1 else 0) := by
        unfold num
        rw [List.take_add_one, hpi, List.filter_append, List.length_append]
        show _ + ([pp[i]].filter (up zs)).length = _
        by_cases e : up zs pp[i] = true
        · rw [if_pos e, List.filter_cons_of_pos e]
          rfl
        · rw [if_neg e, List.filter_cons_of_neg e]
          rfl
      refine ite2 (fun e => ?_) (fun e => ?_)
      · refine ⟨_, rfl, acc, hD2, ?_, acc ++ [.str pp[i].1], ?_, upd_same, ?_⟩
        · rw [PySem.sizeLine_eq]
          rw [hzl, htl, List.length_append, List.length_map] at hil
          simp at hil
          omega
        · rw [hstep, if_pos (show up zs pp[i] = true from e), List.length_append, hacc]
          rfl
        · intro b o eb
          rw [upd_ne (ne_of_none eb nD2)]
          exact sm2 _ _ eb
      · exact ⟨acc, by rw [hstep, if_neg (show ¬ up zs pp[i] = true from e), hacc]; rfl, hD2, sm2⟩
    · rintro H4 ⟨acc, hacc, hD2, sm2⟩
      rw [List.length_map, ← hzl, List.take_length] at hacc
      refine ⟨D2, acc, rfl, .inl (.inl (.inl hD2)), ?_⟩
      rw [hacc]
      exact q H4 (sm1.trans sm2)
def spNum (K : PySem.W.Frag) : Sp := fun vs H Q _ => ∃ (h a : Addr) (zs ls : List Str), vs = [.ref h, .ref a] ∧ Hq K H h zs ∧ SqL K H a (ls.map V.str) ∧ (∀ x ∈ ls, x ∈ zs) ∧ ls.length ≤ 1000 ∧ 1 ≤ ls.length ∧
  ∀ H' : Hp, Same H H' → Q (.int (num zs (ls.zip (ls.drop 1 ++ ls.take 1)) : Nat)) H'
theorem cutTo1 (xs : List V) : cutV xs none (some 1) = xs.take 1 := by
  unfold cutV
  rw [HT.sIx_none, show HT.sIx xs.length xs.length (some 1) = min 1 xs.length from HT.sIx_nat _ _ 1, List.drop_zero, Nat.sub_zero]
  cases xs with
  | nil => rfl
  | cons x r => rw [show min 1 (x :: r).length = 1 by rw [List.length_cons]; omega]
theorem cutFrom1 (xs : List V) : cutV xs (some 1) none = xs.drop 1 := by
  unfold cutV
  rw [show HT.sIx xs.length 0 (some 1) = min 1 xs.length from HT.sIx_nat xs.length 0 1, HT.sIx_none]
  cases xs with
  | nil => rfl
  | cons x r =>
    rw [show min 1 (x :: r).length = 1 by rw [List.length_cons]; omega]
    exact List.take_of_length_le (Nat.le_refl _)
theorem ok_num {f fA : Addr} {fd fdA : FuncData} {k : Nat} (F : Fun K "_law_number" "_law_number" sNum f fd) (FA : Fun K "_law_above" "_law_above" sAbove fA fdA)
    (bA : Binds K fdA ["_law_stack", "_law_mine", "_law_its"] []) (gA : mg "_law_above" = some (.ref fA)) (mz : mg "zip" = none) (ml : mg "len" = none) :
    FnOk P w K mg base CX0 (k + 2) f fd ["_law_stack", "_law_loop"] (spNum K) := by
  have GA : FnOk P w K mg base CX0 (k + 1) fA fdA ["_law_stack", "_law_mine", "_law_its"] (spLies K) := ok_Above FA
  refine F.ok scNum (fun vs H Q E h => ?_) (fun cdv A outer s H vs Q E hr h => ?_)
  · obtain ⟨h, a, zs, ls, rfl, _⟩ := h
    rfl
  · obtain ⟨h, a, zs, ls, rfl, hq, hS, hin, hlen, hlen1, q⟩ := h
    refine ⟨_, pss_one (ps_ret (pe_callB call_len_seq (by rfl) ml PySem.boot_len (pa_cons (pe_lc (own := [("_law_mine", 2), ("_law_its", 3)]) (g := gTup K 2 (gCons (gName 2) (gCons (gName 3) gNil))) rfl scNum.nd
        (pi_zip (by rfl) mz (pa_cons (pv 1) (pa_cons (pe_op op_cat (pe_slice sl_list (pv 1) (po_some pe_int) po_none) (pe_slice sl_list (pv 1) po_none (po_some pe_int))) pa_nil)))
        (blkOk_by (N := ["_law_stack", "_law_loop", "_law_mine", "_law_its"]) (sc := defScope sNum) (by decide +kernel)) (fun _ _ _ _ _ => pg_tup rfl (pgs_cons (pg_name (i := 2) scNum.nd rfl (.inl rfl)) (pgs_cons (pg_name (i := 3) scNum.nd rfl (.inl rfl)) pgs_nil)))
        (fun _ _ _ _ _ => pts_one (pt_val (pe_call GA hr (by rfl) gA FA.kp bA .nil pass0 (pa_cons (pv 0) (pa_cons (pv 3) (pa_cons (pv 2) pa_nil)))))) (fun _ _ _ _ _ => pe_int)) pa_nil))), ?_⟩
    refine ⟨.ref a, rfl, .ref a, rfl, 1, rfl, a, _, rfl, hS, fun C1 nC1 => ⟨.ref a, rfl, 1, rfl, a, _, rfl, (same_upd nC1).seq hS, fun C2 nC2 => ?_⟩⟩
    rw [cutFrom1] at nC2 ⊢
    rw [cutTo1]
    have sm2 : Same H (upd (upd H C1 (.lst ((ls.map V.str).drop 1))) C2 (.lst ((ls.map V.str).take 1))) := (same_upd nC1).trans (same_upd nC2)
    have hC1 : (upd (upd H C1 (.lst ((ls.map V.str).drop 1))) C2 (.lst ((ls.map V.str).take 1))) C1 = some (.lst ((ls.map V.str).drop 1)) := same_upd nC2 _ _ upd_same
    have hC2 : (upd (upd H C1 (.lst ((ls.map V.str).drop 1))) C2 (.lst ((ls.map V.str).take 1))) C2 = some (.lst ((ls.map V.str).take 1)) := upd_same
    generalize (upd (upd H C1 (.lst ((ls.map V.str).drop 1))) C2 (.lst ((ls.map V.str).take 1))) = H2 at *
    refine ⟨C1, C2, _, _, rfl, rfl, hC1, hC2, ?_, fun C3 nC3 => ?_⟩
    · rw [List.length_drop, List.length_take, List.length_map, PySem.sizeLine_eq]
      omega
    have e3 : (ls.map V.str).drop 1 ++ (ls.map V.str).take 1 = (ls.drop 1 ++ ls.take 1).map V.str := by
      rw [List.map_append, List.map_drop, List.map_take]
    rw [e3]
    have sm3 := sm2.trans (same_upd (o := .lst ((ls.drop 1 ++ ls.take 1).map V.str)) nC3)
    have hC3 : (upd H2 C3 (.lst ((ls.drop 1 ++ ls.take 1).map V.str))) C3 = some (.lst ((ls.drop 1 ++ ls.take 1).map V.str)) := upd_same
    generalize (upd H2 C3 (.lst ((ls.drop 1 ++ ls.take 1).map V.str))) = H3 at *
    have hzl : (ls.zip (ls.drop 1 ++ ls.take 1)).length = ls.length := by
      rw [List.length_zip, List.length_append, List.length_drop, List.length_take]
      omega
    have hmem : ∀ qq ∈ ls.zip (ls.drop 1 ++ ls.take 1), qq.1 ∈ zs ∧ qq.2 ∈ zs := fun qq hqq => by
      have hm := List.of_mem_zip hqq
      refine ⟨hin _ hm.1, hin _ ?_⟩
      rcases List.mem_append.mp hm.2 with e | e
      · exact List.mem_of_mem_drop e
      · exact List.mem_of_mem_take e
    have hl2 : (ls.drop 1 ++ ls.take 1).length = ls.length := by
      rw [List.length_append, List.length_drop, List.length_take]
      omega
    refine ⟨a, C3, _, _, rfl, sm3.seq hS, .inl (.inl hC3), fun D2 nD2 => lc_it (walk_zip (xs := ls.map V.str) (ys := (ls.drop 1 ++ ls.take 1).map V.str) (n := ls.length) (by rw [List.length_map, List.length_map, hl2]; omega)) (fun i H4 => ∃ acc : List V, acc.length = num zs ((ls.zip (ls.drop 1 ++ ls.take 1)).take i) ∧ H4 D2 = some (.lst acc) ∧ Same H3 H4) ?_ ?_ ?_ ?_⟩
    · exact ⟨[], rfl, upd_same, same_upd nD2⟩
    · rintro i H4 hi ⟨acc, hacc, hD2, sm4⟩
      exact ⟨sm4.seq (sm3.seq hS), sm4.seq (.inl (.inl hC3))⟩
    · rintro i x H4 H5 hi ⟨acc, hacc, hD2, sm4⟩ ⟨T, u, v, rfl, nT, rfl, hu, hv⟩
      have hu' : (ls.map V.str)[i]? = some u := hu
      have hv' : ((ls.drop 1 ++ ls.take 1).map V.str)[i]? = some v := hv
      rw [List.getElem?_map] at hu' hv'
      obtain ⟨u0, hu0, rfl⟩ := Option.map_eq_some_iff.mp hu'
      obtain ⟨v0, hv0, rfl⟩ := Option.map_eq_some_iff.mp hv'
      have hpi : (ls.zip (ls.drop 1 ++ ls.take 1))[i]? = some (u0, v0) := by
        rw [List.getElem?_zip_eq_some]
        exact ⟨hu0, hv0⟩
      have hm := hmem (u0, v0) (List.mem_of_getElem? hpi)
      have hacl : acc.length ≤ i := by
        rw [hacc]
        refine Nat.le_trans (List.length_filter_le _ _) ?_
        rw [List.length_take]
        omega
      have sm5 : Same H4 (upd H4 T (.tup [.str u0, .str v0])) := same_upd nT
      have hD5 := sm5 _ _ hD2
      refine ⟨T, _, rfl, .inl (.inl upd_same), rfl, _, _, rfl, _, _, rfl, rfl, rfl, ?_⟩
      refine ⟨.ref h, rfl, .str v0, rfl, .str u0, rfl, h, zs, v0, u0, rfl, ((hq.same sm3).same sm4).same sm5, hm.2, hm.1, _, rfl, ?_⟩
      have hstep : num zs ((ls.zip (ls.drop 1 ++ ls.take 1)).take (i + 1)) = num zs ((ls.zip (ls.drop 1 ++ ls.take 1)).take i) + (if up zs (u0, v0) = true then 1 else 0) := by
        unfold num
        rw [List.take_add_one, hpi, List.filter_append, List.length_append]
        show _ + ([(u0, v0)].filter (up zs)).length = _
        by_cases e : up zs (u0, v0) = true
        · rw [if_pos e, List.filter_cons_of_pos e]
          rfl
        · rw [if_neg e, List.filter_cons_of_neg e]
          rfl
      refine ite2 (fun e => ?_) (fun e => ?_)
      · refine ⟨acc, hD5, ?_, acc ++ [.int 0], ?_, upd_same, ?_⟩
        · rw [PySem.sizeLine_eq]
          omega
        · rw [hstep, if_pos (show up zs (u0, v0) = true from e), List.length_append, hacc]
          rfl
        · intro b o eb
          rw [upd_ne (ne_of_none eb nD2)]
          exact sm5 _ _ (sm4 _ _ eb)
      · exact ⟨acc, by rw [hstep, if_neg (show ¬ up zs (u0, v0) = true from e), hacc]; rfl, hD5, sm4.trans sm5⟩
    · rintro H4 ⟨acc, hacc, hD2, sm4⟩
      rw [← hzl, List.take_length] at hacc
      refine ⟨D2, acc, rfl, .inl (.inl (.inl hD2)), ?_⟩
      rw [hacc]
      exact q H4 (sm3.trans sm4)
end
end HF
namespace HF
open PySem PySem.Spec PyProof.Rows L2
abbrev sHeap : Stmt := topS 11
theorem scHeap : FnScope ["_law_box_here", "_law_least", "_law_most"] ["_law_box_here", "_law_least", "_law_most"] (defScope sHeap) := ⟨rfl, rfl, rfl, by decide +kernel, rfl, by decide +kernel, by decide +kernel⟩
/-- what is strewn of texts is texts -/
def strOf : V → Str
  | .str z => z
  | _ => ""
theorem perm_strs {ys : List V} {zs : List Str} (h : ys.Perm (zs.map V.str)) : ∃ xs : List Str, ys = xs.map V.str ∧ xs.Perm zs := by
  refine ⟨ys.map strOf, ?_, ?_⟩
  · rw [List.map_map]
    have e : ∀ y ∈ ys, (V.str ∘ strOf) y = y := fun y hy => by
      obtain ⟨z, _, rfl⟩ := List.mem_map.mp (h.mem_iff.mp hy)
      rfl
    rw [List.map_congr_left e, List.map_id']
  · have h2 := h.map strOf
    rw [List.map_map] at h2
    have e : zs.map (strOf ∘ V.str) = zs := by
      rw [show strOf ∘ V.str = id from rfl, List.map_id]
    rw [e] at h2
    exact h2
section
variable {P : Program} {w : World} {K : PySem.W.Frag} {mg : Str → Option Value} {base : Heap}
def spHeap : Sp := fun vs H Q _ => ∃ (p : Addr) (c : Int) (m n : Nat), vs = [.ref p, .int m, .int n] ∧ Bx H p c ∧ c < 2 ^ 38 ∧ m ≤ n ∧ n ≤ 20 ∧
  ∀ (H' : Hp) (t : Addr) (zs : List Str) (c' : Int), H t = none → Oth p H H' → Tp H' t (zs.map V.str) → m ≤ zs.length → zs.length ≤ n → zs.Nodup → (∀ z ∈ zs, Nm z) → Bx H' p c' → c ≤ c' → c' ≤ c + 300 → Q (.ref t) H'
theorem ok_heap {f fT fS fN : Addr} {fd fdT fdS fdN : FuncData} {k : Nat} (F : Fun K "_law_heap" "_law_heap" sHeap f fd) (FT : Fun K "_law_take" "_law_take" sTake fT fdT) (FS : Fun K "_law_strewn" "_law_strewn" sStrewn fS fdS) (FN : Fun K "_law_names" "_law_names" sNames fN fdN)
    (bT : Binds K fdT ["_law_box_here", "_law_bound"] []) (bS : Binds K fdS ["_law_box_here", "_law_some"] []) (bN : Binds K fdN ["_law_box_here", "_law_size"] []) (gT : mg "_law_take" = some (.ref fT)) (gS : mg "_law_strewn" = some (.ref fS)) (gN : mg "_law_names" = some (.ref fN))
    (mR : mg "range" = none) (mS : mg "sorted" = none) (ml : mg "len" = none) (mt : mg "tuple" = none) :
    FnOk P w K mg base CX0 (k + 3) f fd ["_law_box_here", "_law_least", "_law_most"] spHeap := by
  have GT : FnOk P w K mg base CX0 (k + 1) fT fdT ["_law_box_here", "_law_bound"] spTake := ok_take FT
  have GS : FnOk P w K mg base CX0 (k + 2) fS fdS ["_law_box_here", "_law_some"] (spStrewn K) := ok_strewn FS FT bT gT ml
  have GN : FnOk P w K mg base CX0 (k + 2) fN fdN ["_law_box_here", "_law_size"] (spNames K) := ok_names FN FT bT gT mR mS
  refine F.ok scHeap (fun vs H Q E h => ?_) (fun cdv A outer s H vs Q E hr h => ?_)
  · obtain ⟨p, c, m, n, rfl, _⟩ := h
    rfl
  · obtain ⟨p, c, m, n, rfl, hB, hc, hmn, hn, q⟩ := h
    have hBnn := hB.nn
    refine ⟨_, pss_one (ps_ret (pe_callTy call_tupleF (by rfl) mt (by decide +kernel) (pa_cons (pe_call GS hr (by rfl) gS FS.kp bS .nil pass0 (pa_cons (pv 0) (pa_cons
      (pe_call GN hr (by rfl) gN FN.kp bN .nil pass0 (pa_cons (pv 0) (pa_cons (pe_op op_add (pv 1) (pe_call GT (hr.mono (by omega)) (by rfl) gT FT.kp bT .nil pass0 (pa_cons (pv 0) (pa_cons (pe_op op_add (pe_op op_sub (pv 2) (pv 1)) pe_int) pa_nil)))) pa_nil))) pa_nil))) pa_nil))), ?_⟩
    refine ⟨.ref p, rfl, .ref p, rfl, .int m, rfl, .ref p, rfl, .int n, rfl, .int m, rfl, n, m, rfl, rfl, _, 1, rfl, rfl, p, (n : Int) - m + 1, c, rfl, hB, by omega, by omega, by omega, ?_⟩
    intro r c1 o hr0 hr1 hc0 hc1 hb1
    obtain ⟨rn, rfl⟩ := Int.eq_ofNat_of_zero_le hr0
    refine ⟨m, rn, rfl, rfl, p, c1, m + rn, rfl, hb1, by omega, by omega, ?_⟩
    intro H2 l zs c2 nl ho2 hl hzl hznd hznm _ hb2 hc2 hc3
    have nlp : l ≠ p := by
      rintro rfl
      rw [upd_same] at nl
      cases nl
    refine ⟨p, l, c2, _, rfl, hb2, by omega, nlp, .inl (.inl (.inl hl)), by rw [List.length_map]; omega, ?_⟩
    intro H3 l2 ys c3 nl2 ho3 hl2 hpm hb3 hc4 hc5
    obtain ⟨xs, rfl, hxs⟩ := perm_strs hpm
    refine ⟨l2, _, rfl, .inl (.inl hl2), fun t ob nt h1 h2 => ?_⟩
    rw [List.length_map] at hc5
    have hxl := hxs.length_eq
    have hoA : Oth p H H3 := (Oth.put.trans ho2).trans ho3
    exact q _ t xs c3 (hoA.none hb3 nt) (hoA.trans (Oth.of (same_upd nt))) ⟨ob, upd_same, h1, h2⟩ (by omega) (by omega) (hxs.nodup_iff.mpr hznd) (fun z hz => hznm z (hxs.mem_iff.mp hz)) (hb3.ne (hb3.new nt)) (by omega) (by omega)
end
end HF
namespace HF
open PySem PySem.Spec PyProof.Rows L2
abbrev sSame : Stmt := topS 8
abbrev nSame : List Str := ["_law_found", "_law_due", "_law_mine", "_law_its"]
theorem scSame : FnScope nSame ["_law_found", "_law_due"] (defScope sSame) := ⟨rfl, rfl, rfl, by decide +kernel, rfl, by decide +kernel, by decide +kernel⟩
theorem ty_list {K : PySem.W.Frag} {H : Hp} {a : Addr} {xs : List V} (h : SqL K H a xs) : TyX K H (.ref a) (.type "list") := by
  rcases h with (h | ⟨o, h⟩) | ⟨o, its, n, h, c, _⟩
  · exact .base (.lst h)
  · exact .base (.frz h)
  · exact .kList h c
theorem ty_tup {K : PySem.W.Frag} {H : Hp} {a : Addr} {xs : List V} (h : SqT K H a xs) : TyX K H (.ref a) (.type "tuple") := by
  rcases h with (h | ⟨o, h⟩) | ⟨o, its, n, h, c, _⟩
  · exact .base (.tup h)
  · exact .fTuple h
  · exact .kTuple h c
theorem any2 {K : PySem.W.Frag} {t a b : String} {r1 r2 : Bool} (h1 : kitB t a = some r1) (h2 : kitB t b = some r2) : PySem.W.kitAny K (.type t) [.type a, .type b] = some (r1 || r2) := by
  refine kitAny_cons (kit_ty h1) (fun e => kitAny_cons (kit_ty h2) (fun e2 => ?_) fun e2 => ?_) fun e => ?_
  · rw [e, e2]
    rfl
  · rw [e, e2]
    rfl
  · rw [e]
    rfl
theorem two_cls {a b : String} : Paired ClsV [V.ty a, V.ty b] [Value.type a, Value.type b] := .cons (.ty a) (.cons (.ty b) .nil)
theorem walk_zipT {K : PySem.W.Frag} {a b : Addr} {xs ys : List V} {n : Nat} (hx : xs.length = n) (hy : ys.length = n) : Walk (RZ.ItzT K a b) n (fun H => SqT K H a xs ∧ SqT K H b ys) (YPair (fun i => xs[i]?) (fun i => ys[i]?)) := by
  refine ⟨fun i H hi q => ⟨xs, ys, xs[i]'(by omega), ys[i]'(by omega), q.1, q.2, List.getElem?_eq_getElem _, List.getElem?_eq_getElem _⟩, fun H q => ⟨xs, ys, q.1, q.2, .inl (by omega)⟩, ?_⟩
  rintro i H x H' hi q ⟨T, u, v, e1, e2, e3, h1, h2⟩
  exact ⟨T, u, v, e1, e2, e3, h1 xs q.1, h2 ys q.2⟩
theorem dpAll_len {K : PySem.W.Frag} {H : Hp} : ∀ {xs : List V} {ds : List PyData}, DpAll K H xs ds → xs.length = ds.length
  | _, _, .nil => rfl
  | _, _, .cons _ t => by
    show _ + 1 = _ + 1
    rw [dpAll_len t]
theorem dpAll_at {K : PySem.W.Frag} {H : Hp} : ∀ {xs : List V} {ds : List PyData} {i : Nat} {x : V}, DpAll K H xs ds → xs[i]? = some x → ∃ d, ds[i]? = some d ∧ Dp K H x d
  | _, _, _, _, .nil, e => by simp at e
  | _, _, 0, _, .cons h _, e => by
    cases (show some _ = some _ from e)
    exact ⟨_, rfl, h⟩
  | _, _, i + 1, _, .cons _ t, e => dpAll_at (i := i) t (by simpa using e)
mutual
theorem Dp.up {K : PySem.W.Frag} {H H' : Hp} (sm : Same H H') : ∀ {v : V} {d : PyData}, Dp K H v d → Dp K H' v d
  | _, _, .non => .non
  | _, _, .bl b => .bl b
  | _, _, .int i => .int i
  | _, _, .str x => .str x
  | _, _, .lst h t => .lst (sm.seq h) (DpAll.up sm t)
  | _, _, .tup h t => .tup (sameT sm h) (DpAll.up sm t)
theorem DpAll.up {K : PySem.W.Frag} {H H' : Hp} (sm : Same H H') : ∀ {vs : List V} {ds : List PyData}, DpAll K H vs ds → DpAll K H' vs ds
  | _, _, .nil => .nil
  | _, _, .cons h t => .cons (Dp.up sm h) (DpAll.up sm t)
end
theorem all_at {ds : List PyData} : ∀ {i : Nat} {d : PyData}, ds[i]? = some d → PyData.canLayAll0 ds = true → PyData.canLay0 d = true ∧ PyData.depth d ≤ PyData.depthAll ds := by
  induction ds with
  | nil => intro i d h; simp at h
  | cons x r ih =>
    intro i d h c
    have c2 : (PyData.canLay0 x && PyData.canLayAll0 r) = true := c
    rw [Bool.and_eq_true] at c2
    have e : PyData.depthAll (x :: r) = max (PyData.depth x) (PyData.depthAll r) := rfl
    cases i with
    | zero =>
      cases (show some x = some d from h)
      exact ⟨c2.1, by rw [e]; omega⟩
    | succ i =>
      have := ih (show r[i]? = some d from h) c2.2
      exact ⟨this.1, by rw [e]; omega⟩
mutual
def wide : PyData → Nat
  | .list xs => max xs.length (wideAll xs)
  | .tuple xs => max xs.length (wideAll xs)
  | _ => 0
def wideAll : List PyData → Nat
  | [] => 0
  | x :: r => max (wide x) (wideAll r)
end
theorem wide_at {ds : List PyData} : ∀ {i : Nat} {d : PyData}, ds[i]? = some d → wide d ≤ wideAll ds := by
  induction ds with
  | nil => intro i d h; simp at h
  | cons x r ih =>
    intro i d h
    have e : wideAll (x :: r) = max (wide x) (wideAll r) := rfl
    cases i with
    | zero =>
      cases (show some x = some d from h)
      omega
    | succ i =>
      have := ih (show r[i]? = some d from h)
      omega
theorem trues {bs : List Bool} (h : ∀ b ∈ bs, b = true) : bs.all id = true := List.all_eq_true.mpr fun b hb => h b hb
section
variable {P : Program} {w : World} {K : PySem.W.Frag} {mg : Str → Option Value} {base : Heap}
def spSame (K : PySem.W.Frag) (n : Nat) : Sp := fun vs H Q _ => ∃ (x y : V) (d : PyData), vs = [x, y] ∧ Dp K H x d ∧ Dp K H y d ∧ d.canLay0 = true ∧ d.depth ≤ n ∧ d.depth ≤ 60 ∧ wide d ≤ 100000 ∧ ∀ H' : Hp, Same H H' → Q (.bl true) H'
theorem same_scal {f : Addr} {fd : FuncData} {k : Nat} (F : Fun K "_law_same" "_law_same" sSame f fd) (mI : mg "isinstance" = none) (mL : mg "list" = none) (mT : mg "tuple" = none) (mB : mg "bool" = none) (mS : mg "str" = none) (mN : mg "int" = none)
    {cdv : Value} {A : Around} {outer : List Env} {s : Shared} {H : Hp} {Q : VK} {E : XK} (hr : Room k (A.deeper (envOfC "_law_same" (defScope sSame) s.heap.objs.size f cdv))) {x y : V} {d : PyData} (hx : Dp K H x d) (hy : Dp K H y d) (hc : d.canLay0 = true) (h0 : d.depth = 0) (q : ∀ H' : Hp, Same H H' → Q (.bl true) H') :
    ∃ t, PSs (cxOf CX0 P w K mg base nSame "_law_same" (defScope sSame) f cdv A outer s H E).nox (defBody sSame) t ∧ t { nx := fun _ H' => Q .non H', rt := Q } (start nSame [x, y]) H := by
  have hsh : SeqAt.shaped d = true := by
    show (d.canLay0 && decide (d.depth ≤ 64)) = true
    rw [hc, h0]
    rfl
  have hx2 := hx
  have hy2 := hy
  cases hx with
  | non =>
    cases hy
    refine ⟨_, pss_cons (ps_if (pt_val (pe_callB call_isiT (by rfl) mI (by decide +kernel) (pa_cons (pv 1) (pa_cons (pe_tup (pa_cons (pe_bltn (v := .ty "list") (by rfl) mL (by decide +kernel) rfl) (pa_cons (pe_bltn (v := .ty "tuple") (by rfl) mT (by decide +kernel) rfl) pa_nil))) pa_nil)))) pss_never pss_nil)
        (pss_cons (ps_if (PW.pt (pw_or (pt_cmpR op_isN (pv 1) pe_non (nomark _)) (pw_or1 (pt_val (pe_callB call_isiT (by rfl) mI (by decide +kernel) (pa_cons (pv 1) (pa_cons (pe_tup (pa_cons (pe_bltn (v := .ty "bool") (by rfl) mB (by decide +kernel) rfl) (pa_cons (pe_bltn (v := .ty "str") (by rfl) mS (by decide +kernel) rfl) pa_nil))) pa_nil)))))))
          (pss_one (ps_ret (pe_and (pe_cmpR (op_eqD hr.units) (pv 0) (pv 1) (nomark _)) (pe_and (pe_cmpR op_eq (pe_callB call_isi (by rfl) mI (by decide +kernel) (pa_cons (pv 0) (pa_cons (pe_bltn (v := .ty "bool") (by rfl) mB (by decide +kernel) rfl) pa_nil))) (pe_callB call_isi (by rfl) mI (by decide +kernel) (pa_cons (pv 1) (pa_cons (pe_bltn (v := .ty "bool") (by rfl) mB (by decide +kernel) rfl) pa_nil))) (nomark _)) (pe_one (pe_cmpR op_eq (pe_cmp (pc_isN (pv 0)) rfl) (pe_cmp (pc_isN (pv 1)) rfl) (nomark _))))))) pss_nil)
        (pss_one (ps_ret (pe_and (pe_callB call_isi (by rfl) mI (by decide +kernel) (pa_cons (pv 0) (pa_cons (pe_bltn (v := .ty "int") (by rfl) mN (by decide +kernel) rfl) pa_nil))) (pe_and (pe_not (pe_callB call_isi (by rfl) mI (by decide +kernel) (pa_cons (pv 0) (pa_cons (pe_bltn (v := .ty "bool") (by rfl) mB (by decide +kernel) rfl) pa_nil)))) (pe_one (pe_cmpR (op_eqD hr.units) (pv 0) (pv 1) (nomark _)))))))), ?_⟩
    refine ⟨_, rfl, (by decide : (2 : Nat) ≤ sizeLine), fun T nT => ⟨_, T, _, _, _, _, rfl, upd_same, two_cls, (.base .non), any2 (r1 := false) (r2 := false) (by decide +kernel) (by decide +kernel), _, rfl, iteF ?_⟩⟩
    have s1 : Same H (upd H T (.tup [V.ty "list", V.ty "tuple"])) := same_upd nT
    generalize (upd H T (.tup [V.ty "list", V.ty "tuple"])) = H1 at *
    refine ⟨_, rfl, rfl, _, rfl, iteT (iteT ?_)⟩
    have s2 := s1
    exact ⟨_, rfl, _, rfl, _, _, Dp.up s2 hx2, Dp.up s2 hy2, hsh, hsh, _, rfl, (by rw [SeqAt.eqv_refl _ hc]; refine iteT ?_; exact ⟨_, rfl, _, _, _, _, false, rfl, .ty _, (.base .non), kit_ty (by decide +kernel), _, rfl, _, _, _, _, false, rfl, .ty _, (.base .non), kit_ty (by decide +kernel), rfl, _, rfl, iteT ⟨_, rfl, _, rfl, rfl, q _ s2⟩⟩)⟩
  | bl b =>
    cases hy
    refine ⟨_, pss_cons (ps_if (pt_val (pe_callB call_isiT (by rfl) mI (by decide +kernel) (pa_cons (pv 1) (pa_cons (pe_tup (pa_cons (pe_bltn (v := .ty "list") (by rfl) mL (by decide +kernel) rfl) (pa_cons (pe_bltn (v := .ty "tuple") (by rfl) mT (by decide +kernel) rfl) pa_nil))) pa_nil)))) pss_never pss_nil)
        (pss_cons (ps_if (PW.pt (pw_or (pt_cmpR op_isN (pv 1) pe_non (nomark _)) (pw_or1 (pt_val (pe_callB call_isiT (by rfl) mI (by decide +kernel) (pa_cons (pv 1) (pa_cons (pe_tup (pa_cons (pe_bltn (v := .ty "bool") (by rfl) mB (by decide +kernel) rfl) (pa_cons (pe_bltn (v := .ty "str") (by rfl) mS (by decide +kernel) rfl) pa_nil))) pa_nil)))))))
          (pss_one (ps_ret (pe_and (pe_cmpR (op_eqD hr.units) (pv 0) (pv 1) (nomark _)) (pe_and (pe_cmpR op_eq (pe_callB call_isi (by rfl) mI (by decide +kernel) (pa_cons (pv 0) (pa_cons (pe_bltn (v := .ty "bool") (by rfl) mB (by decide +kernel) rfl) pa_nil))) (pe_callB call_isi (by rfl) mI (by decide +kernel) (pa_cons (pv 1) (pa_cons (pe_bltn (v := .ty "bool") (by rfl) mB (by decide +kernel) rfl) pa_nil))) (nomark _)) (pe_one (pe_cmpR op_eq (pe_cmp (pc_isN (pv 0)) rfl) (pe_cmp (pc_isN (pv 1)) rfl) (nomark _))))))) pss_nil)
        (pss_one (ps_ret (pe_and (pe_callB call_isi (by rfl) mI (by decide +kernel) (pa_cons (pv 0) (pa_cons (pe_bltn (v := .ty "int") (by rfl) mN (by decide +kernel) rfl) pa_nil))) (pe_and (pe_not (pe_callB call_isi (by rfl) mI (by decide +kernel) (pa_cons (pv 0) (pa_cons (pe_bltn (v := .ty "bool") (by rfl) mB (by decide +kernel) rfl) pa_nil)))) (pe_one (pe_cmpR (op_eqD hr.units) (pv 0) (pv 1) (nomark _)))))))), ?_⟩
    refine ⟨_, rfl, (by decide : (2 : Nat) ≤ sizeLine), fun T nT => ⟨_, T, _, _, _, _, rfl, upd_same, two_cls, (.base (.bl _)), any2 (r1 := false) (r2 := false) (by decide +kernel) (by decide +kernel), _, rfl, iteF ?_⟩⟩
    have s1 : Same H (upd H T (.tup [V.ty "list", V.ty "tuple"])) := same_upd nT
    generalize (upd H T (.tup [V.ty "list", V.ty "tuple"])) = H1 at *
    refine ⟨_, rfl, rfl, _, rfl, iteF ⟨_, rfl, (by decide : (2 : Nat) ≤ sizeLine), fun T2 nT2 => ⟨_, T2, _, _, _, _, rfl, upd_same, two_cls, (.base (.bl _)), any2 (r1 := true) (r2 := false) (by decide +kernel) (by decide +kernel), _, rfl, iteT ?_⟩⟩⟩
    have s2 : Same H (upd H1 T2 (.tup [V.ty "bool", V.ty "str"])) := s1.trans (same_upd nT2)
    generalize (upd H1 T2 (.tup [V.ty "bool", V.ty "str"])) = H2 at *
    exact ⟨_, rfl, _, rfl, _, _, Dp.up s2 hx2, Dp.up s2 hy2, hsh, hsh, _, rfl, (by rw [SeqAt.eqv_refl _ hc]; refine iteT ?_; exact ⟨_, rfl, _, _, _, _, true, rfl, .ty _, (.base (.bl _)), kit_ty (by decide +kernel), _, rfl, _, _, _, _, true, rfl, .ty _, (.base (.bl _)), kit_ty (by decide +kernel), rfl, _, rfl, iteT ⟨_, rfl, _, rfl, rfl, q _ s2⟩⟩)⟩
  | int i =>
    cases hy
    refine ⟨_, pss_cons (ps_if (pt_val (pe_callB call_isiT (by rfl) mI (by decide +kernel) (pa_cons (pv 1) (pa_cons (pe_tup (pa_cons (pe_bltn (v := .ty "list") (by rfl) mL (by decide +kernel) rfl) (pa_cons (pe_bltn (v := .ty "tuple") (by rfl) mT (by decide +kernel) rfl) pa_nil))) pa_nil)))) pss_never pss_nil)
        (pss_cons (ps_if (PW.pt (pw_or (pt_cmpR op_isN (pv 1) pe_non (nomark _)) (pw_or1 (pt_val (pe_callB call_isiT (by rfl) mI (by decide +kernel) (pa_cons (pv 1) (pa_cons (pe_tup (pa_cons (pe_bltn (v := .ty "bool") (by rfl) mB (by decide +kernel) rfl) (pa_cons (pe_bltn (v := .ty "str") (by rfl) mS (by decide +kernel) rfl) pa_nil))) pa_nil)))))))
          (pss_one (ps_ret (pe_and (pe_cmpR (op_eqD hr.units) (pv 0) (pv 1) (nomark _)) (pe_and (pe_cmpR op_eq (pe_callB call_isi (by rfl) mI (by decide +kernel) (pa_cons (pv 0) (pa_cons (pe_bltn (v := .ty "bool") (by rfl) mB (by decide +kernel) rfl) pa_nil))) (pe_callB call_isi (by rfl) mI (by decide +kernel) (pa_cons (pv 1) (pa_cons (pe_bltn (v := .ty "bool") (by rfl) mB (by decide +kernel) rfl) pa_nil))) (nomark _)) (pe_one (pe_cmpR op_eq (pe_cmp (pc_isN (pv 0)) rfl) (pe_cmp (pc_isN (pv 1)) rfl) (nomark _))))))) pss_nil)
        (pss_one (ps_ret (pe_and (pe_callB call_isi (by rfl) mI (by decide +kernel) (pa_cons (pv 0) (pa_cons (pe_bltn (v := .ty "int") (by rfl) mN (by decide +kernel) rfl) pa_nil))) (pe_and (pe_not (pe_callB call_isi (by rfl) mI (by decide +kernel) (pa_cons (pv 0) (pa_cons (pe_bltn (v := .ty "bool") (by rfl) mB (by decide +kernel) rfl) pa_nil)))) (pe_one (pe_cmpR (op_eqD hr.units) (pv 0) (pv 1) (nomark _)))))))), ?_⟩
    refine ⟨_, rfl, (by decide : (2 : Nat) ≤ sizeLine), fun T nT => ⟨_, T, _, _, _, _, rfl, upd_same, two_cls, (.base (.int _)), any2 (r1 := false) (r2 := false) (by decide +kernel) (by decide +kernel), _, rfl, iteF ?_⟩⟩
    have s1 : Same H (upd H T (.tup [V.ty "list", V.ty "tuple"])) := same_upd nT
    generalize (upd H T (.tup [V.ty "list", V.ty "tuple"])) = H1 at *
    refine ⟨_, rfl, rfl, _, rfl, iteF ⟨_, rfl, (by decide : (2 : Nat) ≤ sizeLine), fun T2 nT2 => ⟨_, T2, _, _, _, _, rfl, upd_same, two_cls, (.base (.int _)), any2 (r1 := false) (r2 := false) (by decide +kernel) (by decide +kernel), _, rfl, iteF ?_⟩⟩⟩
    have s2 : Same H (upd H1 T2 (.tup [V.ty "bool", V.ty "str"])) := s1.trans (same_upd nT2)
    generalize (upd H1 T2 (.tup [V.ty "bool", V.ty "str"])) = H2 at *
    refine ⟨_, rfl, _, _, _, _, true, rfl, .ty _, (.base (.int _)), kit_ty (by decide +kernel), _, rfl, iteT ⟨_, rfl, _, _, _, _, false, rfl, .ty _, (.base (.int _)), kit_ty (by decide +kernel), _, rfl, _, rfl, iteT ⟨_, rfl, _, rfl, _, _, Dp.up s2 hx2, Dp.up s2 hy2, hsh, hsh, ?_⟩⟩⟩
    rw [SeqAt.eqv_refl _ hc]
    exact q _ s2
  | str z =>
    cases hy
    refine ⟨_, pss_cons (ps_if (pt_val (pe_callB call_isiT (by rfl) mI (by decide +kernel) (pa_cons (pv 1) (pa_cons (pe_tup (pa_cons (pe_bltn (v := .ty "list") (by rfl) mL (by decide +kernel) rfl) (pa_cons (pe_bltn (v := .ty "tuple") (by rfl) mT (by decide +kernel) rfl) pa_nil))) pa_nil)))) pss_never pss_nil)
        (pss_cons (ps_if (PW.pt (pw_or (pt_cmpR op_isN (pv 1) pe_non (nomark _)) (pw_or1 (pt_val (pe_callB call_isiT (by rfl) mI (by decide +kernel) (pa_cons (pv 1) (pa_cons (pe_tup (pa_cons (pe_bltn (v := .ty "bool") (by rfl) mB (by decide +kernel) rfl) (pa_cons (pe_bltn (v := .ty "str") (by rfl) mS (by decide +kernel) rfl) pa_nil))) pa_nil)))))))
          (pss_one (ps_ret (pe_and (pe_cmpR (op_eqD hr.units) (pv 0) (pv 1) (nomark _)) (pe_and (pe_cmpR op_eq (pe_callB call_isi (by rfl) mI (by decide +kernel) (pa_cons (pv 0) (pa_cons (pe_bltn (v := .ty "bool") (by rfl) mB (by decide +kernel) rfl) pa_nil))) (pe_callB call_isi (by rfl) mI (by decide +kernel) (pa_cons (pv 1) (pa_cons (pe_bltn (v := .ty "bool") (by rfl) mB (by decide +kernel) rfl) pa_nil))) (nomark _)) (pe_one (pe_cmpR op_eq (pe_cmp (pc_isN (pv 0)) rfl) (pe_cmp (pc_isN (pv 1)) rfl) (nomark _))))))) pss_nil)
        (pss_one (ps_ret (pe_and (pe_callB call_isi (by rfl) mI (by decide +kernel) (pa_cons (pv 0) (pa_cons (pe_bltn (v := .ty "int") (by rfl) mN (by decide +kernel) rfl) pa_nil))) (pe_and (pe_not (pe_callB call_isi (by rfl) mI (by decide +kernel) (pa_cons (pv 0) (pa_cons (pe_bltn (v := .ty "bool") (by rfl) mB (by decide +kernel) rfl) pa_nil)))) (pe_one (pe_cmpR (op_eqD hr.units) (pv 0) (pv 1) (nomark _)))))))), ?_⟩
    refine ⟨_, rfl, (by decide : (2 : Nat) ≤ sizeLine), fun T nT => ⟨_, T, _, _, _, _, rfl, upd_same, two_cls, (.base (.str _)), any2 (r1 := false) (r2 := false) (by decide +kernel) (by decide +kernel), _, rfl, iteF ?_⟩⟩
    have s1 : Same H (upd H T (.tup [V.ty "list", V.ty "tuple"])) := same_upd nT
    generalize (upd H T (.tup [V.ty "list", V.ty "tuple"])) = H1 at *
    refine ⟨_, rfl, rfl, _, rfl, iteF ⟨_, rfl, (by decide : (2 : Nat) ≤ sizeLine), fun T2 nT2 => ⟨_, T2, _, _, _, _, rfl, upd_same, two_cls, (.base (.str _)), any2 (r1 := false) (r2 := true) (by decide +kernel) (by decide +kernel), _, rfl, iteT ?_⟩⟩⟩
    have s2 : Same H (upd H1 T2 (.tup [V.ty "bool", V.ty "str"])) := s1.trans (same_upd nT2)
    generalize (upd H1 T2 (.tup [V.ty "bool", V.ty "str"])) = H2 at *
    exact ⟨_, rfl, _, rfl, _, _, Dp.up s2 hx2, Dp.up s2 hy2, hsh, hsh, _, rfl, (by rw [SeqAt.eqv_refl _ hc]; refine iteT ?_; exact ⟨_, rfl, _, _, _, _, false, rfl, .ty _, (.base (.str _)), kit_ty (by decide +kernel), _, rfl, _, _, _, _, false, rfl, .ty _, (.base (.str _)), kit_ty (by decide +kernel), rfl, _, rfl, iteT ⟨_, rfl, _, rfl, rfl, q _ s2⟩⟩)⟩
  | lst _ _ => cases h0
  | tup _ _ => cases h0
theorem same_seq {f : Addr} {fd : FuncData} {k n : Nat} (F : Fun K "_law_same" "_law_same" sSame f fd) (bS : Binds K fd ["_law_found", "_law_due"] []) (gS : mg "_law_same" = some (.ref f)) (mI : mg "isinstance" = none) (mL : mg "list" = none) (mT : mg "tuple" = none) (mB : mg "bool" = none) (mS : mg "str" = none) (mN : mg "int" = none) (ml : mg "len" = none) (mA : mg "all" = none) (mZ : mg "zip" = none) (IH : FnOk P w K mg base CX0 k f fd ["_law_found", "_law_due"] (spSame K n))
    {cdv : Value} {A : Around} {outer : List Env} {s : Shared} {H : Hp} {Q : VK} {E : XK} (hr : Room k (A.deeper (envOfC "_law_same" (defScope sSame) s.heap.objs.size f cdv))) {x y : V} {d : PyData} (hx : Dp K H x d) (hy : Dp K H y d) (hc : d.canLay0 = true) (h0 : d.depth ≠ 0) (hn : d.depth ≤ n + 1) (h60 : d.depth ≤ 60) (hw : wide d ≤ 100000) (q : ∀ H' : Hp, Same H H' → Q (.bl true) H') :
    ∃ t, PSs (cxOf CX0 P w K mg base nSame "_law_same" (defScope sSame) f cdv A outer s H E).nox (defBody sSame) t ∧ t { nx := fun _ H' => Q .non H', rt := Q } (start nSame [x, y]) H := by
  cases hx with
  | non => exact absurd rfl h0
  | bl b => exact absurd rfl h0
  | int i => exact absurd rfl h0
  | str z => exact absurd rfl h0
  | @lst a xs ds hqx hdx =>
    cases hy with
    | @lst b ys _ hqy hdy =>
      have hc : PyData.canLayAll0 ds = true := hc
      have hn2 : PyData.depthAll ds + 1 ≤ n + 1 := hn
      have h602 : PyData.depthAll ds + 1 ≤ 60 := h60
      have hw2 : max ds.length (wideAll ds) ≤ 100000 := hw
      refine ⟨_, pss_cons (ps_if (pt_val (pe_callB call_isiT (by rfl) mI (by decide +kernel) (pa_cons (pv 1) (pa_cons (pe_tup (pa_cons (pe_bltn (v := .ty "list") (by rfl) mL (by decide +kernel) rfl) (pa_cons (pe_bltn (v := .ty "tuple") (by rfl) mT (by decide +kernel) rfl) pa_nil))) pa_nil))))
          (pss_cons (ps_if (PW.pt (pw_or (pt_cmpR op_ne (pe_callB call_isi (by rfl) mI (by decide +kernel) (pa_cons (pv 0) (pa_cons (pe_bltn (v := .ty "list") (by rfl) mL (by decide +kernel) rfl) pa_nil))) (pe_callB call_isi (by rfl) mI (by decide +kernel) (pa_cons (pv 1) (pa_cons (pe_bltn (v := .ty "list") (by rfl) mL (by decide +kernel) rfl) pa_nil))) (nomark _)) (pw_or1 (pt_cmpR op_ne (pe_callB call_isi (by rfl) mI (by decide +kernel) (pa_cons (pv 0) (pa_cons (pe_bltn (v := .ty "tuple") (by rfl) mT (by decide +kernel) rfl) pa_nil))) (pe_callB call_isi (by rfl) mI (by decide +kernel) (pa_cons (pv 1) (pa_cons (pe_bltn (v := .ty "tuple") (by rfl) mT (by decide +kernel) rfl) pa_nil))) (nomark _))))) pss_never pss_nil)
          (pss_one (ps_ret (pe_and (pe_cmpR op_eq (pe_callB call_len_seq (by rfl) ml PySem.boot_len (pa_cons (pv 0) pa_nil)) (pe_callB call_len_seq (by rfl) ml PySem.boot_len (pa_cons (pv 1) pa_nil)) (nomark _))
            (pe_one (pe_callB (cr_all rfl) (by rfl) mA (by decide +kernel) (pa_cons (pe_lc (own := [("_law_mine", 2), ("_law_its", 3)]) (g := gTup K 2 (gCons (gName 2) (gCons (gName 3) gNil))) (tt := tYes) rfl scSame.nd
              (RZ.pi_zipA (by rfl) mZ (pa_cons (pv 0) (pa_cons (pv 1) pa_nil)))
              (blkOk_by (N := nSame) (sc := defScope sSame) (by decide +kernel)) (fun _ _ _ _ _ => pg_tup rfl (pgs_cons (pg_name (i := 2) scSame.nd rfl (.inl rfl)) (pgs_cons (pg_name (i := 3) scSame.nd rfl (.inl rfl)) pgs_nil)))
              (fun _ _ _ _ _ => pts_nil) (fun _ _ _ _ _ => pe_call IH hr (by rfl) gS F.kp bS .nil pass0 (pa_cons (pv 2) (pa_cons (pv 3) pa_nil)))) pa_nil))))))) pss_nil)
        pss_never, ?_⟩
      refine ⟨_, rfl, (by decide : (2 : Nat) ≤ sizeLine), fun T nT => ⟨_, T, _, _, _, _, rfl, upd_same, two_cls, ty_list ((same_upd nT).seq hqy), any2 (r1 := true) (r2 := false) (by decide +kernel) (by decide +kernel), _, rfl, iteT ?_⟩⟩
      have s1 : Same H (upd H T (.tup [V.ty "list", V.ty "tuple"])) := same_upd nT
      generalize (upd H T (.tup [V.ty "list", V.ty "tuple"])) = H1 at *
      refine ⟨_, rfl, _, _, _, _, true, rfl, .ty _, ty_list ((s1).seq hqx), kit_ty (by decide +kernel), _, rfl, _, _, _, _, true, rfl, .ty _, ty_list ((s1).seq hqy), kit_ty (by decide +kernel), rfl, _, rfl, iteF ⟨_, rfl, _, _, _, _, false, rfl, .ty _, ty_list ((s1).seq hqx), kit_ty (by decide +kernel), _, rfl, _, _, _, _, false, rfl, .ty _, ty_list ((s1).seq hqy), kit_ty (by decide +kernel), rfl, _, rfl, iteF ?_⟩⟩
      have hxl : xs.length = ds.length := dpAll_len hdx
      have hyl : ys.length = ds.length := dpAll_len hdy
      refine ⟨_, rfl, _, _, rfl, .inl ((s1).seq hqx), _, rfl, _, _, rfl, .inl ((s1).seq hqy), rfl, _, rfl, ?_⟩
      rw [hxl, hyl]
      simp only [decide_true]
      refine ⟨.ref a, rfl, .ref b, rfl, a, b, xs, ys, rfl, .inl ⟨(s1).seq hqx, (s1).seq hqy, fun D nD => ?_⟩⟩
      refine lc_it (n := ds.length) (walk_zip (xs := xs) (ys := ys) (by omega)) (fun i H4 => H4 D = some (.lst ((List.replicate i true).map V.bl)) ∧ Same H1 H4) ?_ ?_ ?_ ?_
      · exact ⟨upd_same, same_upd nD⟩
      · rintro i H4 hi ⟨hD, s4⟩
        exact ⟨(s1.trans s4).seq hqx, (s1.trans s4).seq hqy⟩
      · rintro i v H4 H5 hi ⟨hD, s4⟩ ⟨T2, u1, u2, rfl, nT2, rfl, hu1, hu2⟩
        have s5 : Same H4 (upd H4 T2 (.tup [u1, u2])) := same_upd nT2
        obtain ⟨d1, hd1, hdp1⟩ := dpAll_at hdx hu1
        obtain ⟨d2, hd2, hdp2⟩ := dpAll_at hdy hu2
        rw [hd1] at hd2
        cases hd2
        have hca := all_at hd1 hc
        have sA : Same H (upd H4 T2 (.tup [u1, u2])) := (s1.trans s4).trans s5
        refine ⟨T2, _, rfl, .inl (.inl upd_same), rfl, _, _, rfl, _, _, rfl, rfl, rfl, ?_⟩
        refine ⟨u1, rfl, u2, rfl, u1, u2, d1, rfl, Dp.up sA hdp1, Dp.up sA hdp2, hca.1, by omega, by omega, (by have := wide_at hd1; omega), ?_⟩
        intro H6 s6
        have hD6 := s6 _ _ (s5 _ _ hD)
        refine ⟨_, hD6, ?_, ?_, ?_⟩
        · rw [List.length_map, List.length_replicate, PySem.sizeLine_eq]
          omega
        · rw [upd_same, List.replicate_succ', List.map_append]
          rfl
        · intro z o ez
          rw [upd_ne (ne_of_none ez nD)]
          exact s6 _ _ (s5 _ _ (s4 _ _ ez))
      · rintro H4 ⟨hD, s4⟩
        refine ⟨D, _, rfl, .inl (.inl hD), ?_⟩
        rw [trues (bs := List.replicate ds.length true) fun z hz => (List.mem_replicate.mp hz).2]
        exact q H4 (s1.trans s4)
  | @tup a xs ds hqx hdx =>
    cases hy with
    | @tup b ys _ hqy hdy =>
      have hc : PyData.canLayAll0 ds = true := hc
      have hn2 : PyData.depthAll ds + 1 ≤ n + 1 := hn
      have h602 : PyData.depthAll ds + 1 ≤ 60 := h60
      have hw2 : max ds.length (wideAll ds) ≤ 100000 := hw
      refine ⟨_, pss_cons (ps_if (pt_val (pe_callB call_isiT (by rfl) mI (by decide +kernel) (pa_cons (pv 1) (pa_cons (pe_tup (pa_cons (pe_bltn (v := .ty "list") (by rfl) mL (by decide +kernel) rfl) (pa_cons (pe_bltn (v := .ty "tuple") (by rfl) mT (by decide +kernel) rfl) pa_nil))) pa_nil))))
          (pss_cons (ps_if (PW.pt (pw_or (pt_cmpR op_ne (pe_callB call_isi (by rfl) mI (by decide +kernel) (pa_cons (pv 0) (pa_cons (pe_bltn (v := .ty "list") (by rfl) mL (by decide +kernel) rfl) pa_nil))) (pe_callB call_isi (by rfl) mI (by decide +kernel) (pa_cons (pv 1) (pa_cons (pe_bltn (v := .ty "list") (by rfl) mL (by decide +kernel) rfl) pa_nil))) (nomark _)) (pw_or1 (pt_cmpR op_ne (pe_callB call_isi (by rfl) mI (by decide +kernel) (pa_cons (pv 0) (pa_cons (pe_bltn (v := .ty "tuple") (by rfl) mT (by decide +kernel) rfl) pa_nil))) (pe_callB call_isi (by rfl) mI (by decide +kernel) (pa_cons (pv 1) (pa_cons (pe_bltn (v := .ty "tuple") (by rfl) mT (by decide +kernel) rfl) pa_nil))) (nomark _))))) pss_never pss_nil)
          (pss_one (ps_ret (pe_and (pe_cmpR op_eq (pe_callB call_len_seq (by rfl) ml PySem.boot_len (pa_cons (pv 0) pa_nil)) (pe_callB call_len_seq (by rfl) ml PySem.boot_len (pa_cons (pv 1) pa_nil)) (nomark _))
            (pe_one (pe_callB (cr_all rfl) (by rfl) mA (by decide +kernel) (pa_cons (pe_lc (own := [("_law_mine", 2), ("_law_its", 3)]) (g := gTup K 2 (gCons (gName 2) (gCons (gName 3) gNil))) (tt := tYes) rfl scSame.nd
              (RZ.pi_zipA (by rfl) mZ (pa_cons (pv 0) (pa_cons (pv 1) pa_nil)))
              (blkOk_by (N := nSame) (sc := defScope sSame) (by decide +kernel)) (fun _ _ _ _ _ => pg_tup rfl (pgs_cons (pg_name (i := 2) scSame.nd rfl (.inl rfl)) (pgs_cons (pg_name (i := 3) scSame.nd rfl (.inl rfl)) pgs_nil)))
              (fun _ _ _ _ _ => pts_nil) (fun _ _ _ _ _ => pe_call IH hr (by rfl) gS F.kp bS .nil pass0 (pa_cons (pv 2) (pa_cons (pv 3) pa_nil)))) pa_nil))))))) pss_nil)
        pss_never, ?_⟩
      refine ⟨_, rfl, (by decide : (2 : Nat) ≤ sizeLine), fun T nT => ⟨_, T, _, _, _, _, rfl, upd_same, two_cls, ty_tup (sameT (same_upd nT) hqy), any2 (r1 := false) (r2 := true) (by decide +kernel) (by decide +kernel), _, rfl, iteT ?_⟩⟩
      have s1 : Same H (upd H T (.tup [V.ty "list", V.ty "tuple"])) := same_upd nT
      generalize (upd H T (.tup [V.ty "list", V.ty "tuple"])) = H1 at *
      refine ⟨_, rfl, _, _, _, _, false, rfl, .ty _, ty_tup (sameT (s1) hqx), kit_ty (by decide +kernel), _, rfl, _, _, _, _, false, rfl, .ty _, ty_tup (sameT (s1) hqy), kit_ty (by decide +kernel), rfl, _, rfl, iteF ⟨_, rfl, _, _, _, _, true, rfl, .ty _, ty_tup (sameT (s1) hqx), kit_ty (by decide +kernel), _, rfl, _, _, _, _, true, rfl, .ty _, ty_tup (sameT (s1) hqy), kit_ty (by decide +kernel), rfl, _, rfl, iteF ?_⟩⟩
      have hxl : xs.length = ds.length := dpAll_len hdx
      have hyl : ys.length = ds.length := dpAll_len hdy
      refine ⟨_, rfl, _, _, rfl, .inr (sameT (s1) hqx), _, rfl, _, _, rfl, .inr (sameT (s1) hqy), rfl, _, rfl, ?_⟩
      rw [hxl, hyl]
      simp only [decide_true]
      refine ⟨.ref a, rfl, .ref b, rfl, a, b, xs, ys, rfl, .inr ⟨sameT (s1) hqx, sameT (s1) hqy, fun D nD => ?_⟩⟩
      refine lc_it (n := ds.length) (walk_zipT (xs := xs) (ys := ys) hxl hyl) (fun i H4 => H4 D = some (.lst ((List.replicate i true).map V.bl)) ∧ Same H1 H4) ?_ ?_ ?_ ?_
      · exact ⟨upd_same, same_upd nD⟩
      · rintro i H4 hi ⟨hD, s4⟩
        exact ⟨sameT (s1.trans s4) hqx, sameT (s1.trans s4) hqy⟩
      · rintro i v H4 H5 hi ⟨hD, s4⟩ ⟨T2, u1, u2, rfl, nT2, rfl, hu1, hu2⟩
        have s5 : Same H4 (upd H4 T2 (.tup [u1, u2])) := same_upd nT2
        obtain ⟨d1, hd1, hdp1⟩ := dpAll_at hdx hu1
        obtain ⟨d2, hd2, hdp2⟩ := dpAll_at hdy hu2
        rw [hd1] at hd2
        cases hd2
        have hca := all_at hd1 hc
        have sA : Same H (upd H4 T2 (.tup [u1, u2])) := (s1.trans s4).trans s5
        refine ⟨T2, _, rfl, .inl (.inl upd_same), rfl, _, _, rfl, _, _, rfl, rfl, rfl, ?_⟩
        refine ⟨u1, rfl, u2, rfl, u1, u2, d1, rfl, Dp.up sA hdp1, Dp.up sA hdp2, hca.1, by omega, by omega, (by have := wide_at hd1; omega), ?_⟩
        intro H6 s6
        have hD6 := s6 _ _ (s5 _ _ hD)
        refine ⟨_, hD6, ?_, ?_, ?_⟩
        · rw [List.length_map, List.length_replicate, PySem.sizeLine_eq]
          omega
        · rw [upd_same, List.replicate_succ', List.map_append]
          rfl
        · intro z o ez
          rw [upd_ne (ne_of_none ez nD)]
          exact s6 _ _ (s5 _ _ (s4 _ _ ez))
      · rintro H4 ⟨hD, s4⟩
        refine ⟨D, _, rfl, .inl (.inl hD), ?_⟩
        rw [trues (bs := List.replicate ds.length true) fun z hz => (List.mem_replicate.mp hz).2]
        exact q H4 (s1.trans s4)
theorem ok_same {f : Addr} {fd : FuncData} (F : Fun K "_law_same" "_law_same" sSame f fd) (bS : Binds K fd ["_law_found", "_law_due"] []) (gS : mg "_law_same" = some (.ref f)) (mI : mg "isinstance" = none) (mL : mg "list" = none) (mT : mg "tuple" = none) (mB : mg "bool" = none) (mS : mg "str" = none) (mN : mg "int" = none) (ml : mg "len" = none) (mA : mg "all" = none) (mZ : mg "zip" = none) : ∀ n : Nat, FnOk P w K mg base CX0 (n + 1) f fd ["_law_found", "_law_due"] (spSame K n)
  | 0 => by
    refine F.ok scSame (fun vs H Q E h => ?_) (fun cdv A outer s H vs Q E hr h => ?_)
    · obtain ⟨x, y, d, rfl, _⟩ := h
      rfl
    · obtain ⟨x, y, d, rfl, hx, hy, hc, h0, _, _, q⟩ := h
      exact same_scal F mI mL mT mB mS mN hr hx hy hc (by omega) q
  | n + 1 => by
    have IH := ok_same F bS gS mI mL mT mB mS mN ml mA mZ n
    refine F.ok scSame (fun vs H Q E h => ?_) (fun cdv A outer s H vs Q E hr h => ?_)
    · obtain ⟨x, y, d, rfl, _⟩ := h
      rfl
    · obtain ⟨x, y, d, rfl, hx, hy, hc, h0, h60, hw, q⟩ := h
      by_cases hz : d.depth = 0
      · exact same_scal F mI mL mT mB mS mN hr hx hy hc hz q
      · exact same_seq F bS gS mI mL mT mB mS mN ml mA mZ IH hr hx hy hc hz h0 h60 hw q
end
end HF
namespace HF
open PySem PySem.Spec PyProof.Rows L2
/-! ### f(k = v, ..) without a value by place -/
section
variable {X : Cx} {CX : CXT} {k : Nat} {f : Addr} {fd : FuncData} {ps ks : List Str} {sp : Sp} {E : XK} {x : Str} {p pos : Pos} {kws : List Keyword} {tk : TA} {g : List Value → List Value → List Value} {gV : List V → List V → List V}
def tKw (sp : Sp) (gV : List V → List V → List V) (E : XK) (tk : TA) : TE := fun σ H Q => tk σ H fun zs H2 => sp (gV [] zs) H2 Q E
theorem pe_callK0 (F : FnOk X.prog X.w X.K X.mg X.base CX k f fd ps sp) (room : Room k X.A) (hgl : Gl X x) (hmg : X.mg x = some (.ref f)) (hkp : PySem.W.keepIn X.K (.ref f) = true) (hbd : KBinds X.K fd ps ks g gV) (hps : Passes CX X E) (hkw : PK X kws tk)
    (hall : (backToKw pos (keywordEach kws X.env)).all (·.1.isSome) = true := by rfl) (hks : (backToKw pos (keywordEach kws X.env)).filterMap (·.1) = ks := by rfl) (hdb : (x == ("__debug__" : Str)) = false := by decide)
    (hpl : ((backTo pos (starEach [] X.env)).any (·.1) || (backToKw pos (keywordEach kws X.env)).any (·.1.isNone)) = false := by rfl) :
    PE X (.Call (.Name x p) [] kws pos) (tKw sp gV E tk) := by
  refine ⟨fun pins st σ H Q I want => wpAny_Call_Name_kw (ld_glob I hgl hmg (PySem.W.callWith_KW0 (h₀ := X.base) I.ok.mod.kin hkp hall (thn (hkw.run pos pins st σ H _ I want) ?_) hpl) hdb)⟩
  rintro ws s2 ⟨zs, H2, J, rz, q⟩
  refine ⟨J.kIn, ?_⟩
  rw [hks]
  exact run_fnk F room hbd hps J .nil rz q
end
/-- two values by name, the second parameter's ahead -/
def g21 {α : Type} : List α → List α → List α
  | [], [r, h] => [h, r]
  | _, _ => []
theorem g21_rel {vs : List V} {us : List Value} {zs : List V} {ws : List Value} (h1 : Vals vs us) (h2 : Vals zs ws) : Vals (g21 vs zs) (g21 us ws) := by
  cases h1 with
  | cons _ _ => cases h2 <;> exact .nil
  | nil =>
    cases h2 with
    | nil => exact .nil
    | cons a t =>
      cases t with
      | nil => exact .nil
      | cons b t2 =>
        cases t2 with
        | nil => exact .cons b (.cons a .nil)
        | cons _ _ => exact .nil
/-! ### t[::-1] of a tuple -/
section
variable {prog : Program} {w : World} {A : Around} {E : Value → Shared → Prop} {s : Shared}
theorem sliceApplied_back {sl : Addr} {vs : Value} {n : Nat} {Q : Int × Int × Nat → Shared → Prop} (hs : s.heap.IsSliceOf sl .none .none vs) (pst : IsPart vs (some (-1)))
    (h : Q ((n : Int) - 1, -1, n) s) : wpAny (model prog w) A (Builtin.Slice.sliceApplied (.ref sl) (pure (n : Int))) Q E s := by
  obtain ⟨ob, h1, h2, h3⟩ := id hs
  unfold Builtin.Slice.sliceApplied Builtin.Slice.sliceFields
  refine wpAny_bind (wpAny_bind (wpAny_field h1 h3 (x := .none) rfl (wpAny_bind (wpAny_field h1 h3 (x := .none) rfl (wpAny_bind (wpAny_field h1 h3 (x := vs) rfl (wpAny_pure ?_)))))))
  refine wpAny_bind (HT.slicePart_ pst ?_)
  show wpAny _ _ (if ((-1 : Int) == 0) = true then _ else _) _ _ s
  rw [if_neg (by decide)]
  refine wpAny_bind (HT.slicePart_ .none (wpAny_bind (HT.slicePart_ .none (wpAny_bind (wpAny_pure ?_)))))
  have e1 : Builtin.Slice.sliceAdjust none none (-1) (n : Int) = ((n : Int) - 1, -1) := rfl
  have e2 : Builtin.Slice.slicePlaces ((n : Int) - 1) (-1) (-1) = n := by
    unfold Builtin.Slice.slicePlaces
    rw [if_neg (by decide), show (- -1 : Int) = 1 by decide, Int.ediv_one]
    split <;> omega
  show wpAny _ _ (match Builtin.Slice.sliceAdjust none none (-1) (n : Int) with | (lo, hi) => pure (lo, (-1 : Int), Builtin.Slice.slicePlaces lo hi (-1))) _ _ s
  rw [e1]
  show wpAny _ _ (pure ((n : Int) - 1, (-1 : Int), Builtin.Slice.slicePlaces ((n : Int) - 1) (-1) (-1))) _ _ s
  rw [e2]
  exact wpAny_pure h
theorem fm_congr {α β : Type} {f g : α → Option β} : ∀ {l : List α}, (∀ x ∈ l, f x = g x) → l.filterMap f = l.filterMap g
  | [], _ => rfl
  | a :: r, h => by
    rw [List.filterMap_cons, List.filterMap_cons, h a List.mem_cons_self, fm_congr fun x hx => h x (List.mem_cons_of_mem _ hx)]
theorem pick_back (xs : Array Value) : ((List.range xs.size).filterMap fun (m : Nat) => xs[(((xs.size : Int) - 1) + (m : Int) * (-1)).toNat]?).toArray = xs.toList.reverse.toArray := by
  have e : (List.range xs.size).filterMap (fun (m : Nat) => xs[(((xs.size : Int) - 1) + (m : Int) * (-1)).toNat]?) = ((List.range xs.size).map fun m => xs.size - 1 - m).filterMap (xs[·]?) := by
    rw [List.filterMap_map]
    refine fm_congr fun m hm => ?_
    have := List.mem_range.mp hm
    show xs[(((xs.size : Int) - 1) + (m : Int) * (-1)).toNat]? = xs[xs.size - 1 - m]?
    rw [show (((xs.size : Int) - 1) + (m : Int) * (-1)).toNat = xs.size - 1 - m by omega]
  rw [e, PySem.W.krv_range, List.filterMap_reverse, PySem.W.krv_all]
theorem getItem_tuple_back {t sl : Addr} {items : Array Value} {vs : Value} {Q : Value → Shared → Prop} (ht : IsTup s.heap t items) (hs : s.heap.IsSliceOf sl .none .none vs) (pst : IsPart vs (some (-1)))
    (h : Q (.ref s.heap.objs.size) { s with heap := s.heap.push { cls := .type "tuple", data := .seq items.toList.reverse.toArray } }) (hsz : items.size ≤ sizeLine) : wpAny (model prog w) A (getItem (.ref t) (.ref sl)) Q E s := by
  have hok : sizeOk (.seq items.toList.reverse.toArray) := by
    show items.toList.reverse.toArray.size ≤ sizeLine
    rw [List.size_toArray, List.length_reverse, Array.length_toList]
    exact hsz
  obtain ⟨ob, h1, h2, h3⟩ := id hs
  have hty : s.TypeIs (.ref sl) "slice" := ⟨ob, h1, h2⟩
  unfold getItem
  try with_reducible refine wpAny_holding ?_
  first | refine wpAny_bind (wpAny_pure ?_) | skip
  refine wpAny_bind (wpAny_sequenceKey ht.typeIs (by decide) (wpAny_bind (wpAny_callSpecial?_slot (name := Str.ofString "__getitem__") ht.typeIs PyProof.Rows.slot_tuple_getitem (wpAny_call_entry PyProof.Rows.slot_tuple_getitem ht.typeIs entry_tuple_getitem ?_ (args_tuple_getitem _ _)))))
  show wpAny _ _ (Builtin.Tuple.tupleItemsOf (.ref t) >>= _) _ _ s
  refine wpAny_bind (tupleItemsOf_ ht (wpAny_bind (wpAny_typeOf hty ?_)))
  rw [if_pos (by decide)]
  refine wpAny_bind (sliceApplied_back hs pst ?_)
  show wpAny _ _ (if (((items.size : Int) - 1 == 0) && ((-1 : Int) == 1) && (items.size == items.size)) = true then _ else _) _ _ s
  rw [if_neg (by simp), pick_back]
  first
    | exact wpAny_bind (m := Builtin.Tuple.tupleExact _) (wpAny_newObj_type (wpAny_pure ⟨_, rfl, wpAny_pure h⟩) hok)
    | exact wpAny_bind (m := Builtin.Tuple.tupleExact _) (wpAny_newObj_type (wpAny_bind (wpAny_pure (wpAny_pure ⟨_, rfl, wpAny_pure h⟩))) hok)
    | exact wpAny_bind (wpAny_bind (m := Builtin.Tuple.tupleExact _) (wpAny_newObj_type (wpAny_pure (wpAny_pure ⟨_, rfl, wpAny_pure h⟩)) hok))
    | exact wpAny_bind (wpAny_bind (m := Builtin.Tuple.tupleExact _) (wpAny_newObj_type (wpAny_pure ⟨_, rfl, wpAny_pure h⟩) hok))
end
section
variable {X : Cx}
def tRevT (K : PySem.W.Frag) (te : TE) : TE := fun σ H Q => te σ H fun x H1 => ∃ a xs, x = .ref a ∧ SqT K H1 a xs ∧ ∀ p ob, H1 p = none → ob.cls = .type "tuple" → ob.dict = none → Q (.ref p) (upd H1 p (.frz ob (.tup xs.reverse)))
theorem pe_revT {e : Expr} {te : TE} {k : Nat} {p1 p2 p3 pos : Pos} (he : PE X e te) : PE X (.Subscript e (.Slice none none (some (.UnaryOp .USub (.Constant (.int 1) k p1) p2)) p3) pos) (tRevT X.K te) := by
  refine ⟨fun pins st σ H Q I want => Subscript_ (thn (he.run pins st σ H _ I want) ?_)⟩
  rintro v s1 ⟨x, H1, I1, r1, a, xs, rfl, hx, q⟩
  cases r1
  have part : PO X (some (.UnaryOp .USub (.Constant (.int 1) k p1) p2)) (tPart (tUn (rU fun i => .int (-i)) (tC (.int 1)))) := po_some (pe_un un_neg pe_int)
  refine wpAny_Slice (thn (po_none.run pins s1 σ H1 (fun o H2 => o = none ∧ H2 = H1) I1 ⟨rfl, rfl⟩) ?_)
  rintro vl s2 ⟨l, H2, I2, pl, rfl, rfl⟩
  refine thn (po_none.run pins s2 σ H2 (fun o H3 => o = none ∧ H3 = H2) I2 ⟨rfl, rfl⟩) ?_
  rintro vu s3 ⟨u, H3, I3, pu, rfl, rfl⟩
  refine thn (part.run pins s3 σ H3 (fun o H4 => o = some (-1) ∧ H4 = H3) I3 ⟨1, rfl, -1, rfl, rfl, rfl⟩) ?_
  rintro vs s4 ⟨o, H4, I4, pst, rfl, rfl⟩
  cases pl
  cases pu
  have J : Inv X pins σ H4 { s4 with heap := s4.heap.push { cls := .type "slice", data := .fields #[.none, .none, vs] } } := I4.kept (t' := s4.toks) fun b ob e => Heap.get?_push_of_some _ e
  obtain ⟨its, rI, ht, hz⟩ := J.tuple hx
  have hlen := rI.length
  show wpAny (model X.prog X.w) X.A (subscriptTail e (.Slice none none (some (.UnaryOp .USub (.Constant (.int 1) k p1) p2)) p3) (.ref a) (.ref s4.heap.objs.size)) (EP X pins σ Q) X.xe { s4 with heap := s4.heap.push { cls := .type "slice", data := .fields #[.none, .none, vs] } }
  refine tail_any (ops := [.ref a, .ref s4.heap.objs.size]) ht.typeIs PyProof.Rows.slot_tuple_getitem.lookup ?_ (by with_unfolding_all rfl)
  refine getItem_tuple_back ht (Heap.IsSliceOf.new _ .none .none vs) pst ?_ (by rw [List.size_toArray]; omega)
  let od : Obj := { cls := .type "tuple", data := .seq its.reverse.toArray }
  refine ⟨.ref _, _, J.laid (t' := s4.toks) (o := .frz od (.tup xs.reverse)) (fun b ob e => Heap.get?_push_of_some _ e) (Nat.le_refl _) ?_, rfl, q _ od (J.hok.fresh (Nat.le_refl _)) rfl rfl⟩
  exact ⟨Heap.get?_push_size _ rfl, by rw [List.length_reverse]; exact hz, _, rI.reverse, IsTup.new _ _⟩
end
end HF
namespace HF
open PySem PySem.Spec PyProof.Rows L2
def u1 (zs : List Str) (a b : Str) : Nat := if up zs (a, b) = true then 1 else 0
/-- how many of the next ones lie above the one before -/
def C (zs : List Str) : List Str → Nat
  | a :: b :: r => u1 zs a b + C zs (b :: r)
  | _ => 0
def T (zs ls : List Str) : Nat := C zs (ls ++ ls.take 1)
theorem num_cons (zs : List Str) (q : Str × Str) (ps : List (Str × Str)) : num zs (q :: ps) = u1 zs q.1 q.2 + num zs ps := by
  unfold num u1
  by_cases e : up zs q = true
  · rw [List.filter_cons_of_pos e, if_pos (show up zs (q.1, q.2) = true from e), List.length_cons]
    omega
  · rw [List.filter_cons_of_neg e, if_neg (show ¬ up zs (q.1, q.2) = true from e)]
    omega
theorem num_zip (zs : List Str) : ∀ (a : Str) (l : List Str), num zs ((a :: l).zip l) = C zs (a :: l)
  | a, [] => rfl
  | a, b :: r => by
    rw [List.zip_cons_cons, num_cons, num_zip zs b r]
    rfl
theorem num_law (zs : List Str) (x : Str) : ∀ (a : Str) (r : List Str), num zs ((a :: r).zip (r ++ [x])) = C zs (a :: r ++ [x])
  | a, [] => by
    show num zs [(a, x)] = C zs [a, x]
    rw [num_cons]
    rfl
  | a, b :: r => by
    show num zs ((a, b) :: (b :: r).zip (r ++ [x])) = C zs (a :: b :: (r ++ [x]))
    rw [num_cons, num_law zs x b r]
    rfl
theorem law_T {zs ls : List Str} (h : 1 ≤ ls.length) : num zs (ls.zip (ls.drop 1 ++ ls.take 1)) = T zs ls := by
  cases ls with
  | nil => simp at h
  | cons a r =>
    show num zs ((a :: r).zip (r ++ [a])) = C zs (a :: r ++ [a])
    exact num_law zs a a r
theorem C_split (zs : List Str) (x : Str) (v : List Str) : ∀ u : List Str, C zs (u ++ x :: v) = C zs (u ++ [x]) + C zs (x :: v)
  | [] => by
    show C zs (x :: v) = 0 + C zs (x :: v)
    omega
  | [a] => by
    show u1 zs a x + C zs (x :: v) = (u1 zs a x + 0) + C zs (x :: v)
    omega
  | a :: b :: r => by
    have ih := C_split zs x v (b :: r)
    show u1 zs a b + C zs (b :: r ++ x :: v) = (u1 zs a b + C zs (b :: r ++ [x])) + C zs (x :: v)
    omega
theorem prog_T (zs ms : List Str) (y : Str) : num zs ((y :: (ms ++ [y])).zip (ms ++ [y])) = T zs (ms ++ [y]) := by
  rw [num_zip]
  cases ms with
  | nil => rfl
  | cons x t =>
    show u1 zs y x + C zs (x :: (t ++ [y])) = C zs ((x :: t ++ [y]) ++ [x])
    rw [List.append_assoc, show x :: t ++ ([y] ++ [x]) = (x :: t) ++ y :: [x] from rfl, C_split]
    show u1 zs y x + C zs (x :: (t ++ [y])) = C zs (x :: t ++ [y]) + (u1 zs y x + 0)
    rw [Nat.add_zero, Nat.add_comm]
    rfl
theorem T_rot (zs : List Str) : ∀ u v : List Str, T zs (u ++ v) = T zs (v ++ u)
  | [], v => by rw [List.nil_append, List.append_nil]
  | a :: u, [] => by rw [List.nil_append, List.append_nil]
  | a :: u, b :: v => by
    unfold T
    show C zs ((a :: u ++ b :: v) ++ [a]) = C zs ((b :: v ++ a :: u) ++ [b])
    rw [List.append_assoc, List.append_assoc]
    show C zs (a :: u ++ b :: (v ++ [a])) = C zs (b :: v ++ a :: (u ++ [b]))
    rw [C_split zs b, C_split zs a]
    show C zs (a :: (u ++ [b])) + C zs (b :: (v ++ [a])) = C zs (b :: (v ++ [a])) + C zs (a :: (u ++ [b]))
    omega
def Ad (zs : List Str) : List Str → Prop
  | a :: b :: r => pos a zs ≠ pos b zs ∧ Ad zs (b :: r)
  | _ => True
theorem u1_two {zs : List Str} {a b : Str} (h : pos a zs ≠ pos b zs) : u1 zs a b + u1 zs b a = 1 := by
  unfold u1 up
  by_cases e : (pos b zs : Int) < (pos a zs : Int)
  · rw [if_pos (decide_eq_true e), if_neg (by rw [decide_eq_true_eq]; show ¬ (pos a zs : Int) < (pos b zs : Int); omega)]
  · rw [if_neg (by rw [decide_eq_true_eq]; exact e), if_pos (by rw [decide_eq_true_eq]; show (pos a zs : Int) < (pos b zs : Int); omega)]
theorem C_rev {zs : List Str} : ∀ {m : List Str}, m ≠ [] → Ad zs m → C zs m + C zs m.reverse + 1 = m.length
  | [], h, _ => absurd rfl h
  | [a], _, _ => rfl
  | a :: b :: r, _, h => by
    have ih := C_rev (m := b :: r) (by simp) h.2
    have e : (a :: b :: r).reverse = r.reverse ++ b :: [a] := by
      rw [List.reverse_cons, List.reverse_cons, List.append_assoc]
      rfl
    rw [e, C_split, ← List.reverse_cons]
    show (u1 zs a b + C zs (b :: r)) + (C zs (b :: r).reverse + (u1 zs b a + 0)) + 1 = (b :: r).length + 1
    have := u1_two h.1
    omega
theorem Ad_of {zs : List Str} : ∀ {l : List Str}, l.Nodup → (∀ x ∈ l, x ∈ zs) → Ad zs l
  | [], _, _ => trivial
  | [a], _, _ => trivial
  | a :: b :: r, hn, hi => by
    have h2 := List.nodup_cons.mp hn
    refine ⟨fun e => h2.1 ?_, Ad_of h2.2 fun x hx => hi x (List.mem_cons_of_mem _ hx)⟩
    rw [pos_inj (hi a List.mem_cons_self) (hi b (List.mem_cons_of_mem _ List.mem_cons_self)) e]
    exact List.mem_cons_self
theorem Ad_snoc {zs : List Str} {x : Str} : ∀ {l : List Str}, Ad zs l → (∀ y, l.getLast? = some y → pos y zs ≠ pos x zs) → Ad zs (l ++ [x])
  | [], _, _ => trivial
  | [a], _, h => ⟨h a rfl, trivial⟩
  | a :: b :: r, hA, h => ⟨hA.1, Ad_snoc (l := b :: r) hA.2 fun y hy => h y (by rw [List.getLast?_cons_cons]; exact hy)⟩
theorem Ad_round {zs : List Str} {x b : Str} {r : List Str} (hn : (x :: b :: r).Nodup) (hi : ∀ y ∈ x :: b :: r, y ∈ zs) : Ad zs ((x :: b :: r) ++ [x]) := by
  refine Ad_snoc (Ad_of hn hi) fun y hy e => ?_
  rw [List.getLast?_cons_cons] at hy
  have hm := List.mem_of_getLast? hy
  have := pos_inj (hi y (List.mem_cons_of_mem _ hm)) (hi x List.mem_cons_self) e
  exact (List.nodup_cons.mp hn).1 (this ▸ hm)
theorem C_rise {zs : List Str} : ∀ {a b : Str} {t : List Str} {z : Str}, Ad zs (a :: b :: t) → C zs (a :: b :: t) = 0 → (b :: t).getLast? = some z → pos a zs < pos z zs
  | a, b, [], z, hA, h0, hz => by
    have ez : b = z := Option.some.inj hz
    subst ez
    have h1 : u1 zs a b + 0 = 0 := h0
    have h2 : ¬ up zs (a, b) = true := fun e => by
      unfold u1 at h1
      rw [if_pos e] at h1
      cases h1
    have h3 : ¬ (pos b zs : Int) < (pos a zs : Int) := fun e => h2 (decide_eq_true e)
    have := hA.1
    omega
  | a, b, c :: t, z, hA, h0, hz => by
    have h1 : u1 zs a b + C zs (b :: c :: t) = 0 := h0
    have h2 : ¬ up zs (a, b) = true := fun e => by
      unfold u1 at h1
      rw [if_pos e] at h1
      omega
    have h3 : ¬ (pos b zs : Int) < (pos a zs : Int) := fun e => h2 (decide_eq_true e)
    have h4 := C_rise (a := b) (b := c) (t := t) (z := z) hA.2 (by omega) (by rw [List.getLast?_cons_cons] at hz; exact hz)
    have := hA.1
    omega
theorem T_pos {zs ls : List Str} (hn : ls.Nodup) (hi : ∀ y ∈ ls, y ∈ zs) (h2 : 2 ≤ ls.length) : 1 ≤ T zs ls := by
  cases ls with
  | nil => simp at h2
  | cons x r =>
    cases r with
    | nil => simp at h2
    | cons b r =>
      rcases Nat.eq_zero_or_pos (T zs (x :: b :: r)) with e | e
      · have e2 : C zs (x :: b :: (r ++ [x])) = 0 := e
        have := C_rise (z := x) (Ad_round hn hi) e2 (show ((b :: r) ++ [x]).getLast? = some x by rw [List.getLast?_append]; rfl)
        omega
      · exact e
theorem T_rev {zs ls : List Str} (hn : ls.Nodup) (hi : ∀ y ∈ ls, y ∈ zs) (h2 : 2 ≤ ls.length) : T zs ls + T zs ls.reverse = ls.length := by
  cases ls with
  | nil => simp at h2
  | cons x r =>
    cases r with
    | nil => simp at h2
    | cons b r =>
      have h := C_rev (zs := zs) (m := (x :: b :: r) ++ [x]) (by simp) (Ad_round hn hi)
      have e1 : T zs (x :: b :: r).reverse = C zs (x :: (x :: b :: r).reverse) := by
        rw [List.reverse_cons, ← prog_T, num_zip]
      have e2 : ((x :: b :: r) ++ [x]).reverse = x :: (x :: b :: r).reverse := by
        rw [List.reverse_append]
        rfl
      rw [e2, ← e1, List.length_append] at h
      have e3 : T zs (x :: b :: r) = C zs ((x :: b :: r) ++ [x]) := rfl
      rw [← e3] at h
      simp only [List.length_singleton] at h
      omega
theorem T_lt {zs ls : List Str} (hn : ls.Nodup) (hi : ∀ y ∈ ls, y ∈ zs) (h2 : 2 ≤ ls.length) : T zs ls < ls.length := by
  have h := T_rev hn hi h2
  have := T_pos (zs := zs) (ls := ls.reverse) ((List.reverse_perm ls).nodup_iff.mpr hn) (fun y hy => hi y (List.mem_reverse.mp hy)) (by rw [List.length_reverse]; exact h2)
  omega
theorem snoc_of {ls : List Str} (h : 1 ≤ ls.length) : ∃ ms y, ls = ms ++ [y] := by
  have hne : ls ≠ [] := fun e => by
    rw [e] at h
    simp at h
  exact ⟨ls.dropLast, ls.getLast hne, (List.dropLast_concat_getLast hne).symm⟩
end HF
namespace HF
open PySem PySem.Spec PyProof.Rows L2
abbrev sRight : Stmt := topS 14
abbrev sLaw : Stmt := topS 15
abbrev nRight : List Str := ["_law_box_here", "_law_stack", "_law_loop", "_law_at", "_law_order", "_law_due", "_law_before", "_law_told"]
theorem scRight : FnScope nRight ["_law_box_here"] (defScope sRight) := ⟨rfl, rfl, rfl, by decide +kernel, rfl, by decide +kernel, by decide +kernel⟩
/-- what the top has written -/
structure TX (K : PySem.W.Frag) (mg : Str → Option Value) where
  fT : Addr
  dT : FuncData
  FT : Fun K "_law_take" "_law_take" sTake fT dT
  bT : Binds K dT ["_law_box_here", "_law_bound"] []
  gT : mg "_law_take" = some (.ref fT)
  fS : Addr
  dS : FuncData
  FS : Fun K "_law_strewn" "_law_strewn" sStrewn fS dS
  bS : Binds K dS ["_law_box_here", "_law_some"] []
  gS : mg "_law_strewn" = some (.ref fS)
  fN : Addr
  dN : FuncData
  FN : Fun K "_law_names" "_law_names" sNames fN dN
  bN : Binds K dN ["_law_box_here", "_law_size"] []
  gN : mg "_law_names" = some (.ref fN)
  fH : Addr
  dH : FuncData
  FH : Fun K "_law_heap" "_law_heap" sHeap fH dH
  bH : Binds K dH ["_law_box_here", "_law_least", "_law_most"] []
  gH : mg "_law_heap" = some (.ref fH)
  fA : Addr
  dA : FuncData
  FA : Fun K "_law_above" "_law_above" sAbove fA dA
  bA : Binds K dA ["_law_stack", "_law_mine", "_law_its"] []
  gA : mg "_law_above" = some (.ref fA)
  fU : Addr
  dU : FuncData
  FU : Fun K "_law_number" "_law_number" sNum fU dU
  bU : Binds K dU ["_law_stack", "_law_loop"] []
  gU : mg "_law_number" = some (.ref fU)
  fL : Addr
  dL : FuncData
  FL : Fun K "lies_above" "lies_above" sLies fL dL
  bL : Binds K dL ["heap", "one", "other"] []
  gL : mg "lies_above" = some (.ref fL)
  fR : Addr
  dR : FuncData
  FR : Fun K "ring_ties" "ring_ties" sRt fR dR
  bR : Binds K dR ["ring"] []
  gR : mg "ring_ties" = some (.ref fR)
  fM : Addr
  dM : FuncData
  FM : Fun K "ring_number" "ring_number" sRn fM dM
  bM : Binds K dM ["heap", "ring"] []
  gM : mg "ring_number" = some (.ref fM)
  fE : Addr
  dE : FuncData
  FE : Fun K "_law_same" "_law_same" sSame fE dE
  bE : Binds K dE ["_law_found", "_law_due"] []
  gE : mg "_law_same" = some (.ref fE)
  fB : Addr
  dB : FuncData
  FB : Fun K "_law_box" "_law_box" sBox fB dB
  bB : Binds K dB ["_law_script", "_law_k"] []
  gB : mg "_law_box" = some (.ref fB)
  fQ : Addr
  dQ : FuncData
  FQ : Fun K "_law_right" "_law_right" sRight fQ dQ
  bQ : Binds K dQ ["_law_box_here"] []
  gQ : mg "_law_right" = some (.ref fQ)
  m_len : mg "len" = none
  m_abs : mg "abs" = none
  m_int : mg "int" = none
  m_range : mg "range" = none
  m_sorted : mg "sorted" = none
  m_tuple : mg "tuple" = none
  m_list : mg "list" = none
  m_isinstance : mg "isinstance" = none
  m_bool : mg "bool" = none
  m_str : mg "str" = none
  m_all : mg "all" = none
  m_zip : mg "zip" = none
  m_repr : mg "repr" = none
  m_min : mg "min" = none
  kM : KBinds K dM ["heap", "ring"] ["ring", "heap"] g21 g21
theorem show_strs : ∀ zs : List Str, PyData.showableAll (zs.map PyData.str) = true
  | [] => rfl
  | z :: r => show_strs r
theorem nodict_strs : ∀ zs : List Str, PyData.hasDictAll (zs.map PyData.str) = false
  | [] => rfl
  | z :: r => nodict_strs r
theorem ints_strs (B : Nat) : ∀ zs : List Str, PyData.intsShortAll B (zs.map PyData.str) = true
  | [] => rfl
  | z :: r => ints_strs B r
theorem weight_strs : ∀ {zs : List Str}, (∀ z ∈ zs, Nm z) → PyData.weightAll (zs.map PyData.str) ≤ 7 * zs.length
  | [], _ => Nat.le_refl _
  | z :: r, h => by
    have ih := weight_strs fun y hy => h y (List.mem_cons_of_mem _ hy)
    have hz := (h z List.mem_cons_self).2.1
    rw [Array.length_toList] at hz
    show z.cps.size + 1 + PyData.weightAll (r.map PyData.str) ≤ 7 * (r.length + 1)
    omega
abbrev dTwo (xs ys : List Str) : PyData := .list [.tuple (xs.map PyData.str), .list (ys.map PyData.str)]
theorem two_show (xs ys : List Str) : (dTwo xs ys).showable = true := by
  show (PyData.showableAll (xs.map PyData.str) && (PyData.showableAll (ys.map PyData.str) && true)) = true
  rw [show_strs, show_strs]
  rfl
theorem two_nodict (xs ys : List Str) : (dTwo xs ys).hasDict = false := by
  show (PyData.hasDictAll (xs.map PyData.str) || (PyData.hasDictAll (ys.map PyData.str) || false)) = false
  rw [nodict_strs, nodict_strs]
  rfl
theorem two_depth (xs ys : List Str) : (dTwo xs ys).depth < 60 := by
  show max (PyData.depthAll (xs.map PyData.str) + 1) (max (PyData.depthAll (ys.map PyData.str) + 1) 0) + 1 < 60
  rw [depth_strs, depth_strs]
  decide
theorem two_fits {xs ys : List Str} (hx : ∀ z ∈ xs, Nm z) (hy : ∀ z ∈ ys, Nm z) (lx : xs.length ≤ 1000) (ly : ys.length ≤ 1000) : (dTwo xs ys).shown.length ≤ sizeLine := by
  refine PyData.shown_fits (B := 13) (by decide) (by decide) (PyData.leavesShort_of_canLay0 13 _ ?_ ?_) ?_
  · show (PyData.canLayAll0 (xs.map PyData.str) && (PyData.canLayAll0 (ys.map PyData.str) && true)) = true
    rw [canLay_strs hx, canLay_strs hy]
    rfl
  · show (PyData.intsShortAll 13 (xs.map PyData.str) && (PyData.intsShortAll 13 (ys.map PyData.str) && true)) = true
    rw [ints_strs, ints_strs]
    rfl
  · show PyData.weightAll (xs.map PyData.str) + 1 + (PyData.weightAll (ys.map PyData.str) + 1 + 0) ≤ 2 ^ 20
    have h1 := weight_strs hx
    have h2 := weight_strs hy
    omega
theorem cutTo (xs : List V) (k : Nat) : cutV xs none (some (k : Int)) = xs.take k := by
  unfold cutV
  rw [HT.sIx_none, HT.sIx_nat, List.drop_zero, Nat.sub_zero]
  rcases Nat.le_total k xs.length with h | h
  · rw [Nat.min_eq_left h]
  · rw [Nat.min_eq_right h, List.take_of_length_le (Nat.le_refl _), List.take_of_length_le h]
theorem cutFrom (xs : List V) (k : Nat) : cutV xs (some (k : Int)) none = xs.drop k := by
  unfold cutV
  rw [HT.sIx_none, HT.sIx_nat]
  rcases Nat.le_total k xs.length with h | h
  · rw [Nat.min_eq_left h]
    exact List.take_of_length_le (by rw [List.length_drop]; omega)
  · rw [Nat.min_eq_right h, Nat.sub_self, List.take_zero, List.drop_of_length_le h]
theorem Hq.of_tp {K : PySem.W.Frag} {H : Hp} {a : Addr} {zs : List Str} (h : Tp H a (zs.map V.str)) : Hq K H a zs := .inr h
theorem Tp.ne {H : Hp} {a p : Addr} {xs : List V} {c : Int} (h : Tp H a xs) (hb : Bx H p c) : a ≠ p := by
  obtain ⟨ob, e, _⟩ := h
  obtain ⟨x, y, e2, _⟩ := hb
  exact ne_of e e2 (by intro z; cases z)
theorem Bx.same {H H' : Hp} {p : Addr} {c : Int} (h : Bx H p c) (sm : Same H H') : Bx H' p c := by
  obtain ⟨a, b, e, r⟩ := h
  exact ⟨a, b, sm _ _ e, r⟩
section
variable {P : Program} {w : World} {K : PySem.W.Frag} {mg : Str → Option Value} {base : Heap}
def spRight : Sp := fun vs H Q _ => ∃ (p : Addr) (c : Int), vs = [.ref p] ∧ Bx H p c ∧ c < 2 ^ 37 ∧
  ∀ (H' : Hp) (c' : Int), Oth p H H' → Bx H' p c' → c ≤ c' → c' ≤ c + 1000 → Q (.bl true) H'
theorem ok_right (t : TX K mg) : FnG P w K mg base CX0 5 t.fQ t.dQ ["_law_box_here"] spRight := by
  have GT : FnOk P w K mg base CX0 1 t.fT t.dT ["_law_box_here", "_law_bound"] spTake := ok_take t.FT
  have GS : FnOk P w K mg base CX0 2 t.fS t.dS ["_law_box_here", "_law_some"] (spStrewn K) := ok_strewn t.FS t.FT t.bT t.gT t.m_len
  have GH : FnOk P w K mg base CX0 3 t.fH t.dH ["_law_box_here", "_law_least", "_law_most"] spHeap := ok_heap t.FH t.FT t.FS t.FN t.bT t.bS t.bN t.gT t.gS t.gN t.m_range t.m_sorted t.m_len t.m_tuple
  have GU : FnOk P w K mg base CX0 2 t.fU t.dU ["_law_stack", "_law_loop"] (spNum K) := ok_num t.FU t.FA t.bA t.gA t.m_zip t.m_len
  have GM : FnOk P w K mg base CX0 2 t.fM t.dM ["heap", "ring"] (spRn K) := ok_rn t.FM t.FR t.FL t.bR t.bL t.gR t.gL t.m_range t.m_len
  have GE : FnOk P w K mg base CX0 4 t.fE t.dE ["_law_found", "_law_due"] (spSame K 3) := ok_same t.FE t.bE t.gE t.m_isinstance t.m_list t.m_tuple t.m_bool t.m_str t.m_int t.m_len t.m_all t.m_zip 3
  refine okG t.FQ scRight (fun vs H Q E h => ?_) (fun cdv A outer s H vs Q E gd hr h => ?_)
  · obtain ⟨p, c, rfl, _⟩ := h
    rfl
  · obtain ⟨p, c, rfl, hB, hc, q⟩ := h
    have hBnn := hB.nn
    have r1 := hr.mono (show 1 ≤ 4 by decide)
    have r2 := hr.mono (show 2 ≤ 4 by decide)
    have r3 := hr.mono (show 3 ≤ 4 by decide)
    refine ⟨_, pss_cons (ps_set (i := 1) scRight.nd rfl (.inl rfl) (pe_call GH r3 (by rfl) t.gH t.FH.kp t.bH .nil pass0 (pa_cons (pv 0) (pa_cons pe_int (pa_cons pe_int pa_nil)))))
      (pss_cons (ps_set (i := 2) scRight.nd rfl (.inl rfl) (pe_slice sl_list (pe_call GS r2 (by rfl) t.gS t.FS.kp t.bS .nil pass0 (pa_cons (pv 0) (pa_cons (pe_callTy call_list_of (by rfl) t.m_list (by decide +kernel) (pa_cons (pv 1) pa_nil)) pa_nil)))
          po_none (po_some (pe_op op_add pe_int (pe_call GT r1 (by rfl) t.gT t.FT.kp t.bT .nil pass0 (pa_cons (pv 0) (pa_cons (pe_op op_sub (pe_callB call_len_seq (by rfl) t.m_len PySem.boot_len (pa_cons (pv 1) pa_nil)) pe_int) pa_nil)))))))
      (pss_cons (ps_set (i := 3) scRight.nd rfl (.inl rfl) (pe_call GT r1 (by rfl) t.gT t.FT.kp t.bT .nil pass0 (pa_cons (pv 0) (pa_cons (pe_callB call_len_seq (by rfl) t.m_len PySem.boot_len (pa_cons (pv 2) pa_nil)) pa_nil))))
      (pss_cons (ps_for PassesOwn.never rfl (pi_tup (pe_tup (pa_cons (pv 1) (pa_cons (pe_revT (pv 1)) (pa_cons (pe_callTy call_tupleF (by rfl) t.m_tuple (by decide +kernel) (pa_cons (pe_call GS r2 (by rfl) t.gS t.FS.kp t.bS .nil pass0 (pa_cons (pv 0) (pa_cons (pv 1) pa_nil))) pa_nil)) pa_nil)))))
          (pg_name (i := 4) scRight.nd rfl (.inl rfl))
        (pss_cons (ps_par (i := 5) (j := 6) (by rfl) scRight.nd rfl rfl (by decide) rfl rfl (pa_cons (pe_call GU r2 (by rfl) t.gU t.FU.kp t.bU .nil pass0 (pa_cons (pv 4) (pa_cons (pv 2) pa_nil)))
            (pa_cons (pe_callB (call_reprD gd hr.units) (by rfl) t.m_repr (by decide +kernel) (pa_cons (pe_lst (pa_cons (pv 4) (pa_cons (pv 2) pa_nil))) pa_nil)) pa_nil)) (by rfl))
        (pss_cons (ps_set (i := 7) scRight.nd rfl (.inl rfl) (pe_lst (pa_cons (pe_call GM r2 (by rfl) t.gM t.FM.kp t.bM .nil pass0 (pa_cons (pv 4) (pa_cons (pv 2) pa_nil)))
            (pa_cons (pe_call GM r2 (by rfl) t.gM t.FM.kp t.bM .nil pass0 (pa_cons (pv 4) (pa_cons (pe_op op_cat (pe_slice sl_list (pv 2) (po_some (pv 3)) po_none) (pe_slice sl_list (pv 2) po_none (po_some (pv 3)))) pa_nil))) pa_nil))))
        (pss_cons (ps_set (i := 7) scRight.nd rfl (.inl rfl) (pe_op op_cat (pv 7) (pe_lst (pa_cons (pe_callK0 GM r2 (by rfl) t.gM t.FM.kp t.kM pass0 (pk_cons (pe_callTy call_tupleF (by rfl) t.m_tuple (by decide +kernel) (pa_cons (pv 2) pa_nil)) (pk_cons (pe_callTy call_list_of (by rfl) t.m_list (by decide +kernel) (pa_cons (pv 4) pa_nil)) pk_nil)))
            (pa_cons (pe_op op_sub (pe_callB call_len_seq (by rfl) t.m_len PySem.boot_len (pa_cons (pv 2) pa_nil)) (pe_call GM r2 (by rfl) t.gM t.FM.kp t.bM .nil pass0 (pa_cons (pv 4) (pa_cons (pe_revL (pv 2)) pa_nil)))) pa_nil)))))
        (pss_one (ps_if (PW.pt (pw_or (pt_not (pt_val (pe_call GE hr (by rfl) t.gE t.FE.kp t.bE .nil pass0 (pa_cons (pv 7) (pa_cons (pe_op op_rep (pe_lst (pa_cons (pv 5) pa_nil)) pe_int) pa_nil)))))
            (pw_or (pt_not (pt_chain op_le op_lt pe_int (pv 5) (pe_callB call_len_seq (by rfl) t.m_len PySem.boot_len (pa_cons (pv 2) pa_nil))))
            (pw_or1 (pt_cmpR op_ne (pe_callB (call_reprD gd hr.units) (by rfl) t.m_repr (by decide +kernel) (pa_cons (pe_lst (pa_cons (pv 4) (pa_cons (pv 2) pa_nil))) pa_nil)) (pv 6) (nomark _)))))) pss_never pss_nil))))))
      (pss_one (ps_ret pe_bl))))), ?_⟩
    refine ⟨.ref p, rfl, p, c, 2, 12, rfl, hB, by omega, by decide, by decide, fun H1 t1 zs c1 nt1 ho1 htp hz2 hz12 hznd hznm hb1 hc1 hc2 => ?_⟩
    have nt1p : t1 ≠ p := htp.ne hb1
    refine ⟨.ref p, rfl, .ref t1, rfl, t1, _, rfl, .inr htp.sq, fun l0 nl0 => ⟨p, l0, c1, _, rfl, hb1.ne (hb1.new nl0), by omega, (hb1.new nl0).symm, .inl (.inl (.inl upd_same)), by rw [List.length_map]; omega, fun H2 l1 ys c2 nl1 ho2 hl1 hpm hb2 hc3 hc4 => ?_⟩⟩
    obtain ⟨ls0, rfl, hls⟩ := perm_strs hpm
    rw [List.length_map] at hc4
    have htp2 : Tp H2 t1 (zs.map V.str) := (htp.same (same_upd nl0)).oth ho2 nt1p
    refine ⟨.ref p, rfl, .ref t1, rfl, t1, _, rfl, .inr htp2.sq, _, 1, rfl, rfl, p, _, c2, rfl, hb2, by omega, by rw [List.length_map]; omega, by rw [List.length_map]; omega, fun r c3 o hr0 hr1 hc5 hc6 hb3 => ?_⟩
    obtain ⟨rn, rfl⟩ := Int.eq_ofNat_of_zero_le hr0
    rw [List.length_map] at hr1
    have nl1p : l1 ≠ p := ((hb1.ne (hb1.new nl0)).new nl1).symm
    have hl13 : (upd H2 p o) l1 = some (.lst (ls0.map V.str)) := by
      rw [upd_ne nl1p]
      exact hl1
    refine ⟨2, rn, rfl, rfl, 2 + (rn : Int), rfl, l1, _, rfl, .inl (.inl hl13), fun lp nlp => ?_⟩
    have ecut : cutV (ls0.map V.str) none (some (2 + (rn : Int))) = (ls0.take (2 + rn)).map V.str := by
      rw [show (2 : Int) + (rn : Int) = ((2 + rn : Nat) : Int) by omega, cutTo, List.map_take]
    rw [ecut]
    have hlsl : (ls0.take (2 + rn)).length = 2 + rn := by
      rw [List.length_take, hls.length_eq]
      omega
    have hlsnd : (ls0.take (2 + rn)).Nodup := (List.take_sublist _ _).nodup (hls.nodup_iff.mpr hznd)
    have hlsin : ∀ z ∈ ls0.take (2 + rn), z ∈ zs := fun z hz => hls.mem_iff.mp (List.mem_of_mem_take hz)
    have ho4 : Oth p H (upd (upd H2 p o) lp (.lst ((ls0.take (2 + rn)).map V.str))) := (((ho1.trans (Oth.of (same_upd nl0))).trans ho2).trans Oth.put).trans (Oth.of (same_upd nlp))
    have htp4 : Tp (upd (upd H2 p o) lp (.lst ((ls0.take (2 + rn)).map V.str))) t1 (zs.map V.str) := (htp2.oth Oth.put nt1p).same (same_upd nlp)
    have hb4 : Bx (upd (upd H2 p o) lp (.lst ((ls0.take (2 + rn)).map V.str))) p c3 := hb3.ne (hb3.new nlp)
    have hlp4 : (upd (upd H2 p o) lp (.lst ((ls0.take (2 + rn)).map V.str))) lp = some (.lst ((ls0.take (2 + rn)).map V.str)) := upd_same
    have nlpp : lp ≠ p := (hb3.new nlp).symm
    generalize (upd (upd H2 p o) lp (.lst ((ls0.take (2 + rn)).map V.str))) = H4 at *
    generalize ls0.take (2 + rn) = ls at *
    refine ⟨.ref p, rfl, .ref lp, rfl, lp, _, rfl, .inl (.inl (.inl hlp4)), p, _, c3, rfl, hb4, by omega, by rw [List.length_map]; omega, by rw [List.length_map]; omega, fun r2 c4 o2 hr20 hr21 hc7 hc8 hb5 => ?_⟩
    obtain ⟨an, rfl⟩ := Int.eq_ofNat_of_zero_le hr20
    rw [List.length_map] at hr21
    have htp5 : Tp (upd H4 p o2) t1 (zs.map V.str) := htp4.oth Oth.put nt1p
    have hlp5 : (upd H4 p o2) lp = some (.lst (ls.map V.str)) := by
      rw [upd_ne nlpp]
      exact hlp4
    have ho5 : Oth p H (upd H4 p o2) := ho4.trans Oth.put
    generalize (upd H4 p o2) = H5 at *
    refine ⟨.ref t1, rfl, .ref t1, rfl, t1, _, rfl, htp5.sq, fun t2 ob2 nt2 e2 e3 => ?_⟩
    have s6 : Same H5 (upd H5 t2 (.frz ob2 (.tup (zs.map V.str).reverse))) := same_upd nt2
    have htB : Tp (upd H5 t2 (.frz ob2 (.tup (zs.map V.str).reverse))) t2 (zs.reverse.map V.str) := ⟨ob2, by rw [upd_same, List.map_reverse], e2, e3⟩
    have hb6 := hb5.same s6
    generalize (upd H5 t2 (.frz ob2 (.tup (zs.map V.str).reverse))) = H6 at *
    refine ⟨.ref p, rfl, .ref t1, rfl, p, t1, c4, _, rfl, hb6, by omega, nt1p, .inr (htp5.same s6).sq, by rw [List.length_map]; omega, fun H7 l3 ys3 c5 nl3 ho7 hl3 hpm3 hb7 hc9 hc10 => ?_⟩
    obtain ⟨os3, rfl, hos3⟩ := perm_strs hpm3
    rw [List.length_map] at hc10
    refine ⟨l3, _, rfl, .inl (.inl hl3), fun t3 ob3 nt3 e4 e5 => ⟨(by decide : (3 : Nat) ≤ sizeLine), fun tt ntt => ?_⟩⟩
    have s8 : Same H7 (upd (upd H7 t3 (.frz ob3 (.tup (os3.map V.str)))) tt (.tup [.ref t1, .ref t2, .ref t3])) := (same_upd nt3).trans (same_upd ntt)
    have htC : Tp (upd (upd H7 t3 (.frz ob3 (.tup (os3.map V.str)))) tt (.tup [.ref t1, .ref t2, .ref t3])) t3 (os3.map V.str) := Tp.same ⟨ob3, upd_same, e4, e5⟩ (same_upd ntt)
    have htt : (upd (upd H7 t3 (.frz ob3 (.tup (os3.map V.str)))) tt (.tup [.ref t1, .ref t2, .ref t3])) tt = some (.tup [.ref t1, .ref t2, .ref t3]) := upd_same
    generalize (upd (upd H7 t3 (.frz ob3 (.tup (os3.map V.str)))) tt (.tup [.ref t1, .ref t2, .ref t3])) = H9 at *
    have htA9 : Tp H9 t1 (zs.map V.str) := (((htp5.same s6).oth ho7 nt1p)).same s8
    have htB9 : Tp H9 t2 (zs.reverse.map V.str) := (htB.oth ho7 (htB.ne hb6)).same s8
    have hb9 := hb7.same s8
    have hlp9 : H9 lp = some (.lst (ls.map V.str)) := s8 _ _ (ho7 _ _ (s6 _ _ hlp5) nlpp)
    have ho9 : Oth p H H9 := ((ho5.trans (Oth.of s6)).trans ho7).trans (Oth.of s8)
    have hord : ∀ (i : Nat) (x : V), [V.ref t1, V.ref t2, V.ref t3][i]? = some x → ∃ (a : Addr) (os : List Str), x = .ref a ∧ Tp H9 a (os.map V.str) ∧ os.Perm zs := by
      intro i x hx
      match i, hx with
      | 0, hx => cases hx; exact ⟨t1, zs, rfl, htA9, .refl _⟩
      | 1, hx => cases hx; exact ⟨t2, zs.reverse, rfl, htB9, List.reverse_perm _⟩
      | 2, hx => cases hx; exact ⟨t3, os3, rfl, htC, hos3⟩
      | i + 3, hx => simp at hx
    have hlen : 2 ≤ ls.length := by omega
    have hlen12 : ls.length ≤ 12 := by omega
    have hlsnm : ∀ z ∈ ls, Nm z := fun z hz => hznm z (hlsin z hz)
    refine ⟨tt, rfl, ⟨_, .inl (.inl htt)⟩, for_tup (xs := [V.ref t1, V.ref t2, V.ref t3]) (fun i σ H' => ∃ y4 y5 y6 y7, σ = [some (.ref p), some (.ref t1), some (.ref lp), some (.int an), y4, y5, y6, y7] ∧ Same H9 H') ⟨none, none, none, none, rfl, Same.refl _⟩ ?_ ?_ ?_⟩
    · rintro i σ H' hi ⟨y4, y5, y6, y7, rfl, sm⟩
      exact sameT sm (.inl (.inl htt))
    · rintro i x σ Ha hx ⟨y4, y5, y6, y7, rfl, sm⟩
      obtain ⟨a, os, rfl, htpA, hperm⟩ := hord i x hx
      have hin : ∀ z ∈ ls, z ∈ os := fun z hz => hperm.mem_iff.mpr (hlsin z hz)
      have hosnm : ∀ z ∈ os, Nm z := fun z hz => hznm z (hperm.mem_iff.mp hz)
      have hosl : os.length ≤ 12 := by rw [hperm.length_eq]; exact hz12
      obtain ⟨ms, y, hmy⟩ := snoc_of (ls := ls) (by omega)
      have hmsl : ms.length ≤ 1000 := by
        have := congrArg List.length hmy
        rw [List.length_append] at this
        omega
      have hseq : ∀ {Hx : Hp}, Same H9 Hx → SqL K Hx lp (ls.map V.str) := fun sx => sx.seq (.inl (.inl hlp9))
      have hseq2 : ∀ {Hx : Hp}, Same H9 Hx → SqL K Hx lp ((ms ++ [y]).map V.str) := fun sx => hmy ▸ hseq sx
      have hval : num os ((y :: (ms ++ [y])).zip (ms ++ [y])) = T os ls := by rw [prog_T, hmy]
      have hrep : ∀ {Hx : Hp} {L : Addr}, Same H9 Hx → Hx L = some (.lst [.ref a, .ref lp]) → Dp K Hx (.ref L) (dTwo os ls) := fun sx hL => .lst (.inl (.inl hL)) (.cons (.tup (htpA.same sx).sq (dp_strs os)) (.cons (.lst (hseq sx) (dp_strs ls)) .nil))
      refine ⟨.ref a, rfl, .ref lp, rfl, a, lp, os, ls, rfl, .inr (htpA.same sm), hseq sm, hin, by omega, by omega, fun Hb smb => ?_⟩
      have sB := sm.trans smb
      rw [law_T (by omega)]
      refine ⟨.ref a, rfl, .ref lp, rfl, (by decide : (2 : Nat) ≤ sizeLine), fun Lr nLr => ?_⟩
      have sC : Same H9 (upd Hb Lr (.lst [.ref a, .ref lp])) := sB.trans (same_upd nLr)
      refine ⟨Lr, dTwo os ls, rfl, hrep sC upd_same, two_show _ _, two_nodict _ _, two_depth _ _, two_fits hosnm hlsnm (by omega) (by omega), _, _, rfl, ?_⟩
      generalize (upd Hb Lr (.lst [.ref a, .ref lp])) = Hc at *
      -- told: by places, begun elsewhere
      refine ⟨.ref a, rfl, .ref lp, rfl, a, lp, os, ms, y, rfl, .inr (htpA.same sC), .inl (hseq2 sC), hmy ▸ hin, hmsl, fun Hd smd => ?_⟩
      rw [hval]
      have sD := sC.trans smd
      refine ⟨.ref a, rfl, .ref lp, rfl, .int an, rfl, an, rfl, lp, _, rfl, hseq sD, fun C1 nC1 => ⟨.ref lp, rfl, .int an, rfl, an, rfl, lp, _, rfl, hseq (sD.trans (same_upd nC1)), fun C2 nC2 => ?_⟩⟩
      rw [cutFrom] at nC2 ⊢
      rw [cutTo]
      have sE : Same H9 (upd (upd Hd C1 (.lst ((ls.map V.str).drop an))) C2 (.lst ((ls.map V.str).take an))) := (sD.trans (same_upd nC1)).trans (same_upd nC2)
      have hC1 : (upd (upd Hd C1 (.lst ((ls.map V.str).drop an))) C2 (.lst ((ls.map V.str).take an))) C1 = some (.lst ((ls.map V.str).drop an)) := same_upd nC2 _ _ upd_same
      refine ⟨C1, C2, _, _, rfl, rfl, hC1, upd_same, ?_, fun C3 nC3 => ?_⟩
      · rw [List.length_drop, List.length_take, List.length_map, PySem.sizeLine_eq]
        omega
      have e3 : (ls.map V.str).drop an ++ (ls.map V.str).take an = (ls.drop an ++ ls.take an).map V.str := by
        rw [List.map_append, List.map_drop, List.map_take]
      rw [e3]
      have sF := sE.trans (same_upd (o := .lst ((ls.drop an ++ ls.take an).map V.str)) nC3)
      have hC3 : (upd (upd (upd Hd C1 (.lst ((ls.map V.str).drop an))) C2 (.lst ((ls.map V.str).take an))) C3 (.lst ((ls.drop an ++ ls.take an).map V.str))) C3 = some (.lst ((ls.drop an ++ ls.take an).map V.str)) := upd_same
      generalize (upd (upd (upd Hd C1 (.lst ((ls.map V.str).drop an))) C2 (.lst ((ls.map V.str).take an))) C3 (.lst ((ls.drop an ++ ls.take an).map V.str))) = He at *
      have hrl : (ls.drop an ++ ls.take an).length = ls.length := by
        rw [List.length_append, List.length_drop, List.length_take]
        omega
      obtain ⟨ms2, y2, hmy2⟩ := snoc_of (ls := ls.drop an ++ ls.take an) (by omega)
      have hval2 : num os ((y2 :: (ms2 ++ [y2])).zip (ms2 ++ [y2])) = T os ls := by
        rw [prog_T, ← hmy2, T_rot, List.take_append_drop]
      have hms2 : ms2.length ≤ 1000 := by
        have := congrArg List.length hmy2
        rw [hrl, List.length_append] at this
        omega
      have hin2 : ∀ z ∈ ms2 ++ [y2], z ∈ os := fun z hz => by
        rw [← hmy2] at hz
        rcases List.mem_append.mp hz with h | h
        · exact hin z (List.mem_of_mem_drop h)
        · exact hin z (List.mem_of_mem_take h)
      refine ⟨a, C3, os, ms2, y2, rfl, .inr (htpA.same sF), .inl (.inl (.inl (hmy2 ▸ hC3))), hin2, hms2, fun Hf smf => ?_⟩
      rw [hval2]
      refine ⟨(by decide : (2 : Nat) ≤ sizeLine), fun L7 nL7 => ?_⟩
      have sG : Same H9 (upd Hf L7 (.lst [.int (T os ls : Nat), .int (T os ls : Nat)])) := (sF.trans smf).trans (same_upd nL7)
      have hL7 : (upd Hf L7 (.lst [.int (T os ls : Nat), .int (T os ls : Nat)])) L7 = some (.lst [.int (T os ls : Nat), .int (T os ls : Nat)]) := upd_same
      generalize (upd Hf L7 (.lst [.int (T os ls : Nat), .int (T os ls : Nat)])) = Hg at *
      -- told: by names, turned about
      refine ⟨.ref L7, rfl, .ref lp, rfl, lp, _, rfl, hseq sG, fun t5 ob5 nt5 e6 e7 => ⟨.ref a, rfl, a, _, rfl, .inr ((htpA.same sG).same (same_upd nt5)).sq, fun l6 nl6 => ?_⟩⟩
      have sH : Same Hg (upd (upd Hg t5 (.frz ob5 (.tup (ls.map V.str)))) l6 (.lst (os.map V.str))) := (same_upd nt5).trans (same_upd nl6)
      have ht5 : Tp (upd (upd Hg t5 (.frz ob5 (.tup (ls.map V.str)))) l6 (.lst (os.map V.str))) t5 (ls.map V.str) := Tp.same ⟨ob5, upd_same, e6, e7⟩ (same_upd nl6)
      have hl6 : (upd (upd Hg t5 (.frz ob5 (.tup (ls.map V.str)))) l6 (.lst (os.map V.str))) l6 = some (.lst (os.map V.str)) := upd_same
      generalize (upd (upd Hg t5 (.frz ob5 (.tup (ls.map V.str)))) l6 (.lst (os.map V.str))) = Hh at *
      refine ⟨l6, t5, os, ms, y, rfl, .inl (.inl (.inl hl6)), .inr (hmy ▸ ht5.sq), hmy ▸ hin, hmsl, fun Hi smi => ?_⟩
      rw [hval]
      have sI := (sG.trans sH).trans smi
      have hL7i := smi _ _ (sH _ _ hL7)
      refine ⟨.ref lp, rfl, lp, _, rfl, .inl (hseq sI), .ref a, rfl, .ref lp, rfl, lp, _, rfl, hseq sI, fun r7 nr7 => ?_⟩
      rw [← List.map_reverse]
      have sJ := sI.trans (same_upd (o := .lst (ls.reverse.map V.str)) nr7)
      have hr7 : (upd Hi r7 (.lst (ls.reverse.map V.str))) r7 = some (.lst (ls.reverse.map V.str)) := upd_same
      have hL7j := same_upd (o := .lst (ls.reverse.map V.str)) nr7 _ _ hL7i
      generalize (upd Hi r7 (.lst (ls.reverse.map V.str))) = Hj at *
      obtain ⟨ms3, y3, hmy3⟩ := snoc_of (ls := ls.reverse) (by rw [List.length_reverse]; omega)
      have hval3 : num os ((y3 :: (ms3 ++ [y3])).zip (ms3 ++ [y3])) = T os ls.reverse := by rw [prog_T, hmy3]
      have hms3 : ms3.length ≤ 1000 := by
        have := congrArg List.length hmy3
        rw [List.length_reverse, List.length_append] at this
        omega
      have hin3 : ∀ z ∈ ms3 ++ [y3], z ∈ os := fun z hz => by
        rw [← hmy3] at hz
        exact hin z (List.mem_reverse.mp hz)
      refine ⟨a, r7, os, ms3, y3, rfl, .inr (htpA.same sJ), .inl (.inl (.inl (hmy3 ▸ hr7))), hin3, hms3, fun Hk smk => ?_⟩
      rw [hval3]
      have hT := T_rev hlsnd hin hlen
      have e8 : (((ls.map V.str).length : Nat) : Int) - ((T os ls.reverse : Nat) : Int) = ((T os ls : Nat) : Int) := by
        rw [List.length_map]
        omega
      refine ⟨_, _, rfl, rfl, ?_⟩
      dsimp only
      rw [e8]
      refine ⟨(by decide : (2 : Nat) ≤ sizeLine), fun L8 nL8 => ?_⟩
      have sL : Same H9 (upd Hk L8 (.lst [.int (T os ls : Nat), .int (T os ls : Nat)])) := (sJ.trans smk).trans (same_upd nL8)
      have hL7l := same_upd (o := .lst [.int (T os ls : Nat), .int (T os ls : Nat)]) nL8 _ _ (smk _ _ hL7j)
      refine ⟨L7, L8, _, _, rfl, rfl, hL7l, upd_same, (by decide : (2 + 2 : Nat) ≤ sizeLine), fun L9 nL9 => ?_⟩
      have sM := sL.trans (same_upd (o := .lst ([V.int (T os ls : Nat), V.int (T os ls : Nat)] ++ [V.int (T os ls : Nat), V.int (T os ls : Nat)])) nL9)
      have hL9 : (upd (upd Hk L8 (.lst [.int (T os ls : Nat), .int (T os ls : Nat)])) L9 (.lst ([V.int (T os ls : Nat), V.int (T os ls : Nat)] ++ [V.int (T os ls : Nat), V.int (T os ls : Nat)]))) L9 = some (.lst [V.int (T os ls : Nat), V.int (T os ls : Nat), V.int (T os ls : Nat), V.int (T os ls : Nat)]) := upd_same
      generalize (upd (upd Hk L8 (.lst [.int (T os ls : Nat), .int (T os ls : Nat)])) L9 (.lst ([V.int (T os ls : Nat), V.int (T os ls : Nat)] ++ [V.int (T os ls : Nat), V.int (T os ls : Nat)]))) = Hm at *
      -- the test
      refine ⟨.ref L9, rfl, .int (T os ls : Nat), rfl, (by decide : (1 : Nat) ≤ sizeLine), fun La nLa => ⟨La, 4, _, rfl, rfl, upd_same, by decide, by decide, (by decide : (1 * 4 : Nat) ≤ sizeLine), fun Lb nLb => ?_⟩⟩
      have sN : Same Hm (upd (upd Hm La (.lst [.int (T os ls : Nat)])) Lb (.lst (List.replicate (4 : Int).toNat [V.int (T os ls : Nat)]).flatten)) := (same_upd nLa).trans (same_upd nLb)
      have hLb : (upd (upd Hm La (.lst [.int (T os ls : Nat)])) Lb (.lst (List.replicate (4 : Int).toNat [V.int (T os ls : Nat)]).flatten)) Lb = some (.lst [V.int (T os ls : Nat), V.int (T os ls : Nat), V.int (T os ls : Nat), V.int (T os ls : Nat)]) := upd_same
      generalize (upd (upd Hm La (.lst [.int (T os ls : Nat)])) Lb (.lst (List.replicate (4 : Int).toNat [V.int (T os ls : Nat)]).flatten)) = Hn at *
      have sO := sM.trans sN
      have hfour : ∀ {L : Addr}, Hn L = some (.lst [V.int (T os ls : Nat), V.int (T os ls : Nat), V.int (T os ls : Nat), V.int (T os ls : Nat)]) → Dp K Hn (.ref L) (.list [.int (T os ls : Nat), .int (T os ls : Nat), .int (T os ls : Nat), .int (T os ls : Nat)]) := fun hL => .lst (.inl (.inl hL)) (.cons (.int _) (.cons (.int _) (.cons (.int _) (.cons (.int _) .nil))))
      refine ⟨.ref L9, .ref Lb, _, rfl, hfour (sN _ _ hL9), hfour hLb, rfl, (by show (1 : Nat) ≤ 3; decide), (by show (1 : Nat) ≤ 60; decide), (by show (4 : Nat) ≤ 100000; decide), fun Ho smo => ?_⟩
      have sP := sO.trans smo
      have hTp := T_pos hlsnd hin hlen
      have hTl := T_lt hlsnd hin hlen
      refine ⟨_, rfl, iteF ?_⟩
      refine ⟨.int (T os ls : Nat), rfl, 1, (T os ls : Nat), rfl, rfl, _, rfl, ?_⟩
      rw [decide_eq_true (show (1 : Int) ≤ ((T os ls : Nat) : Int) by omega)]
      refine iteT ⟨.ref lp, rfl, lp, _, rfl, .inl (hseq sP), _, _, rfl, rfl, _, rfl, ?_⟩
      rw [decide_eq_true (show ((T os ls : Nat) : Int) < (((ls.map V.str).length : Nat) : Int) by rw [List.length_map]; omega)]
      refine iteF ?_
      refine ⟨.ref a, rfl, .ref lp, rfl, (by decide : (2 : Nat) ≤ sizeLine), fun Lq nLq => ?_⟩
      have sQ : Same H9 (upd Ho Lq (.lst [.ref a, .ref lp])) := sP.trans (same_upd nLq)
      refine ⟨Lq, dTwo os ls, rfl, hrep sQ upd_same, two_show _ _, two_nodict _ _, two_depth _ _, two_fits hosnm hlsnm (by omega) (by omega), _, rfl, rfl, _, rfl, ?_⟩
      rw [decide_eq_true rfl]
      exact iteF ⟨_, _, _, _, rfl, sQ⟩
    · rintro σ H' ⟨y4, y5, y6, y7, rfl, sm⟩
      exact q H' c5 (ho9.trans (Oth.of sm)) (hb9.same sm) (by omega) (by omega)
end
end HF
namespace HF
open PySem PySem.Spec PyProof.Rows L2
abbrev nLaw : List Str := ["_law_script", "_law_boxes", "_law_k", "_law_box_here"]
theorem scLaw : FnScope nLaw ["_law_script"] (defScope sLaw) := ⟨rfl, rfl, rfl, by decide +kernel, rfl, by decide +kernel, by decide +kernel⟩
theorem rep_mem {bs : List Addr} {k i : Nat} {x : V} (h : (List.replicate k (bs.map V.ref)).flatten[i]? = some x) : ∃ b ∈ bs, x = .ref b := by
  have hm := List.mem_of_getElem? h
  obtain ⟨l, hl, hx⟩ := List.mem_flatten.mp hm
  rw [(List.mem_replicate.mp hl).2] at hx
  obtain ⟨b, hb, rfl⟩ := List.mem_map.mp hx
  exact ⟨b, hb, rfl⟩
theorem Bx.oth {H H' : Hp} {p b : Addr} {c : Int} (h : Bx H b c) (o : Oth p H H') (n : b ≠ p) : Bx H' b c := by
  obtain ⟨x, y, e, r⟩ := h
  exact ⟨x, y, o _ _ e n, r⟩
section
variable {P : Program} {w : World} {K : PySem.W.Frag} {mg : Str → Option Value} {base : Heap}
def spLaw (K : PySem.W.Frag) : Sp := fun vs H Q _ => ∃ (a : Addr) (ns : List Int), vs = [.ref a] ∧ SqL K H a (ns.map V.int) ∧ ns.length ≤ 63 ∧ ∀ H', Q (.bl true) H'
theorem ok_law {f : Addr} {fd : FuncData} (F : Fun K "law" "law" sLaw f fd) (t : TX K mg) : FnG P w K mg base CX0 6 f fd ["_law_script"] (spLaw K) := by
  have GB : FnOk P w K mg base CX0 1 t.fB t.dB ["_law_script", "_law_k"] (spBox K) := ok_box t.FB t.m_len t.m_abs t.m_int
  have GQ : FnG P w K mg base CX0 5 t.fQ t.dQ ["_law_box_here"] spRight := ok_right t
  refine okG F scLaw (fun vs H Q E h => ?_) (fun cdv A outer s H vs Q E gd hr h => ?_)
  · obtain ⟨a, ns, rfl, _⟩ := h
    rfl
  · obtain ⟨a, ns, rfl, hS, hlen, q⟩ := h
    have r1 := hr.mono (show 1 ≤ 5 by decide)
    refine ⟨_, pss_cons (ps_setLc (i := 1) (own := [("_law_k", 2)]) (g := gName 2) (tt := tYes) rfl scLaw.nd rfl rfl (sw_true rfl rfl rfl (by decide +kernel))
        (pi_range1 (by rfl) t.m_range (pa_cons (pe_op op_add pe_int (pe_callB (call_min2 rfl) (by rfl) t.m_min (by decide +kernel) (pa_cons pe_int (pa_cons (pe_callB call_len_seq (by rfl) t.m_len PySem.boot_len (pa_cons (pv 0) pa_nil)) pa_nil)))) pa_nil))
        (blkOk_by (N := nLaw) (sc := defScope sLaw) (by decide +kernel)) (fun _ _ _ _ _ => pg_name (i := 2) scLaw.nd rfl (Or.inl rfl)) (fun _ _ _ _ _ => pts_nil)
        (fun _ _ _ _ _ => pe_call GB r1 (by rfl) t.gB t.FB.kp t.bB .nil pass0 (pa_cons (pv 0) (pa_cons (pv 2) pa_nil))))
      (pss_one (ps_ret (pe_callB (cr_all rfl) (by rfl) t.m_all (by decide +kernel) (pa_cons (pe_lc (own := [("_law_box_here", 3)]) (g := gName 3) (tt := tYes) rfl scLaw.nd
        (pi_list (pe_op op_rep (pv 1) pe_int))
        (blkOk_by (N := nLaw) (sc := defScope sLaw) (by decide +kernel)) (fun _ _ _ _ _ => pg_name (i := 3) scLaw.nd rfl (Or.inl rfl)) (fun _ _ _ _ _ => pts_nil)
        (fun _ _ _ _ _ => pe_callG GQ gd hr (by rfl) t.gQ t.FQ.kp t.bQ pass0 (pa_cons (pv 3) pa_nil))) pa_nil)))), ?_⟩
    obtain ⟨n, hn1, hn4, hn⟩ : ∃ n : Nat, 1 ≤ n ∧ n ≤ 4 ∧ (1 + (if (((ns.map V.int).length : Nat) : Int) < 3 then (((ns.map V.int).length : Nat) : Int) else 3)) = (n : Int) := by
      by_cases h3 : (((ns.map V.int).length : Nat) : Int) < 3
      · rw [if_pos h3]
        exact ⟨1 + (ns.map V.int).length, by omega, by omega, by omega⟩
      · rw [if_neg h3]
        exact ⟨4, by omega, by omega, by omega⟩
    refine ⟨.ref a, rfl, a, _, rfl, .inl hS, 3, _, rfl, _, _, rfl, rfl, ?_⟩
    dsimp only
    rw [hn]
    refine ⟨n, rfl, by omega, by omega, fun D nD => lc_range (lo := 0) (n := n) (fun i H4 => ∃ bs : List Addr, bs.length = i ∧ H4 D = some (.lst (bs.map V.ref)) ∧ (∀ b ∈ bs, Bx H4 b 0) ∧ Same H H4) ?_ ?_ ?_⟩
    · exact ⟨[], rfl, upd_same, fun b hb => by simp at hb, same_upd nD⟩
    · rintro i H4 hi ⟨bs, hbl, hD, hbs, sm⟩
      refine ⟨rfl, .ref a, rfl, .int (0 + (i : Int)), rfl, a, ns, i, (by rw [Int.zero_add]; rfl), sm.seq hS, by omega, fun b o nb hb => ?_⟩
      have nDb : D ≠ b := ne_of_none hD nb
      have s5 : Same H4 (upd H4 b o) := same_upd nb
      refine ⟨_, s5 _ _ hD, ?_, bs ++ [b], by rw [List.length_append, hbl]; rfl, ?_, ?_, ?_⟩
      · rw [List.length_map, hbl, PySem.sizeLine_eq]
        omega
      · rw [upd_same, List.map_append]
        rfl
      · intro b2 hb2
        rcases List.mem_append.mp hb2 with h | h
        · have h5 := (hbs b2 h).same s5
          refine h5.ne fun e => ?_
          obtain ⟨x, y, e1, _⟩ := hbs b2 h
          rw [e, hD] at e1
          have e2 := Option.some.inj e1
          injection e2 with e3
          cases bs with
          | nil => simp at e3
          | cons b0 br => simp at e3
        · rw [List.mem_singleton.mp h]
          exact hb.ne nDb.symm
      · intro b2 o2 e
        rw [upd_ne (ne_of_none e nD)]
        exact s5 _ _ (sm _ _ e)
    · rintro H4 ⟨bs, hbl, hD, hbs, sm⟩
      refine ⟨.ref D, rfl, D, 6, _, rfl, rfl, hD, by decide, by decide, ?_, fun R nR => ?_⟩
      · rw [List.length_map, hbl, PySem.sizeLine_eq]
        show n * 6 ≤ _
        omega
      have hxs : (List.replicate (6 : Int).toNat (bs.map V.ref)).flatten.length = 6 * n := by
        rw [List.length_flatten, List.map_replicate, List.sum_replicate_nat, List.length_map, hbl]
        rfl
      have hmem : ∀ {i : Nat} {x : V}, (List.replicate (6 : Int).toNat (bs.map V.ref)).flatten[i]? = some x → ∃ b ∈ bs, x = .ref b := fun h => rep_mem h
      generalize (List.replicate (6 : Int).toNat (bs.map V.ref)).flatten = xs at *
      have hbR : ∀ b ∈ bs, b ≠ R := fun b hb => (hbs b hb).new nR
      refine ⟨R, rfl, ⟨_, .inl (.inl upd_same)⟩, fun D2 nD2 => ?_⟩
      have hb5 : ∀ b ∈ bs, Bx (upd H4 R (.lst xs)) b 0 := fun b hb => (hbs b hb).ne (hbR b hb)
      have hbD : ∀ b ∈ bs, b ≠ D2 := fun b hb => (hb5 b hb).new nD2
      have hRD : R ≠ D2 := ne_of_none upd_same nD2
      refine lc_list (xs := xs) (fun i H6 => H6 D2 = some (.lst ((List.replicate i true).map V.bl)) ∧ H6 R = some (.lst xs) ∧ ∀ b ∈ bs, ∃ c, Bx H6 b c ∧ c ≤ 1000 * i) ?_ ?_ ?_ ?_
      · refine ⟨upd_same, ?_, fun b hb => ⟨0, (hb5 b hb).ne (hbD b hb), by omega⟩⟩
        rw [upd_ne hRD, upd_same]
      · rintro i H6 hi ⟨h1, h2, h3⟩
        exact .inl (.inl h2)
      · rintro i x H6 hx ⟨h1, h2, h3⟩
        obtain ⟨b, hb, rfl⟩ := hmem hx
        obtain ⟨c, hB, hc⟩ := h3 b hb
        have hi : i < xs.length := (List.getElem?_eq_some_iff.mp hx).1
        refine ⟨rfl, .ref b, rfl, b, c, rfl, hB, by omega, fun H7 c7 ho7 hb7 hc7 hc8 => ?_⟩
        have hD7 := ho7 _ _ h1 (hbD b hb).symm
        refine ⟨_, hD7, ?_, ?_, ?_, fun b2 hb2 => ?_⟩
        · rw [List.length_map, List.length_replicate, PySem.sizeLine_eq]
          omega
        · rw [upd_same, List.replicate_succ', List.map_append]
          rfl
        · rw [upd_ne hRD]
          exact ho7 _ _ h2 (hbR b hb).symm
        · by_cases e : b2 = b
          · subst e
            exact ⟨c7, hb7.ne (hbD _ hb2), by omega⟩
          · obtain ⟨c2, hB2, hc2⟩ := h3 b2 hb2
            exact ⟨c2, (hB2.oth ho7 e).ne (hbD b2 hb2), by omega⟩
      · rintro H6 ⟨h1, h2, h3⟩
        refine ⟨D2, _, rfl, .inl (.inl h1), ?_⟩
        rw [trues (bs := List.replicate xs.length true) fun z hz => (List.mem_replicate.mp hz).2]
        exact q H6
end
end HF
namespace HF
open PySem PySem.Spec PyProof.Rows L2
theorem kbinds_rn {K : PySem.W.Frag} {f : Addr} {fd : FuncData} (F : Fun K "ring_number" "ring_number" sRn f fd) : KBinds K fd ["heap", "ring"] ["ring", "heap"] g21 g21 := by
  obtain ⟨oc, od, kV, doc, pm, an, cdv, ct, osl, rfl, lk, hcd⟩ := F.ex
  refine ⟨fun s us ws _ hl => ?_, fun h1 h2 => g21_rel h1 h2⟩
  match us, ws, hl with
  | [], [r, h], _ => exact .of_eq rfl
/-- what the top has written, told once -/
structure At (K : PySem.W.Frag) (x : Str) (st : Stmt) (f : Addr) : Prop where
  ns : PySem.W.nsIn K mainGlobals x = some (some (.ref f))
  fn : ∃ (oc : Value) (od an : Option Addr) (osl : Array (Option Value)) (kV doc pm cdv ct : Value), K.lookup f = some ⟨oc, od, .func (PySem.W.fnOf x x (defArgs st) (defBody st) (defScope st) .none kV doc pm an cdv ct), osl⟩ ∧ PySem.W.codeIn K cdv x = true
  kp : PySem.W.keepIn K (.ref f) = true
theorem at_mk {K : PySem.W.Frag} {x : Str} {st : Stmt} {f : Addr} {oc : Value} {od an : Option Addr} {osl : Array (Option Value)} {kV doc pm cdv ct : Value} (n : PySem.W.nsIn K mainGlobals x = some (some (.ref f)))
    (l : K.lookup f = some ⟨oc, od, .func (PySem.W.fnOf x x (defArgs st) (defBody st) (defScope st) .none kV doc pm an cdv ct), osl⟩) (c : PySem.W.codeIn K cdv x = true) (k : PySem.W.keepIn K (.ref f) = true) : At K x st f := ⟨n, ⟨oc, od, an, osl, kV, doc, pm, cdv, ct, l, c⟩, k⟩
theorem At.fun {K : PySem.W.Frag} {x : Str} {st : Stmt} {f : Addr} (a : At K x st f) : ∃ fd, Fun K x x st f fd ∧ ∃ (kV doc pm : Value) (an : Option Addr) (cdv ct : Value), fd = PySem.W.fnOf x x (defArgs st) (defBody st) (defScope st) .none kV doc pm an cdv ct := by
  obtain ⟨oc, od, an, osl, kV, doc, pm, cdv, ct, l, c⟩ := a.fn
  exact ⟨_, fun_mk l c a.kp, kV, doc, pm, an, cdv, ct, rfl⟩
theorem all_mk {l : PySem.W.OpenLaw} {w : World} {K : PySem.W.Frag} {h : Heap} {mg : Str → Option Value} {fa : Addr} (X : K.In h) (G : h.Ns mainGlobals mg) (hfa : mg "law" = some (.ref fa))
    {fT : Addr} (aT : At K "_law_take" sTake fT)
    {fS : Addr} (aS : At K "_law_strewn" sStrewn fS)
    {fN : Addr} (aN : At K "_law_names" sNames fN)
    {fH : Addr} (aH : At K "_law_heap" sHeap fH)
    {fA : Addr} (aA : At K "_law_above" sAbove fA)
    {fU : Addr} (aU : At K "_law_number" sNum fU)
    {fL : Addr} (aL : At K "lies_above" sLies fL)
    {fR : Addr} (aR : At K "ring_ties" sRt fR)
    {fM : Addr} (aM : At K "ring_number" sRn fM)
    {fE : Addr} (aE : At K "_law_same" sSame fE)
    {fB : Addr} (aB : At K "_law_box" sBox fB)
    {fQ : Addr} (aQ : At K "_law_right" sRight fQ)
    {fW : Addr} (aW : At K "law" sLaw fW)
    (z_len : PySem.W.nsIn K mainGlobals "len" = some none)
    (z_abs : PySem.W.nsIn K mainGlobals "abs" = some none)
    (z_int : PySem.W.nsIn K mainGlobals "int" = some none)
    (z_range : PySem.W.nsIn K mainGlobals "range" = some none)
    (z_sorted : PySem.W.nsIn K mainGlobals "sorted" = some none)
    (z_tuple : PySem.W.nsIn K mainGlobals "tuple" = some none)
    (z_list : PySem.W.nsIn K mainGlobals "list" = some none)
    (z_isinstance : PySem.W.nsIn K mainGlobals "isinstance" = some none)
    (z_bool : PySem.W.nsIn K mainGlobals "bool" = some none)
    (z_str : PySem.W.nsIn K mainGlobals "str" = some none)
    (z_all : PySem.W.nsIn K mainGlobals "all" = some none)
    (z_zip : PySem.W.nsIn K mainGlobals "zip" = some none)
    (z_repr : PySem.W.nsIn K mainGlobals "repr" = some none)
    (z_min : PySem.W.nsIn K mainGlobals "min" = some none)
    : ∃ fd : FuncData, (∀ (s : Shared) (v : Value), BindsTo s fd ⟨[v], []⟩ [("_law_script", v)]) ∧ ∀ base : Heap, K.In base → base.Ns mainGlobals mg → FnG l.prog w K mg base CX0 6 fa fd ["_law_script"] (spLaw K) := by
  have e := hfa.symm.trans (PySem.W.mg_of X G aW.ns)
  cases e
  obtain ⟨dT, FT, kT1, kT2, kT3, kT4, kT5, kT6, eT⟩ := aT.fun
  obtain ⟨dS, FS, kS1, kS2, kS3, kS4, kS5, kS6, eS⟩ := aS.fun
  obtain ⟨dN, FN, kN1, kN2, kN3, kN4, kN5, kN6, eN⟩ := aN.fun
  obtain ⟨dH, FH, kH1, kH2, kH3, kH4, kH5, kH6, eH⟩ := aH.fun
  obtain ⟨dA, FA, kA1, kA2, kA3, kA4, kA5, kA6, eA⟩ := aA.fun
  obtain ⟨dU, FU, kU1, kU2, kU3, kU4, kU5, kU6, eU⟩ := aU.fun
  obtain ⟨dL, FL, kL1, kL2, kL3, kL4, kL5, kL6, eL⟩ := aL.fun
  obtain ⟨dR, FR, kR1, kR2, kR3, kR4, kR5, kR6, eR⟩ := aR.fun
  obtain ⟨dM, FM, kM1, kM2, kM3, kM4, kM5, kM6, eM⟩ := aM.fun
  obtain ⟨dE, FE, kE1, kE2, kE3, kE4, kE5, kE6, eE⟩ := aE.fun
  obtain ⟨dB, FB, kB1, kB2, kB3, kB4, kB5, kB6, eB⟩ := aB.fun
  obtain ⟨dQ, FQ, kQ1, kQ2, kQ3, kQ4, kQ5, kQ6, eQ⟩ := aQ.fun
  obtain ⟨dW, FW, kW1, kW2, kW3, kW4, kW5, kW6, eW⟩ := aW.fun
  refine ⟨dW, fun s v => by rw [eW]; exact .of_eq rfl, fun base _ _ => ok_law FW { fT := fT, dT := dT, FT := FT, bT := FT.binds fun _ _ _ _ _ _ us hl => (match us, hl with | [_, _], _ => rfl), gT := PySem.W.mg_of X G aT.ns, fS := fS, dS := dS, FS := FS, bS := FS.binds fun _ _ _ _ _ _ us hl => (match us, hl with | [_, _], _ => rfl), gS := PySem.W.mg_of X G aS.ns, fN := fN, dN := dN, FN := FN, bN := FN.binds fun _ _ _ _ _ _ us hl => (match us, hl with | [_, _], _ => rfl), gN := PySem.W.mg_of X G aN.ns, fH := fH, dH := dH, FH := FH, bH := FH.binds fun _ _ _ _ _ _ us hl => (match us, hl with | [_, _, _], _ => rfl), gH := PySem.W.mg_of X G aH.ns, fA := fA, dA := dA, FA := FA, bA := FA.binds fun _ _ _ _ _ _ us hl => (match us, hl with | [_, _, _], _ => rfl), gA := PySem.W.mg_of X G aA.ns, fU := fU, dU := dU, FU := FU, bU := FU.binds fun _ _ _ _ _ _ us hl => (match us, hl with | [_, _], _ => rfl), gU := PySem.W.mg_of X G aU.ns, fL := fL, dL := dL, FL := FL, bL := FL.binds fun _ _ _ _ _ _ us hl => (match us, hl with | [_, _, _], _ => rfl), gL := PySem.W.mg_of X G aL.ns, fR := fR, dR := dR, FR := FR, bR := FR.binds fun _ _ _ _ _ _ us hl => (match us, hl with | [_], _ => rfl), gR := PySem.W.mg_of X G aR.ns, fM := fM, dM := dM, FM := FM, bM := FM.binds fun _ _ _ _ _ _ us hl => (match us, hl with | [_, _], _ => rfl), gM := PySem.W.mg_of X G aM.ns, fE := fE, dE := dE, FE := FE, bE := FE.binds fun _ _ _ _ _ _ us hl => (match us, hl with | [_, _], _ => rfl), gE := PySem.W.mg_of X G aE.ns, fB := fB, dB := dB, FB := FB, bB := FB.binds fun _ _ _ _ _ _ us hl => (match us, hl with | [_, _], _ => rfl), gB := PySem.W.mg_of X G aB.ns, fQ := fQ, dQ := dQ, FQ := FQ, bQ := FQ.binds fun _ _ _ _ _ _ us hl => (match us, hl with | [_], _ => rfl), gQ := PySem.W.mg_of X G aQ.ns, m_len := PySem.W.mg_none_of X G z_len, m_abs := PySem.W.mg_none_of X G z_abs, m_int := PySem.W.mg_none_of X G z_int, m_range := PySem.W.mg_none_of X G z_range, m_sorted := PySem.W.mg_none_of X G z_sorted, m_tuple := PySem.W.mg_none_of X G z_tuple, m_list := PySem.W.mg_none_of X G z_list, m_isinstance := PySem.W.mg_none_of X G z_isinstance, m_bool := PySem.W.mg_none_of X G z_bool, m_str := PySem.W.mg_none_of X G z_str, m_all := PySem.W.mg_none_of X G z_all, m_zip := PySem.W.mg_none_of X G z_zip, m_repr := PySem.W.mg_none_of X G z_repr, m_min := PySem.W.mg_none_of X G z_min, kM := kbinds_rn FM }⟩
end HF
open PySem PySem.W PyProof.Rows
set_option maxHeartbeats 0 in
theorem PySem.Challenge.cw_heapfriends_k09_numbers_of_rings_holds : PySem.Challenge.rw_heapfriends_k09_numbers_of_rings.Holds := by
  w_on; o_law; k_head; (case hw => w_witness2)
  k_fill
  refine HF.walkG (l := PySem.Challenge.rw_heapfriends_k09_numbers_of_rings) (n := 63) (k := 6) (x := "_law_script") (sp := HF.spLaw) rfl (by decide) rfl ⟨rfl, by decide, by decide⟩ (fun w h Y => PySem.W.kIn_of Y) ?F (fun K H a ns hl _ hS => ⟨a, ns, rfl, hS, hl, fun _ => rfl⟩)
  case F =>
    intro w mg fa h KX G hmg
    refine' HF.all_mk KX G hmg (HF.at_mk ?nT ?lT ?cT ?kT) (HF.at_mk ?nS ?lS ?cS ?kS) (HF.at_mk ?nN ?lN ?cN ?kN) (HF.at_mk ?nH ?lH ?cH ?kH) (HF.at_mk ?nA ?lA ?cA ?kA) (HF.at_mk ?nU ?lU ?cU ?kU) (HF.at_mk ?nL ?lL ?cL ?kL) (HF.at_mk ?nR ?lR ?cR ?kR) (HF.at_mk ?nM ?lM ?cM ?kM) (HF.at_mk ?nE ?lE ?cE ?kE) (HF.at_mk ?nB ?lB ?cB ?kB) (HF.at_mk ?nQ ?lQ ?cQ ?kQ) (HF.at_mk ?nW ?lW ?cW ?kW) ?zlen ?zabs ?zint ?zrange ?zsorted ?ztuple ?zlist ?zisinstance ?zbool ?zstr ?zall ?zzip ?zrepr ?zmin
    (case nT => k_is); (case lT => k_is); (case cT => k_is); (case kT => k_is)
    (case nS => k_is); (case lS => k_is); (case cS => k_is); (case kS => k_is)
    (case nN => k_is); (case lN => k_is); (case cN => k_is); (case kN => k_is)
    (case nH => k_is); (case lH => k_is); (case cH => k_is); (case kH => k_is)
    (case nA => k_is); (case lA => k_is); (case cA => k_is); (case kA => k_is)
    (case nU => k_is); (case lU => k_is); (case cU => k_is); (case kU => k_is)
    (case nL => k_is); (case lL => k_is); (case cL => k_is); (case kL => k_is)
    (case nR => k_is); (case lR => k_is); (case cR => k_is); (case kR => k_is)
    (case nM => k_is); (case lM => k_is); (case cM => k_is); (case kM => k_is)
    (case nE => k_is); (case lE => k_is); (case cE => k_is); (case kE => k_is)
    (case nB => k_is); (case lB => k_is); (case cB => k_is); (case kB => k_is)
    (case nQ => k_is); (case lQ => k_is); (case cQ => k_is); (case kQ => k_is)
    (case nW => k_is); (case lW => k_is); (case cW => k_is); (case kW => k_is)
    (case zlen => k_is)
    (case zabs => k_is)
    (case zint => k_is)
    (case zrange => k_is)
    (case zsorted => k_is)
    (case ztuple => k_is)
    (case zlist => k_is)
    (case zisinstance => k_is)
    (case zbool => k_is)
    (case zstr => k_is)
    (case zall => k_is)
    (case zzip => k_is)
    (case zrepr => k_is)
    (case zmin => k_is)
